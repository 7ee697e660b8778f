import PyProof.Rows.All
import Wide.All
import OpenK.AllK
import Wide.FinOn
import Lean
import PyProof.EqAt
import PyProof.EqKinds
import PyProof.TupleCall
import PyProof.Rows.SortShellK
import PyProof.Rows.CallKwBuiltin
import PyProof.InstStoreFacts
import PySem.Challenge.RW_turncoins_k64_tables
set_option Elab.async false
set_option linter.all false
set_option maxRecDepth 100000
open List (length_map getElem?_map mem_of_getElem? getElem?_eq_getElem mem_cons_of_mem mem_cons_self mem_filter mem_range mem_singleton mem_append_left mem_append_right length_append length_range take_add_one filter_cons mem_iff_getElem? map_congr_left getElem?_range mem_append take_length pairwise_map pairwise_cons getElem?_append_left getElem?_append_right getElem?_eq_none length_take foldr_cons length_eq_zero_iff any_eq_false any_eq_true all_eq_true length_replicate length_singleton)
open PySem.W (Frag nsIn keepIn codeIn fnOf)
namespace L2
open PySem PySem.Spec PyProof.Rows
noncomputable abbrev Key:=Sum Int Str
noncomputable def n6:Key→Value→Bool
 | .inl k,v=>Value.isInt k v
 | .inr x,v=>Value.isStrOf x v
noncomputable def Q1 (w:World):Key→Int
 | .inl k=>hashInt k
 | .inr x=>hashStr w x
theorem cg:∀{k:Key}{v:Value},n6 k v=true→(∃i t,k=Sum.inl i∧v=Value.int i t)∨(∃x t,k=Sum.inr x∧v=Value.str x t)
 | .inl i,v,h=>by
  obtain⟨t,e⟩:=Value.isInt_shape (k:=i) (v:=v) h
  exact .inl ⟨i,t,rfl,e⟩
 | .inr x,v,h=>by
  obtain⟨t,e⟩:=Value.isStrOf_shape (x:=x) (v:=v) h
  exact .inr ⟨x,t,rfl,e⟩
theorem zY (i:Int) (t:Tok):n6 (.inl i) (.int i t)=true:=by simp[n6,Value.isInt]
theorem zZ (x:Str) (t:Tok):n6 (.inr x) (.str x t)=true:=by simp[n6,Value.isStrOf]
theorem Jh (a b:Int):decide ((Sum.inl a:Key)=Sum.inl b)=(a == b):=by
 by_cases e:a=b
 ·subst e;simp
 ·have h:¬(Sum.inl a:Key)=Sum.inl b:=fun q=>e (Sum.inl.inj q)
  rw[decide_eq_false h]
  exact(beq_eq_false_iff_ne.mpr e).symm
theorem Ji (a b:Str):decide ((Sum.inr a:Key)=Sum.inr b)=decide (a=b):=by
 by_cases e:a=b
 ·subst e;simp
 ·have h:¬(Sum.inr a:Key)=Sum.inr b:=fun q=>e (Sum.inr.inj q)
  rw[decide_eq_false h,decide_eq_false e]
theorem Jj (a:Int) (b:Str):decide ((Sum.inl a:Key)=Sum.inr b)=false:=decide_eq_false (fun q=>nomatch q)
theorem Jk (a:Str) (b:Int):decide ((Sum.inr a:Key)=Sum.inl b)=false:=decide_eq_false (fun q=>nomatch q)
noncomputable def bC (prog:Program) (w:World):PySem.KeyKind prog w Key where
 is:=n6
 hash:=Q1 w
 inj:=fun v a b ha hb=>by
  rcases cg ha with⟨i,t,rfl,rfl⟩|⟨x,t,rfl,rfl⟩
  ·rcases cg hb with⟨j,u,rfl,e⟩|⟨y,u,rfl,e⟩
   ·injection e with e1 _;rw[e1]
   ·exact nomatch e
  ·rcases cg hb with⟨j,u,rfl,e⟩|⟨y,u,rfl,e⟩
   ·exact nomatch e
   ·injection e with e1 _;rw[e1]
 byValue:=fun k v h=>by
  rcases cg h with⟨i,t,rfl,rfl⟩|⟨x,t,rfl,rfl⟩<;>rfl
 pyHash:=fun hv h=>by
  rcases cg hv with⟨i,t,rfl,rfl⟩|⟨x,t,rfl,rfl⟩
  ·exact wpAny_pyHash_int h
  ·exact wpAny_pyHash_str h
 eqBool:=fun hu hv h=>by
  rcases cg hu with⟨i,t,rfl,rfl⟩|⟨x,t,rfl,rfl⟩
  ·rcases cg hv with⟨j,u,rfl,rfl⟩|⟨y,u,rfl,rfl⟩
   ·rw[Jh] at h;exact wpAny_eqBool_int h
   ·rw[Jj] at h;exact SeqAt.EqAt.int_str i t y u _ _ _ _ h
  ·rcases cg hv with⟨j,u,rfl,rfl⟩|⟨y,u,rfl,rfl⟩
   ·rw[Jk] at h;exact SeqAt.EqAt.str_int x t j u _ _ _ _ h
   ·rw[Ji] at h;exact wpAny_eqBool_str h
 «strs»:=fun k x t v h=>by
  rcases cg h with⟨i,u,rfl,e⟩|⟨y,u,rfl,e⟩
  ·exact nomatch e
  ·injection e with e1 _
   subst e1
   cases v<;>rfl
theorem uQ (prog:Program) (w:World) (i:Int) (t:Tok):(bC prog w).is (.inl i) (.int i t)=true:=zY i t
theorem uR (prog:Program) (w:World) (x:Str) (t:Tok):(bC prog w).is (.inr x) (.str x t)=true:=zZ x t
inductive V where
 | cK|bl (b:Bool)|int (i:Int)|str (x:Str)|wG (b:Array UInt8)|Fd (b:UInt64)|ref (a:Addr)|ty (n:String)
 deriving DecidableEq
noncomputable def RelV:V→Value→Prop
 | .cK,u=>u=Value.none
 | .bl b,u=>u=Value.bool b
 | .int i,u=>∃t,u=Value.int i t
 | .str x,u=>∃t,u=Value.str x t
 | .wG b,u=>∃t,u=Value.bytes b t
 | .Fd b,u=>∃t,u=Value.float b t
 | .ref a,u=>u=Value.ref a
 | .ty n,u=>u=Value.type n
noncomputable abbrev Vals:List V→List Value→Prop:=Paired RelV
theorem Vals.length {xs:List V}{us:List Value}(r:Vals xs us):xs.length=us.length:=Paired.length r
theorem Vals.get:∀{xs:List V}{us:List Value}{i:Nat}{x:V},Vals xs us→xs[i]?=some x→∃u,us[i]?=some u∧RelV x u
 | _,_,_,_,.nil,e=>by simp at e
 | _,_,0,_,.cons r _,e=>by simp at e;subst e;exact⟨_,rfl,r⟩
 | _,_,i+1,x,.cons _ t,e=>by
  obtain⟨u,h1,h2⟩:=Vals.get (i:=i) (x:=x) t (by simpa using e)
  exact⟨u,by simpa using h1,h2⟩
theorem Vals.set {x:V}{u:Value}(r:RelV x u):∀{xs:List V}{us:List Value}(i:Nat),Vals xs us→Vals (xs.set i x) (us.set i u)
 | _,_,_,.nil=>.nil
 | _,_,0,.cons _ t=>.cons r t
 | _,_,i+1,.cons q t=>.cons q (Vals.set r i t)
theorem Vals.append:∀{xs ys:List V}{us ws:List Value},Vals xs us→Vals ys ws→Vals (xs++ys) (us++ws)
 | _,_,_,_,.nil,s=>s
 | _,_,_,_,.cons r t,s=>.cons r (Vals.append t s)
theorem Vals.take:∀{xs:List V}{us:List Value}(n:Nat),Vals xs us→Vals (xs.take n) (us.take n)
 | _,_,0,_=>.nil
 | _,_,_+1,.nil=>.nil
 | _,_,n+1,.cons r t=>.cons r (Vals.take n t)
theorem Vals.drop:∀{xs:List V}{us:List Value}(n:Nat),Vals xs us→Vals (xs.drop n) (us.drop n)
 | _,_,0,r=>r
 | _,_,_+1,.nil=>.nil
 | _,_,n+1,.cons _ t=>Vals.drop n t
noncomputable def fU:Option V→Option Value→Prop
 | some v,some u=>RelV v u
 | none,none=>True
 | _,_=>False
noncomputable def KV {κ:Type}:List (κ×V)→List (κ×Value)→Prop:=Paired fun(p:κ×V) (q:κ×Value)=>p.1=q.1∧RelV p.2 q.2
noncomputable def kV:Key→V
 | .inl i=>.int i
 | .inr x=>.str x
inductive HO where
  | lst (xs:List V)
  | tup (xs:List V)
  | dK (ar:List (Key×V))|dT (ar:List (List Key×V))
  | set (S:Int→Bool) (n:Nat)
  | ins (C dx:Addr) (fs:List (Str×V))
  | own (x:Addr)
  | xd (fs:List (Str×V))
  | met (f x:Addr)
  | Py (lo hi:Int)
  | uS (o:Obj) (u:HO)
  | ER (ps:Array Value)
  | ext (φ:Heap→Prop)
noncomputable abbrev Hp:=Addr→Option HO
noncomputable def upd (H:Hp) (a:Addr) (o:HO):Hp:=fun b=>if b=a then some o else H b
theorem ah {H:Hp}{a:Addr}{o:HO}:upd H a o a=some o:=by unfold upd;rw[if_pos rfl]
theorem av {H:Hp}{a b:Addr}{o:HO}(h:b≠a):upd H a o b=H b:=by unfold upd;rw[if_neg h]
theorem Fe {H:Hp}{a:Addr}{o u:HO}:upd (upd H a o) a u=upd H a u:=by
 funext b;unfold upd;split<;>rfl
theorem iX {H:Hp}{a b:Addr}{o u:HO}(h:H a=some o) (h':H b=some u) (d:o≠u):a≠b:=by
 intro e;subst e;rw[h] at h';exact d (Option.some.inj h')
theorem aE {H:Hp}{a b:Addr}{o:HO}(h:H a=some o) (h':H b=none):a≠b:=by
 intro e;subst e;rw[h] at h';cases h'
section
variable (P:Program) (w:World)
noncomputable def aX (H:Hp) (h:Heap) (a:Addr):HO→Prop
 | .lst xs=>xs.length≤sizeLine∧∃(its:List Value) (n:Nat),Vals xs its∧h.get? a=some { cls:=.type "list",data:=.seq its.toArray n }
 | .tup xs=>xs.length≤sizeLine∧∃its:List Value,Vals xs its∧IsTup h a its.toArray
 | .dK ar=>ar.length≤sizeLine∧(a == sysModules)=false∧∃vs,KV ar vs∧h.DictOf (bC P w) a vs
 | .dT ar=>ar.length≤sizeLine∧(a == sysModules)=false∧∃xs:List (List Key×Addr×Value),
   Paired (fun(p:List Key×V) (q:List Key×Addr×Value)=>p.1=q.1∧H q.2.1=some (.tup (p.1.map kV))∧RelV p.2 q.2.2) ar xs ∧
   ∃o es ep,h.get? a=some o∧o.ExactDict∧o.data = .dict es ep∧es.toList=xs.map (entryOfKey (tupleKind (bC P w)))∧(xs.map (·.1)).Nodup
 | .set S n=>h.SetOf (intKind P w) a S n
 | .ins C dx fs=>H dx=some (.own a)∧fs.length≤1000∧dx≠a∧h.get? a=some (PySem.W.instObj C dx) ∧
   ∃mA,h.Ns1 dx mA∧(∀f,fU (fs.lookup f) (mA f))∧PySem.Within mA (fs.map (·.1))
 | .own _=>∃o,h.get? a=some o
 | .xd fs=>∃mA,h.Ns1 a mA∧∀f,fU (fs.lookup f) (mA f)
 | .Py lo hi=>∃t u v,h.get? a=some { cls:=.type "range",data:=.fields #[.int lo t,.int hi u,.int 1 v] }
 | .uS o u=>h.get? a=some o∧aX H h a u
 | .ER ps=>h.get? a=some { cls:=.none,data:=.fields ps }
 | .met f x=>h.get? a=some (PySem.W.methodObj (.ref f) (.ref x))
 | .ext φ=>φ h∧(∃o,h.get? a=some o)∧∀h1 h2:Heap,φ h1→(∀o,h1.get? a=some o→h2.get? a=some o)→φ h2
noncomputable def gW (H:Hp) (h:Heap):Prop:=∀a o,H a=some o→aX P w H h a o
end
section
variable {P:Program}{w:World}{H H':Hp}{h h':Heap}{a:Addr}{o:HO}
theorem aX.lt (x:aX P w H h a o):a<h.objs.size:=by
 cases o with
 | lst xs=>obtain⟨_,_,_,_,e⟩:=x;exact Heap.lt_size e
 | tup xs=>obtain⟨_,_,_,p⟩:=x;exact p.lt
 | dK ar=>obtain⟨_,_,_,_,o,_,_,e,_⟩:=x;exact Heap.lt_size e
 | dT ar=>obtain⟨_,_,_,_,o,_,_,e,_⟩:=x;exact Heap.lt_size e
 | set S n=>obtain⟨o,_,_,_,e,_⟩:=x;exact Heap.lt_size e
 | ins C dx fs=>obtain⟨_,_,_,e,_⟩:=x;exact Heap.lt_size e
 | own y=>obtain⟨_,e⟩:=x;exact Heap.lt_size e
 | xd fs=>obtain⟨_,⟨_,_,_,e,_⟩,_⟩:=x;exact Heap.lt_size e
 | Py lo hi=>obtain⟨_,_,_,e⟩:=x;exact Heap.lt_size e
 | uS ob u=>obtain⟨e,_⟩:=x;exact Heap.lt_size e
 | ER ps=>exact Heap.lt_size (show h.get? a=some _ from x)
 | met f y=>exact Heap.lt_size (show h.get? a=some _ from x)
 | ext φ=>obtain⟨_,⟨_,e⟩,_⟩:=x;exact Heap.lt_size e
theorem Paired.Jl {α β:Type}{F G:α→β→Prop}:∀{l₁:List α}{l₂:List β},Paired F l₁ l₂→(∀a b,F a b→G a b)→Paired G l₁ l₂
 | _,_,.nil,_=>.nil
 | _,_,.cons r t,f=>.cons (f _ _ r) (Paired.Jl t f)
theorem aX.iY (x:aX P w H h a o) (k:∀b u,(b=a∨H b=some (.own a))→h.get? b=some u→h'.get? b=some u)
  (ho:∀b,H b=some (.own a)→H' b=some (.own a)) (ht:∀b xs,H b=some (.tup xs)→H' b=some (.tup xs)):aX P w H' h' a o:=by
 induction o with
 | lst xs=>obtain⟨z,its,n,r,e⟩:=x;exact⟨z,its,n,r,k _ _ (.inl rfl) e⟩
 | tup xs=>obtain⟨z,its,r,ob,e,c⟩:=x;exact⟨z,its,r,ob,k _ _ (.inl rfl) e,c⟩
 | dK ar=>obtain⟨z,y,vs,r,ob,es,ep,e,c⟩:=x;exact⟨z,y,vs,r,ob,es,ep,k _ _ (.inl rfl) e,c⟩
 | dT ar =>
  obtain⟨z,y,xs,r,ob,es,ep,e,c⟩:=x
  exact⟨z,y,xs,Paired.Jl r fun p q z=>⟨z.1,ht _ _ z.2.1,z.2.2⟩,ob,es,ep,k _ _ (.inl rfl) e,c⟩
 | set S n=>obtain⟨ob,es,ep,t,e,c⟩:=x;exact⟨ob,es,ep,t,k _ _ (.inl rfl) e,c⟩
 | ins C dx fs =>
  obtain⟨d,z,ne,e,mA,⟨od,es,ep,e2,c⟩,r⟩:=x
  exact⟨ho _ d,z,ne,k _ _ (.inl rfl) e,mA,⟨od,es,ep,k _ _ (.inr d) e2,c⟩,r⟩
 | own y=>obtain⟨ob,e⟩:=x;exact⟨ob,k _ _ (.inl rfl) e⟩
 | xd fs=>obtain⟨mA,⟨od,es,ep,e,c⟩,r⟩:=x;exact⟨mA,⟨od,es,ep,k _ _ (.inl rfl) e,c⟩,r⟩
 | Py lo hi=>obtain⟨t,u,v,e⟩:=x;exact⟨t,u,v,k _ _ (.inl rfl) e⟩
 | uS ob u ih=>obtain⟨e,q⟩:=x;exact⟨k _ _ (.inl rfl) e,ih q⟩
 | ER ps =>
  have e:h.get? a=some { cls:=.none,data:=.fields ps }:=x
  show h'.get? a=some { cls:=.none,data:=.fields ps }
  exact k a _ (.inl rfl) e
 | met f y =>
  have e:h.get? a=some (PySem.W.methodObj (.ref f) (.ref y)):=x
  show h'.get? a=some (PySem.W.methodObj (.ref f) (.ref y))
  exact k a _ (.inl rfl) e
 | ext φ=>obtain⟨p,⟨o,e⟩,st⟩:=x;exact⟨st _ _ p fun o q=>k _ _ (.inl rfl) q,⟨o,k _ _ (.inl rfl) e⟩,st⟩
theorem gW.lt (x:gW P w H h) (e:H a=some o):a<h.objs.size:=(x a o e).lt
theorem gW.fresh (x:gW P w H h) (e:h.objs.size≤a):H a=none:=by
 cases q:H a with
 | none=>rfl
 | some u=>exact absurd (Nat.lt_of_lt_of_le (x.lt q) e) (Nat.lt_irrefl _)
theorem gW.kept (x:gW P w H h) (k:∀b u,h.get? b=some u→h'.get? b=some u):gW P w H h':=fun a o e =>
 (x a o e).iY (fun b u _ q=>k b u q) (fun _ q=>q) fun _ _ q=>q
theorem gW.laid (x:gW P w H h) (k:∀b u,h.get? b=some u→h'.get? b=some u) (hp:h.objs.size≤a) (new:aX P w (upd H a o) h' a o):gW P w (upd H a o) h':=fun b u e=>by
 have hn:=x.fresh hp
 by_cases hb:b=a
 ·subst hb;rw[ah] at e;cases e;exact new
 ·rw[av hb] at e
  exact(x b u e).iY (fun c v _ q=>k c v q) (fun c q=>by rw[av (aE q hn)];exact q) fun c xs q=>by rw[av (aE q hn)];exact q
end
noncomputable def Rd (H:Hp) (a:Addr) (u:HO):Prop:=H a=some u∨∃o,H a=some (.uS o u)
theorem Rd.ok {P:Program}{w:World}{H:Hp}{h:Heap}{a:Addr}{u:HO}(r:Rd H a u) (x:gW P w H h):aX P w H h a u:=by
 rcases r with r|⟨o,r⟩
 ·exact x a u r
 ·obtain⟨_,q⟩:=x a _ r
  exact q
noncomputable def Ff:Option HO→Prop
 | some (.lst _)=>True
 | some (.dK _)=>True
 | some (.dT _)=>True
 | some (.set _ _)=>True
 | some (.ins _ _ _)=>True
 | some (.ext _)=>True
 | _=>False
section
variable {P:Program}{w:World}{H:Hp}{h h':Heap}{x e:Addr}{o':HO}
theorem gW.write (ok:gW P w H h) (mu:Ff (H x)) (he:e=x∨H e=some (.own x)) (k:∀b u,b≠e→h.get? b=some u→h'.get? b=some u) (LL:∃u,h'.get? e=some u)
  (new:aX P w (upd H x o') h' x o'):gW P w (upd H x o') h':=fun b u q=>by
 have Mf:∀c y,H c=some (.own y)→c≠x:=fun c y r z=>by subst z;rw[r] at mu;exact mu
 have Q2:∀c xs,H c=some (.tup xs)→c≠x:=fun c xs r z=>by subst z;rw[r] at mu;exact mu
 by_cases hb:b=x
 ·subst hb;rw[ah] at q;cases q;exact new
 ·rw[av hb] at q
  by_cases Aa:b=e
  ·have q':H b=some (.own x):=by
    rcases he with z|z
    ·exact absurd (Aa.trans z) hb
    ·rw[Aa];exact z
   rw[q] at q';cases q'
   obtain⟨v,hv⟩:=LL
   exact⟨v,by rw[Aa];exact hv⟩
  ·refine(ok b u q).iY (fun c v hc r=>k c v ?_ r) (fun c r=>by rw[av (Mf c b r)];exact r) fun c xs r=>by rw[av (Q2 c xs r)];exact r
   rcases hc with rfl|hc
   ·exact Aa
   ·rintro rfl
    rcases he with z|z
    ·exact Mf c b hc z
    ·rw[hc] at z;cases z;exact hb rfl
end
structure Un (fs ex:List Addr) (H H':Hp) (h h':Heap):Prop where
 keep:∀b o,h.get? b=some o→H b=none→b∉fs→b∉ex→h'.get? b=some o
 slot:∀b o,h.get? b=some o→H b=none→b∈fs→b∉ex→∃sl,h'.get? b=some { o with slots:=sl }
 free:∀b o,h.get? b=some o→H b=none→b∉ex→H' b=none
 there:∀b o,h.get? b=some o→b∉ex→∃o',h'.get? b=some o'
 kL:∀b xs,H b=some (.tup xs)→H' b=some (.tup xs)
 kz:∀b o u,H b=some (.uS o u)→H' b=some (.uS o u)
 kO:∀b ps,H b=some (.ER ps)→∃more,H' b=some (.ER (ps++more))
section
variable {fs Fg ex ex':List Addr}{H H1 H2:Hp}{h h1 h2 h':Heap}{a x e:Addr}{o:HO}
theorem Un.any (u:Un fs ex H H1 h h1) {b:Addr}{ob:Obj}(q:h.get? b=some ob) (n:H b=none) (hx:b∉ex):∃sl,h1.get? b=some { ob with slots:=sl }:=by
 by_cases hb:b∈fs
 ·exact u.slot b ob q n hb hx
 ·exact⟨ob.slots,u.keep b ob q n hb hx⟩
theorem Un.kept (k:∀b u,h.get? b=some u→h'.get? b=some u):Un fs ex H H h h' :=
 ⟨fun b ob q _ _ _=>k b ob q,fun b ob q _ _ _=>⟨ob.slots,k b ob q⟩,fun _ _ _ n _=>n,fun b ob q _=>⟨ob,k b ob q⟩,fun _ _ q=>q,fun _ _ _ q=>q,fun _ ps q=>⟨#[],by rw[q];simp⟩⟩
theorem Un.refl:Un fs ex H H h h:=Un.kept fun _ _ q=>q
theorem Un.laid (k:∀b u,h.get? b=some u→h'.get? b=some u) (hp:h.objs.size≤a) (hn:H a=none):Un fs ex H (upd H a o) h h' where
 keep:=fun b u q _ _ _=>k b u q
 slot:=fun b u q _ _ _=>⟨u.slots,k b u q⟩
 free:=fun b u q n _=>by rw[av (Nat.ne_of_lt (Nat.lt_of_lt_of_le (Heap.lt_size q) hp))];exact n
 there:=fun b u q _=>⟨u,k b u q⟩
 kL:=fun b xs q=>by rw[av (aE q hn)];exact q
 kz:=fun b u xs q=>by rw[av (aE q hn)];exact q
 kO:=fun b ps q=>⟨#[],by rw[av (aE q hn),q];simp⟩
theorem Un.write (mu:Ff (H x)) (he:e=x∨H e=some (.own x)) (k:∀b u,b≠e→h.get? b=some u→h'.get? b=some u) (LL:∃u,h'.get? e=some u):Un fs ex H (upd H x o) h h':=by
 have hx:∀b,H b=none→b≠x:=fun b n z=>by subst z;rw[n] at mu;exact mu
 have hb:∀b,H b=none→b≠e:=fun b n z=>by
  subst z
  rcases he with r|r
  ·exact hx b n r
  ·rw[n] at r;cases r
 have hm:∀b u,H b=some u→¬Ff (some u)→b≠x:=fun b u q nm z=>by subst z;rw[q] at mu;exact nm mu
 refine⟨fun b u q n _ _=>k b u (hb b n) q,fun b u q n _ _=>⟨u.slots,k b u (hb b n) q⟩,fun b u q n _=>by rw[av (hx b n)];exact n,fun b u q _=>?_,
  fun b xs q=>by rw[av (hm b _ q fun z=>z)];exact q,fun b u xs q=>by rw[av (hm b _ q fun z=>z)];exact q,fun b ps q=>⟨#[],by rw[av (hm b _ q fun z=>z),q];simp⟩⟩
 by_cases Aa:b=e
 ·subst Aa;exact LL
 ·exact⟨u,k b u Aa q⟩
end
noncomputable def Pz (h:Heap) (H:Hp):List Addr:=(List.range h.objs.size).filter fun a=>(H a).isSome
noncomputable def so (h:Heap) (H:Hp):Heap:=PySem.W.hideAll h (Pz h H)
theorem Ab (h:Heap) (H:Hp):(so h H).objs.size=h.objs.size:=PySem.W.hideAll_size _ _
theorem BC {h:Heap}{H:Hp}{b:Addr}{o:Obj}(e:h.get? b=some o) (n:H b=none):(so h H).get? b=some o :=
 PySem.W.hideAll_get _ e fun hm=>by
  have q:(H b).isSome=true:=(mem_filter.mp hm).2
  rw[n] at q;simp at q
theorem Fh {h:Heap}{H:Hp}{b:Addr}{o:Obj}(e:(so h H).get? b=some o):h.get? b=some o∧H b=none:=by
 have e':h.get? b=some o:=PySem.W.of_hideAll (Pz h H) e
 refine⟨e',?_⟩
 cases q:H b with
 | none=>rfl
 | some x =>
  have hm:b∈Pz h H:=mem_filter.mpr ⟨mem_range.mpr (Heap.lt_size e'),by simp[q]⟩
  have z:(so h H).get? b=none:=PySem.W.hideAll_none (Pz h H) hm
  rw[z] at e;cases e
noncomputable def Fi (g h:Heap) (L:Addr):List (Addr×Obj):=(List.range h.objs.size).filterMap fun a=>if a=L∨(g.get? a).isSome=true then none else (h.get? a).map fun o=>(a,o)
noncomputable def rest (g h:Heap) (L d:Addr):List (Addr×Obj):=(Fi g h L).filter fun p=>decide (p.1≠d)
structure Mod (K:Frag) (mg:Str→Option Value) (base:Heap):Prop where
 BD:K.In base
 glob:base.Ns mainGlobals mg
 blt:∃mb,base.Ns builtinsNs mb∧∀x:Str,x≠"__name__"→mb x=bootBuiltins x
 nolimit:base.NoLimit
structure Cx where
 prog:Program
 w:World
 K:Frag
 mg:Str→Option Value
 base:Heap
 A:Around
 N:List Str
 s₀:Shared
 H₀:Hp
 env:Env
 outer:List Env
 stack:List Env
 ex:List Addr
 fn:Str→Bool
 calm:Bool
 pn:List (Addr×Obj)
 xe:Value→Shared→Prop
noncomputable def my (l:List Env):List Addr:=l.filterMap (·.frame)
noncomputable abbrev Cx.fs (X:Cx):List Addr:=my X.outer
noncomputable def Q3 (sc:Scope) (x:Str):Prop:=sc.names.lookup x=some .local ∨ sc.names.lookup x=some .cell∨sc.names.lookup x=some .free
noncomputable def Loc (sc:Scope) (x:Str):Prop:=sc.names.lookup x=some .local ∨ sc.names.lookup x=some .cell
noncomputable def Look (env:Env) (h:Heap) (m:Str→Option Value) (x:Str) (u:Value):Prop :=
 (env.kindOf x=some .local∧m x=some u)∨((env.kindOf x=some .cell∨env.kindOf x=some .free)∧∃c,env.cells.lookup x=some c∧h.IsCell c (some u))
structure Cx.Ok (X:Cx):Prop where
 mod:Mod X.K X.mg X.base
 kind:X.env.scope.kind = .function
 glob:X.env.globals=mainGlobals
 blt:X.env.builtins=builtinsNs
 above:X.s₀.heap.objs.size≤X.env.locals
 inj:∀x y c,X.env.cells.lookup x=some c→X.env.cells.lookup y=some c→x=y
 has:∀x,(X.env.kindOf x=some .cell∨X.env.kindOf x=some .free)→∃c,X.env.cells.lookup x=some c
 Fj:∀x c,X.fn x=true→X.env.cells.lookup x=some c→X.s₀.heap.objs.size≤c
 hd:X.calm=true→X.A.handled=none
 frames:X.A.frames=some X.stack
 HS:X.stack=X.outer∨(X.stack=X.env::X.outer∧X.env.frame=some X.env.locals)
 LM:∀b∈X.ex,b≠X.env.locals∧∀x c,X.env.cells.lookup x=some c→c≠b
 bs:∀b o,X.base.get? b=some o→X.s₀.heap.get? b=some o∧X.H₀ b=none
 uT:X.base.objs.size≤X.s₀.heap.objs.size
 qx:∀b o,X.base.get? b=some o→b∉X.ex
 uU:∀b∈X.ex,b∉X.fs
 iZ:X.s₀.heap.FunFrames X.base X.outer
 Bq:∀b∈X.fs,X.H₀ b=none
structure Inv (X:Cx) (pins:List (Addr×Obj)) (σ:List (Option V)) (H:Hp) (s:Shared):Prop where
 ok:X.Ok
 os:s.os=X.s₀.os
 bare:AllBare s.gens
 base:Un X.fs X.ex X.H₀ H X.s₀.heap s.heap
 loc:∃m,s.heap.Ns X.env.locals m∧∀(i:Nat) (x:Str) (v:V),X.N[i]?=some x→σ[i]?=some (some v)→Q3 X.env.scope x→∃u,RelV v u∧Look X.env s.heap m x u
 cell:∀x c,X.env.cells.lookup x=some c→∃v,s.heap.IsCell c v
 free:H X.env.locals=none
 dC:∀x c,X.env.cells.lookup x=some c→H c=none
 pin:∀p∈X.pn++pins,s.heap.get? p.1=some p.2∧H p.1=none∧p.1≠X.env.locals∧p.1∉X.fs∧∀v,p.2.data≠.cell v
 aR:gW X.prog X.w H s.heap
 len:σ.length=X.N.length
section
variable {X:Cx}{pins:List (Addr×Obj)}{σ:List (Option V)}{H H':Hp}{s:Shared}{h':Heap}
theorem Cx.Ok.Q4 (ok:X.Ok) {b:Addr}{o:Obj}(e:X.base.get? b=some o):b∉X.fs:=fun hb=>by
 have:=(ok.iZ.mem hb).1
 rw[e] at this;cases this
theorem Inv.bs (I:Inv X pins σ H s):∀b o,X.base.get? b=some o→s.heap.get? b=some o∧H b=none:=fun b o e =>
 ⟨I.base.keep b o (I.ok.bs b o e).1 (I.ok.bs b o e).2 (I.ok.Q4 e) (I.ok.qx b o e),I.base.free b o (I.ok.bs b o e).1 (I.ok.bs b o e).2 (I.ok.qx b o e)⟩
theorem Inv.bk (I:Inv X pins σ H s):∀b o,X.base.get? b=some o→s.heap.get? b=some o:=fun b o e=>(I.bs b o e).1
theorem Inv.mod (I:Inv X pins σ H s):Mod X.K X.mg X.base:=I.ok.mod
theorem Inv.iR (I:Inv X pins σ H s):X.K.In s.heap:=I.ok.mod.BD.keeps I.bk
theorem Inv.fr (I:Inv X pins σ H s):∃m,Fr X.base X.env.locals s.heap m :=
 let ⟨m,hn,_⟩:=I.loc
 ⟨m,hn,I.bk,Nat.le_trans I.ok.uT I.ok.above⟩
theorem Inv.lt (I:Inv X pins σ H s):X.env.locals<s.heap.objs.size:=let ⟨_,hn,_⟩:=I.loc;hn.lt
theorem Inv.sz (I:Inv X pins σ H s):X.s₀.heap.objs.size≤s.heap.objs.size:=Nat.le_trans I.ok.above (Nat.le_of_lt I.lt)
theorem Inv.Q5 (I:Inv X pins σ H s) {a:Addr}(h:s.heap.objs.size≤a):a∉X.fs:=fun hb=>by
 obtain⟨_,o,ho,_⟩:=I.ok.iZ.mem hb
 exact absurd (Nat.lt_of_lt_of_le (Heap.lt_size ho) (Nat.le_trans I.sz h)) (Nat.lt_irrefl _)
theorem Inv.Ac (I:Inv X pins σ H s):∀x c,X.env.cells.lookup x=some c→c≠X.env.locals:=fun x c e z=>by
 obtain⟨v,o,ho,hd⟩:=I.cell x c e
 obtain⟨m,⟨o',es,ep,iU,j4,_⟩,_⟩:=I.loc
 rw[z,iU] at ho;cases ho;rw[j4] at hd;cases hd
theorem Inv.iZ (I:Inv X pins σ H s):s.heap.FunFrames X.base X.outer:=by
 have all:∀(l:List Env),(∀b∈my l,b∈X.fs)→X.s₀.heap.FunFrames X.base l→s.heap.FunFrames X.base l:=by
  intro l
  induction l with
  | nil=>intro _ _;trivial
  | cons env r ih =>
   intro hs hl
   obtain⟨hk,⟨L,o,hf,hn,ho,hd⟩,hr⟩:=hl
   have hL:L∈X.fs:=hs L (by unfold my;rw[List.filterMap_cons,hf];exact mem_cons_self)
   obtain⟨sl,e⟩:=I.base.slot L o ho (I.ok.Bq L hL) hL fun z=>I.ok.uU L z hL
   exact⟨hk,⟨L,_,hf,hn,e,hd⟩,ih (fun b hb=>hs b (by unfold my;rw[List.filterMap_cons,hf];exact mem_cons_of_mem _ hb)) hr⟩
 exact all X.outer (fun _ hb=>hb) I.ok.iZ
theorem Inv.stack (I:Inv X pins σ H s):s.heap.FunFrames X.base X.stack:=by
 rcases I.ok.HS with e|⟨e,hf⟩
 ·rw[e];exact I.iZ
 ·rw[e]
  obtain⟨m,hn,_⟩:=I.loc
  refine .cons (by rw[I.ok.kind];decide) hf hn ?_ I.iZ
  exact Heap.get?_none_of_le (Nat.le_trans I.ok.uT I.ok.above)
theorem Inv.i0 (I:Inv X pins σ H s):∀b∈my X.stack,b∈X.env.locals::X.fs:=fun b hb=>by
 rcases I.ok.HS with e|⟨e,hf⟩
 ·rw[e] at hb;exact mem_cons_of_mem _ hb
 ·rw[e] at hb
  unfold my at hb
  rw[List.filterMap_cons,hf] at hb
  exact hb
theorem Inv.nP (I:Inv X pins σ H s):∀b∈my X.stack,H b=none:=fun b hb=>by
 rcases List.mem_cons.mp (I.i0 b hb) with e|hb
 ·rw[e];exact I.free
 ·obtain⟨_,o,ho,_⟩:=I.ok.iZ.mem hb
  exact I.base.free b o ho (I.ok.Bq b hb) fun z=>I.ok.uU b z hb
theorem Inv.step {g':Array GenState}{t':Nat}{d':Drawn}{ch:List Addr}(I:Inv X pins σ H s)
  (wH:∀b∈ch,(b∈X.ex∨X.s₀.heap.objs.size≤b)∧b≠X.env.locals∧(∀x c,X.env.cells.lookup x=some c→c≠b)∧∀p∈X.pn++pins,p.1≠b)
  (keep:∀b o,b≠X.env.locals→b∉X.fs→b∉ch→s.heap.get? b=some o→H b=none→h'.get? b=some o)
  (slot:∀b o,b≠X.env.locals→b∈X.fs→b∉ch→s.heap.get? b=some o→H b=none→∃sl,h'.get? b=some { o with slots:=sl }) (free:∀b o,b∉ch→s.heap.get? b=some o→H b=none→H' b=none)
  (there:∀b o,b∉ch→s.heap.get? b=some o→∃o',h'.get? b=some o')
  (kL:∀b xs,H b=some (.tup xs)→H' b=some (.tup xs)) (kz:∀b o u,H b=some (.uS o u)→H' b=some (.uS o u)) (kO:∀b ps,H b=some (.ER ps)→∃more,H' b=some (.ER (ps++more)))
  (ns:∀m,s.heap.Ns X.env.locals m→h'.Ns X.env.locals m) (aR:gW X.prog X.w H' h') (hg:AllBare g') :
  Inv X pins σ H' { s with heap:=h',gens:=g',drawn:=d',toks:=t' }:=by
 have Mh:∀b o,X.s₀.heap.get? b=some o→b≠X.env.locals:=fun b o e=>Nat.ne_of_lt (Nat.lt_of_lt_of_le (Heap.lt_size e) I.ok.above)
 have Fl:∀b o,X.s₀.heap.get? b=some o→b∉X.ex→b∉ch:=fun b o e hx hb=>by
  rcases(wH b hb).1 with z|z
  ·exact hx z
  ·exact absurd (Nat.lt_of_lt_of_le (Heap.lt_size e) z) (Nat.lt_irrefl _)
 have cellK:∀x c,X.env.cells.lookup x=some c→∀v,s.heap.IsCell c v→h'.IsCell c v:=fun x c e v ⟨o,ho,hd⟩=>by
  have BE:c∉ch:=fun z=>(wH c z).2.2.1 x c e rfl
  by_cases hc:c∈X.fs
  ·obtain⟨sl,q⟩:=slot c o (I.Ac x c e) hc BE ho (I.dC x c e)
   exact⟨_,q,hd⟩
  ·exact⟨o,keep c o (I.Ac x c e) hc BE ho (I.dC x c e),hd⟩
 refine⟨I.ok,I.os,hg,⟨fun b o e n hb hx=>?_,fun b o e n hb hx=>?_,fun b o e n hx=>?_,fun b o e hx=>?_,fun b xs e=>kL b xs (I.base.kL b xs e),fun b o xs e=>kz b o xs (I.base.kz b o xs e),fun b ps e=>?_⟩,?_,fun x c e=>?_,?_,fun x c e=>?_,fun p hp=>?_,aR,I.len⟩
 ·exact keep b o (Mh b o e) hb (Fl b o e hx) (I.base.keep b o e n hb hx) (I.base.free b o e n hx)
 ·obtain⟨sl,e1⟩:=I.base.slot b o e n hb hx
  obtain⟨Jm,e2⟩:=slot b _ (Mh b o e) hb (Fl b o e hx) e1 (I.base.free b o e n hx)
  exact⟨Jm,e2⟩
 ·obtain⟨o',e1⟩:=I.base.there b o e hx
  exact free b o' (Fl b o e hx) e1 (I.base.free b o e n hx)
 ·obtain⟨o',e1⟩:=I.base.there b o e hx
  exact there b o' (Fl b o e hx) e1
 ·obtain⟨m1,e1⟩:=I.base.kO b ps e
  obtain⟨m2,e2⟩:=kO b _ e1
  exact⟨m1++m2,by rw[e2,Array.append_assoc]⟩
 ·obtain⟨m,hn,hl⟩:=I.loc
  refine⟨m,ns m hn,fun i x v e1 e2 e3=>?_⟩
  obtain⟨u,r,l⟩:=hl i x v e1 e2 e3
  refine⟨u,r,?_⟩
  rcases l with l|⟨k,c,e,z⟩
  ·exact .inl l
  ·exact .inr ⟨k,c,e,cellK x c e _ z⟩
 ·obtain⟨v,z⟩:=I.cell x c e
  exact⟨v,cellK x c e v z⟩
 ·obtain⟨m,⟨o,_,_,ho,_⟩,_⟩:=I.loc
  exact free _ o (fun z=>(wH _ z).2.1 rfl) ho I.free
 ·obtain⟨v,o,ho,hd⟩:=I.cell x c e
  exact free c o (fun z=>(wH c z).2.2.1 x c e rfl) ho (I.dC x c e)
 ·obtain⟨e,n,ne,nf,d⟩:=I.pin p hp
  have BE:p.1∉ch:=fun z=>(wH p.1 z).2.2.2 p hp rfl
  exact⟨keep p.1 p.2 ne nf BE e n,free p.1 p.2 BE e n,ne,nf,d⟩
theorem Inv.un {t':Nat}(I:Inv X pins σ H s) (u:Un X.fs [] H H' s.heap h') (aR:gW X.prog X.w H' h'):Inv X pins σ H' { s with heap:=h',toks:=t' }:=by
 obtain⟨m,⟨o,es,ep,ho,r⟩,_⟩:=id I.loc
 obtain⟨sl,hL⟩:=u.any ho I.free (by simp)
 exact I.step (g':=s.gens) (d':=s.drawn) (ch:=[]) (fun _ z=>nomatch z) (fun b o _ hb _ e n=>u.keep b o e n hb (by simp)) (fun b o _ hb _ e n=>u.slot b o e n hb (by simp)) (fun b o _ e n=>u.free b o e n (by simp)) (fun b o _ e=>u.there b o e (by simp)) u.kL u.kz u.kO (fun m' hm=>by
  obtain⟨o',PB,Mi,iU,r'⟩:=hm
  rw[ho] at iU;cases iU
  exact⟨_,PB,Mi,hL,r'⟩) aR I.bare
theorem Inv.call {g':Array GenState}{t':Nat}{d':Drawn}{ch:List Addr}(I:Inv X pins σ H s) (u:Un (my X.stack) ch H H' s.heap h') (aR:gW X.prog X.w H' h') (hg:AllBare g')
  (wH:∀b∈ch,(b∈X.ex∨X.s₀.heap.objs.size≤b)∧b≠X.env.locals∧(∀x c,X.env.cells.lookup x=some c→c≠b)∧∀p∈X.pn++pins,p.1≠b) :
  Inv X pins σ H' { s with heap:=h',gens:=g',drawn:=d',toks:=t' }:=by
 obtain⟨m,⟨o,es,ep,ho,r⟩,_⟩:=id I.loc
 obtain⟨sl,hL⟩:=u.any ho I.free fun z=>(wH _ z).2.1 rfl
 exact I.step (ch:=ch) wH (fun b o hL hb hc e n=>u.keep b o e n (fun z=>(List.mem_cons.mp (I.i0 b z)).elim hL hb) hc) (fun b o _ _ hc e n=>u.any e n hc) (fun b o hc e n=>u.free b o e n hc) (fun b o hc e=>u.there b o e hc) u.kL u.kz u.kO (fun m' hm=>by
  obtain⟨o',PB,Mi,iU,r'⟩:=hm
  rw[ho] at iU;cases iU
  exact⟨_,PB,Mi,hL,r'⟩) aR hg
theorem Inv.turned {t':Nat}{it:Addr}(I:Inv X pins σ H s) (k:∀b o,b≠it→s.heap.get? b=some o→h'.get? b=some o) (hn:H it=none) (hL:it≠X.env.locals)
  (h1:it∈X.ex∨X.s₀.heap.objs.size≤it) (h2:∀x c,X.env.cells.lookup x=some c→c≠it) (h3:∀p∈X.pn++pins,p.1≠it):Inv X pins σ H { s with heap:=h',toks:=t' }:=by
 have nit:∀b u,H b=some u→b≠it:=fun b u e z=>by rw[z,hn] at e;cases e
 refine I.step (g':=s.gens) (d':=s.drawn) (ch:=[it]) (fun b hb=>?_) (fun b o _ _ hc e _=>k b o (fun z=>hc (by simp[z])) e) (fun b o _ _ hc e _=>⟨o.slots,k b o (fun z=>hc (by simp[z])) e⟩) (fun _ _ _ _ n=>n)
  (fun b o hc e=>⟨o,k b o (fun z=>hc (by simp[z])) e⟩) (fun _ _ e=>e) (fun _ _ _ e=>e) (fun b ps e=>⟨#[],by rw[e];simp⟩) (fun m hm=>?_) (fun b u e=>?_) I.bare
 ·have e:b=it:=by simpa using hb
  subst e
  exact⟨h1,hL,h2,h3⟩
 ·obtain⟨o,es,ep,ho,r⟩:=hm
  exact⟨o,es,ep,k _ o (Ne.symm hL) ho,r⟩
 ·refine(I.aR b u e).iY (fun c v hc q=>k c v ?_ q) (fun _ q=>q) fun _ _ q=>q
  rcases hc with z|z
  ·rw[z];exact nit b u e
  ·exact nit c _ z
theorem Inv.tok (I:Inv X pins σ H s) (t:Nat):Inv X pins σ H { s with toks:=t }:=I.un (h':=s.heap) (t':=t) Un.refl I.aR
theorem Inv.kept {t':Nat}(I:Inv X pins σ H s) (k:∀b u,s.heap.get? b=some u→h'.get? b=some u):Inv X pins σ H { s with heap:=h',toks:=t' }:=I.un (Un.kept k) (I.aR.kept k)
theorem Inv.laid {a:Addr}{o:HO}{t':Nat}(I:Inv X pins σ H s) (k:∀b u,s.heap.get? b=some u→h'.get? b=some u) (hp:s.heap.objs.size≤a) (new:aX X.prog X.w (upd H a o) h' a o) :
  Inv X pins σ (upd H a o) { s with heap:=h',toks:=t' }:=I.un (Un.laid k hp (I.aR.fresh hp)) (I.aR.laid k hp new)
theorem Inv.write {x e:Addr}{o:HO}{t':Nat}(I:Inv X pins σ H s) (mu:Ff (H x)) (he:e=x∨H e=some (.own x)) (k:∀b u,b≠e→s.heap.get? b=some u→h'.get? b=some u) (LL:∃u,h'.get? e=some u)
  (new:aX X.prog X.w (upd H x o) h' x o):Inv X pins σ (upd H x o) { s with heap:=h',toks:=t' }:=I.un (Un.write mu he k LL) (I.aR.write mu he k LL new)
theorem Inv.weak {σ':List (Option V)}(I:Inv X pins σ H s) (hl:σ'.length=σ.length) (w:∀(i:Nat) v,σ'[i]?=some (some v)→σ[i]?=some (some v)):Inv X pins σ' H s :=
 ⟨I.ok,I.os,I.bare,I.base,let ⟨m,hn,hl'⟩:=I.loc;⟨m,hn,fun i x v e1 e2 e3=>hl' i x v e1 (w i v e2) e3⟩,I.cell,I.free,I.dC,I.pin,I.aR,hl.trans I.len⟩
theorem Inv.j5 {uV:List (Addr×Obj)}(I:Inv X pins σ H s) (h:∀p∈uV,s.heap.get? p.1=some p.2∧H p.1=none∧p.1≠X.env.locals∧p.1∉X.fs∧∀v,p.2.data≠.cell v):Inv X uV σ H s :=
 ⟨I.ok,I.os,I.bare,I.base,I.loc,I.cell,I.free,I.dC,fun p hp=>(mem_append.mp hp).elim (fun z=>I.pin p (mem_append_left _ z)) (h p),I.aR,I.len⟩
theorem n8 {N:List Str}(hN:N.Nodup) {i j:Nat}{x:Str}(a:N[i]?=some x) (b:N[j]?=some x):i=j:=by
 obtain⟨h1,e1⟩:=List.getElem?_eq_some_iff.mp a
 obtain⟨h2,e2⟩:=List.getElem?_eq_some_iff.mp b
 exact(List.getElem_inj hN).mp (e1.trans e2.symm)
theorem qW {M:Model}{A:Around}{E:Value→Shared→Prop}{i:Nat}{x:Str}{v:V}{u:Value}{Q:Unit→Shared→Prop}(I:Inv X pins σ H s) (hN:X.N.Nodup) (hi:X.N[i]?=some x) (hx:Loc X.env.scope x) (r:RelV v u)
  (h:∀s',Inv X pins (σ.set i (some v)) H s'→(∃a,Heap.SameBut a s.heap s'.heap∧(a=X.env.locals∨X.env.cells.lookup x=some a))→Q () s') (hf:X.fn x=true∨X.env.scope.names.lookup x=some .local:=by first|exact .inl rfl|exact .inr rfl|assumption):wpAny M A (storeName X.env x u) Q E s:=by
 obtain⟨m,hn,hl⟩:=id I.loc
 have Q6:(X.env.scope.kind == .class||(X.env.scope.kind == .module&&X.env.locals != X.env.globals))=false:=by rw[I.ok.kind];rfl
 have hiσ:i<σ.length:=by rw[I.len];exact(List.getElem?_eq_some_iff.mp hi).1
 have Ac:=I.Ac
 have tracked:∀{a:Addr}{h':Heap},(∃o,s.heap.get? a=some o∧H a=none)→Heap.SameBut a s.heap h'→gW X.prog X.w H h':=fun {a h'} ha hs b ob e=>by
  obtain⟨_,_,iO⟩:=ha
  refine(I.aR b ob e).iY (fun c w' hc q=>(hs.2 c ?_).trans q) (fun _ q=>q) fun _ _ q=>q
  rintro rfl
  rcases hc with rfl|hc
  ·rw[iO] at e;cases e
  ·rw[iO] at hc;cases hc
 rcases hx with hk|hk
 ·refine wpAny_storeName_local hk hn (fun h' BF hs=>?_) Q6
  obtain⟨oL,_,_,hoL,_⟩:=id hn
  refine h _ ⟨I.ok,I.os,I.bare,⟨fun b o e n hb hx=>?_,fun b o e n hb hx=>?_,I.base.free,fun b o e hx=>?_,I.base.kL,I.base.kz,I.base.kO⟩,⟨_,BF,fun j y v' e1 e2 e3=>?_⟩,fun y c e=>?_,I.free,I.dC,fun p hp=>?_,tracked ⟨oL,hoL,I.free⟩ hs,by simpa using I.len⟩ ⟨_,hs,.inl rfl⟩
  ·exact(hs.2 b (Nat.ne_of_lt (Nat.lt_of_lt_of_le (Heap.lt_size e) I.ok.above))).trans (I.base.keep b o e n hb hx)
  ·obtain⟨sl,e1⟩:=I.base.slot b o e n hb hx
   exact⟨sl,(hs.2 b (Nat.ne_of_lt (Nat.lt_of_lt_of_le (Heap.lt_size e) I.ok.above))).trans e1⟩
  ·obtain⟨o',e1⟩:=I.base.there b o e hx
   exact⟨o',(hs.2 b (Nat.ne_of_lt (Nat.lt_of_lt_of_le (Heap.lt_size e) I.ok.above))).trans e1⟩
  ·by_cases hj:j=i
   ·subst hj
    rw[hi] at e1;cases e1
    rw[List.getElem?_set_self hiσ] at e2
    cases e2
    exact⟨u,r,.inl ⟨hk,by simp⟩⟩
   ·rw[List.getElem?_set_ne (Ne.symm hj)] at e2
    obtain⟨u',r',q⟩:=hl j y v' e1 e2 e3
    refine⟨u',r',?_⟩
    rcases q with⟨k,e⟩|⟨k,c,e,z⟩
    ·refine .inl ⟨k,?_⟩
     have:y≠x:=fun e=>hj (n8 hN e1 (e▸hi))
     simp[this,e]
    ·exact .inr ⟨k,c,e,z.sameBut hs (Ac y c e)⟩
  ·obtain⟨w',z⟩:=I.cell y c e
   exact⟨w',z.sameBut hs (Ac y c e)⟩
  ·obtain⟨e,n,ne,nf,d⟩:=I.pin p hp
   exact⟨(hs.2 p.1 ne).trans e,n,ne,nf,d⟩
 ·have Q7:X.fn x=true:=by
   rcases hf with z|z
   ·exact z
   ·rw[z] at hk;cases hk
  obtain⟨c,hc⟩:=I.ok.has x (.inl hk)
  obtain⟨w',z⟩:=I.cell x c hc
  refine wpAny_storeName_cell I.ok.kind hk hc z (fun h' hc' hs=>?_)
  obtain⟨oc,hoc,Q8⟩:=id z
  refine h { s with heap:=h' } ⟨I.ok,I.os,I.bare,⟨fun b o e n hb hx=>?_,fun b o e n hb hx=>?_,I.base.free,fun b o e hx=>?_,I.base.kL,I.base.kz,I.base.kO⟩,⟨m,hn.sameBut hs (Ne.symm (Ac x c hc)),fun j y v' e1 e2 e3=>?_⟩,fun y c' e=>?_,I.free,I.dC,fun p hp=>?_,tracked ⟨oc,hoc,I.dC x c hc⟩ hs,by simpa using I.len⟩ ⟨c,hs,.inr hc⟩
  ·exact(hs.2 b (Nat.ne_of_lt (Nat.lt_of_lt_of_le (Heap.lt_size e) (I.ok.Fj x c Q7 hc)))).trans (I.base.keep b o e n hb hx)
  ·obtain⟨sl,e1⟩:=I.base.slot b o e n hb hx
   exact⟨sl,(hs.2 b (Nat.ne_of_lt (Nat.lt_of_lt_of_le (Heap.lt_size e) (I.ok.Fj x c Q7 hc)))).trans e1⟩
  ·obtain⟨o',e1⟩:=I.base.there b o e hx
   exact⟨o',(hs.2 b (Nat.ne_of_lt (Nat.lt_of_lt_of_le (Heap.lt_size e) (I.ok.Fj x c Q7 hc)))).trans e1⟩
  ·by_cases hj:j=i
   ·subst hj
    rw[hi] at e1;cases e1
    rw[List.getElem?_set_self hiσ] at e2
    cases e2
    exact⟨u,r,.inr ⟨.inl hk,c,hc,hc'⟩⟩
   ·rw[List.getElem?_set_ne (Ne.symm hj)] at e2
    obtain⟨u',r',q⟩:=hl j y v' e1 e2 e3
    refine⟨u',r',?_⟩
    rcases q with q|⟨k,c',e,z'⟩
    ·exact .inl q
    ·refine .inr ⟨k,c',e,z'.sameBut hs ?_⟩
     rintro rfl
     exact hj (n8 hN e1 (I.ok.inj _ _ _ e hc▸hi))
  ·by_cases LN:c'=c
   ·subst LN;exact⟨_,hc'⟩
   ·obtain⟨w2,z2⟩:=I.cell y c' e
    exact⟨w2,z2.sameBut hs LN⟩
  ·obtain⟨e,n,ne,nf,d⟩:=I.pin p hp
   refine⟨(hs.2 p.1 ?_).trans e,n,ne,nf,d⟩
   intro q
   rw[q,hoc] at e
   have q':oc=p.2:=Option.some.inj e
   exact d w' (by rw[←q'];exact Q8)
theorem n9 {M:Model}{A:Around}{E:Value→Shared→Prop}{i:Nat}{x:Str}{v:V}{u:Value}{Q:Unit→Shared→Prop}(I:Inv X pins σ H s) (hN:X.N.Nodup) (hi:X.N[i]?=some x) (hx:Loc X.env.scope x) (r:RelV v u)
  (h:∀s',Inv X pins (σ.set i (some v)) H s'→Q () s') (hf:X.fn x=true∨X.env.scope.names.lookup x=some .local:=by first|exact .inl rfl|exact .inr rfl|assumption):wpAny M A (storeName X.env x u) Q E s :=
 qW I hN hi hx r (fun s' I' _=>h s' I') hf
theorem Inv.BG {s':Shared}{ch:List Addr}(I:Inv X pins σ H s) (ho:s'.os=s.os) (u:Un (my X.stack) ch H H' s.heap s'.heap) (aR:gW X.prog X.w H' s'.heap) (hg:AllBare s'.gens)
  (wH:∀b∈ch,(b∈X.ex∨X.s₀.heap.objs.size≤b)∧b≠X.env.locals∧(∀x c,X.env.cells.lookup x=some c→c≠b)∧∀p∈X.pn++pins,p.1≠b):Inv X pins σ H' s':=by
 obtain⟨h',g',d',t',o'⟩:=s'
 have e:o'=s.os:=ho
 subst e
 exact I.call (g':=g') (t':=t') (d':=d') u aR hg wH
end
noncomputable abbrev XK:=Value→Option Addr→Hp→Prop
noncomputable abbrev St:=List (Option V)
noncomputable abbrev VK:=V→Hp→Prop
noncomputable abbrev TE:=St→Hp→VK→Prop
noncomputable abbrev TT:=St→Hp→(Bool→Hp→Prop)→Prop
noncomputable abbrev TA:=St→Hp→(List V→Hp→Prop)→Prop
structure Ends where
 nx:St→Hp→Prop
 rt:VK
 bk:St→Hp→Prop:=fun _ _=>False
 ct:St→Hp→Prop:=fun _ _=>False
noncomputable abbrev TS:=Ends→St→Hp→Prop
noncomputable def EP (X:Cx) (pins:List (Addr×Obj)) (σ:St) (Q:VK) (u:Value) (s':Shared):Prop:=∃v H',Inv X pins σ H' s'∧RelV v u∧Q v H'
noncomputable def TP (X:Cx) (pins:List (Addr×Obj)) (σ:St) (Q:Bool→Hp→Prop) (b:Bool) (s':Shared):Prop:=∃H',Inv X pins σ H' s'∧Q b H'
noncomputable def AP (X:Cx) (pins:List (Addr×Obj)) (σ:St) (Q:List V→Hp→Prop) (us:List Value) (s':Shared):Prop:=∃vs H',Inv X pins σ H' s'∧Vals vs us∧Q vs H'
noncomputable def SP (X:Cx) (pins:List (Addr×Obj)) (D:Ends) (f:Flow) (s':Shared):Prop :=
 match f with
 | .next=>∃σ' H',Inv X pins σ' H' s'∧D.nx σ' H'
 | .brk=>∃σ' H',Inv X pins σ' H' s'∧D.bk σ' H'
 | .cont=>∃σ' H',Inv X pins σ' H' s'∧D.ct σ' H'
 | .ret u=>∃v σ' H',Inv X pins σ' H' s'∧RelV v u∧D.rt v H'
noncomputable def PE (X:Cx) (e:Expr) (t:TE):Prop :=
 ∀(pins:List (Addr×Obj)) (s:Shared) (σ:St) (H:Hp) (Q:VK),Inv X pins σ H s→t σ H Q→wpAny (model X.prog X.w) X.A (eval e X.env) (EP X pins σ Q) X.xe s
noncomputable def PT (X:Cx) (e:Expr) (t:TT):Prop :=
 ∀(pins:List (Addr×Obj)) (s:Shared) (σ:St) (H:Hp) (Q:Bool→Hp→Prop),Inv X pins σ H s→t σ H Q→wpAny (model X.prog X.w) X.A (isTrue e X.env (eval e X.env)) (TP X pins σ Q) X.xe s
noncomputable def PW (X:Cx) (e:Expr) (t:TT):Prop :=
 ∀(whole:Sem Value) (pins:List (Addr×Obj)) (s:Shared) (σ:St) (H:Hp) (Q:Bool→Hp→Prop),Inv X pins σ H s→t σ H Q→wpAny (model X.prog X.w) X.A (isTrue e X.env whole) (TP X pins σ Q) X.xe s
theorem PW.pt {X:Cx}{e:Expr}{t:TT}(h:PW X e t):PT X e t:=h _
noncomputable def PA (X:Cx) (es:List Expr) (t:TA):Prop :=
 ∀(pos:Pos) (pins:List (Addr×Obj)) (s:Shared) (σ:St) (H:Hp) (Q:List V→Hp→Prop),Inv X pins σ H s→t σ H Q→wpAny (model X.prog X.w) X.A (spliced (backTo pos (starEach es X.env))) (AP X pins σ Q) X.xe s
noncomputable def PS (X:Cx) (st:Stmt) (t:TS):Prop :=
 ∀(pins:List (Addr×Obj)) (s:Shared) (σ:St) (H:Hp) (D:Ends),Inv X pins σ H s→t D σ H→wpAny (model X.prog X.w) X.A (exec st X.env) (SP X pins D) X.xe s
noncomputable def nQ (X:Cx) (st:List Stmt) (t:TS):Prop :=
 ∀(pins:List (Addr×Obj)) (s:Shared) (σ:St) (H:Hp) (D:Ends),Inv X pins σ H s→t D σ H→wpAny (model X.prog X.w) X.A (execs st X.env) (SP X pins D) X.xe s
theorem bG {α:Type}{t:Sem α}{Q Q':α→Shared→Prop}{M:Model}{A:Around}{E:Value→Shared→Prop}{s:Shared}(h:wpAny M A t Q E s) (hQ:∀a s,Q a s→Q' a s):wpAny M A t Q' E s:=wpAny_mono h hQ fun _ _ x=>x
section
variable {X:Cx}
theorem bin {a b:Expr}{ta tb:TE}(ha:PE X a ta) (hb:PE X b tb) {pins:List (Addr×Obj)}{s:Shared}{σ:St}{H:Hp}{R:V→V→Hp→Prop}(I:Inv X pins σ H s) (h:ta σ H fun x H1=>tb σ H1 fun y H2=>R x y H2)
  {α:Type}{Q:α→Shared→Prop}{f:Value→Value→Sem α}
  (hf:∀v u s2 x y H2,Inv X pins σ H2 s2→RelV x v→RelV y u→R x y H2→wpAny (model X.prog X.w) X.A (f v u) Q X.xe s2) :
  wpAny (model X.prog X.w) X.A (eval a X.env) (fun v s₁=>wpAny (model X.prog X.w) X.A (eval b X.env) (fun u s₂=>wpAny (model X.prog X.w) X.A (f v u) Q X.xe s₂) X.xe s₁) X.xe s:=by
 refine bG (ha pins s σ H _ I h) fun v s1 ⟨x,H1,I1,r1,q1⟩=>?_
 refine bG (hb pins s1 σ H1 _ I1 q1) fun u s2 ⟨y,H2,I2,r2,q2⟩=>?_
 exact hf v u s2 x y H2 I2 r1 r2 q2
noncomputable def Mj (i:Nat):TE:=fun σ H Q=>∃v,σ[i]?=some (some v)∧Q v H
noncomputable def tC (v:V):TE:=fun _ H Q=>Q v H
theorem Jn {i:Nat}{x:Str}{pos:Pos}(hN:X.N[i]?=some x) (hv:Q3 X.env.scope x) (hd:(x == ("__debug__":Str))=false:=by decide) (wQ:(x == ("__classdict__":Str))=false:=by decide):PE X (.Name x pos) (Mj i):=by
 intro pins s σ H Q I h
 obtain⟨v,e,h⟩:=h
 obtain⟨m,hn,hl⟩:=I.loc
 obtain⟨u,r,l⟩:=hl i x v hN e hv
 have fin:EP X pins σ Q u s:=⟨v,H,I,r,h⟩
 rcases l with⟨hk,hm⟩|⟨hk,c,hc,qX⟩
 ·exact wpAny_Name (wpAny_loadName_local I.ok.kind hk hn hm fin) hd
 ·rcases hk with hk|hk
  ·exact wpAny_Name (wpAny_loadName_cell I.ok.kind hk hc qX fin) hd
  ·exact wpAny_Name (wpAny_loadName_free I.ok.kind hk hc qX fin wQ) hd
theorem ae {i j pos}:PE X (.Constant (.int i) j pos) (tC (.int i)):=fun _ _ _ H _ I h=>wpAny_Constant_int ⟨.int i,H,I.tok _,⟨_,rfl⟩,h⟩
theorem fg {b j pos}:PE X (.Constant (.bool b) j pos) (tC (.bl b)):=fun _ _ _ H _ I h=>Constant_bool ⟨.bl b,H,I,rfl,h⟩
theorem mz {j pos}:PE X (.Constant .none j pos) (tC .cK):=fun _ _ _ H _ I h=>Constant_none ⟨.cK,H,I,rfl,h⟩
theorem de {x j pos}:PE X (.Constant (.str x) j pos) (tC (.str x)):=fun _ _ _ H _ I h=>Calls.Constant_str ⟨.str x,H,I.tok _,⟨_,rfl⟩,h⟩
noncomputable def Gl (X:Cx) (x:Str):Prop:=X.env.kindOf x=some .globalImplicit
theorem gw {E:Value→Shared→Prop}{pins:List (Addr×Obj)}{s:Shared}{σ:St}{H:Hp}{x:Str}{u:Value}{pos:Pos}{Q:Value→Shared→Prop}(I:Inv X pins σ H s) (hg:Gl X x) (hm:X.mg x=some u) (h:Q u s)
  (hd:(x == ("__debug__":Str))=false:=by decide):wpAny (model X.prog X.w) X.A (eval (.Name x pos) X.env) Q E s :=
 Calls.Name_function_global I.ok.kind hg (Calls.loadGlobal_global (by rw[I.ok.glob];exact I.mod.glob.keeps I.bk) hm h) hd
theorem i3 {E:Value→Shared→Prop}{pins:List (Addr×Obj)}{s:Shared}{σ:St}{H:Hp}{x:Str}{u:Value}{pos:Pos}{Q:Value→Shared→Prop}(I:Inv X pins σ H s) (hg:Gl X x) (hm:X.mg x=none) (hv:bootBuiltins x=some u) (h:Q u s)
  (hn:x≠"__name__":=by decide) (hd:(x == ("__debug__":Str))=false:=by decide):wpAny (model X.prog X.w) X.A (eval (.Name x pos) X.env) Q E s:=by
 obtain⟨mb,h1,h2⟩:=I.mod.blt
 exact Calls.Name_function_global I.ok.kind hg (Calls.loadGlobal_builtin (by rw[I.ok.glob];exact I.mod.glob.keeps I.bk) hm (by rw[I.ok.blt];exact h1.keeps I.bk) ((h2 x hn).trans hv) h) hd
theorem yB {x:Str}{v:V}{u:Value}{pos:Pos}(hg:Gl X x) (hm:X.mg x=some u) (r:RelV v u) (hd:(x == ("__debug__":Str))=false:=by decide):PE X (.Name x pos) (tC v) :=
 fun _ _ _ H _ I h=>gw I hg hm ⟨v,H,I,r,h⟩ hd
theorem Fm {x:Str}{v:V}{u:Value}{pos:Pos}(hg:Gl X x) (hm:X.mg x=none) (hv:bootBuiltins x=some u) (r:RelV v u) (hn:x≠"__name__":=by decide) (hd:(x == ("__debug__":Str))=false:=by decide):PE X (.Name x pos) (tC v) :=
 fun _ _ _ H _ I h=>i3 I hg hm hv ⟨v,H,I,r,h⟩ hn hd
noncomputable def PD (ta tb:TE) (k:Int→Int→Hp→Prop):St→Hp→Prop:=fun σ H=>ta σ H fun x H1=>tb σ H1 fun y H2=>∃i j,x = .int i∧y = .int j∧k i j H2
noncomputable def tAdd (ta tb:TE):TE:=fun σ H Q=>PD ta tb (fun i j H2=>Q (.int (i+j)) H2) σ H
noncomputable def tSub (ta tb:TE):TE:=fun σ H Q=>PD ta tb (fun i j H2=>Q (.int (i-j)) H2) σ H
noncomputable def tMul (ta tb:TE):TE:=fun σ H Q=>PD ta tb (fun i j H2=>(-(2^64)<i∧i<2^64)∧Q (.int (i*j)) H2) σ H
variable {a b:Expr}{ta tb:TE}{pos:Pos}
noncomputable def PC (X:Cx) (op:CmpOp) (a b:Expr) (t:TE):Prop :=
 ∀(pins:List (Addr×Obj)) (s:Shared) (σ:St) (H:Hp) (Q:VK),Inv X pins σ H s→t σ H Q →
  wpAny (model X.prog X.w) X.A (eval a X.env) (fun v s₁=>wpAny (model X.prog X.w) X.A (eval b X.env) (fun u s₂=>wpAny (model X.prog X.w) X.A (compareOp op v u) (EP X pins σ Q) X.xe s₂) X.xe s₁) X.xe s
noncomputable def Ad (p:Int→Int→Bool) (ta tb:TE):TE:=fun σ H Q=>PD ta tb (fun i j H2=>Q (.bl (p i j)) H2) σ H
noncomputable abbrev tLt:TE→TE→TE:=Ad fun i j=>decide (i<j)
noncomputable abbrev tLe:TE→TE→TE:=Ad fun i j=>decide (i≤j)
noncomputable abbrev tGt:TE→TE→TE:=Ad fun i j=>decide (j<i)
noncomputable abbrev tGe:TE→TE→TE:=Ad fun i j=>decide (j≤i)
noncomputable abbrev tEqI:TE→TE→TE:=Ad fun i j=>decide (i=j)
noncomputable abbrev tNeI:TE→TE→TE:=Ad fun i j=>!decide (i=j)
noncomputable def tIsN (ta:TE):TE:=fun σ H Q=>ta σ H fun x H1=>Q (.bl (decide (x = .cK))) H1
noncomputable def tNotN (ta:TE):TE:=fun σ H Q=>ta σ H fun x H1=>Q (.bl (!decide (x = .cK))) H1
noncomputable def tB (t:TE):TT:=fun σ H Q=>t σ H fun x H1=>∃c,x = .bl c∧Q c H1
theorem Q9 {op:CmpOp}{t:TE}(h:PC X op a b t) (h1:behindInMarks op b=false:=by first|exact Ml _ (by decide) (by decide)|rfl):PT X (.Compare a [op] [b] pos) (tB t):=by
 intro pins s σ H Q I hw
 refine wpAny_isTrue_Compare1 (bG (h pins s σ H _ I hw) fun v s1 h1=>bG h1 fun u s2 h2=>bG h2 fun c s3 ⟨x,H1,I1,r1,q1⟩=>?_) h1
 obtain⟨d,rfl,q⟩:=q1
 cases r1
 exact wpAny_truthy_bool ⟨H1,I1,q⟩
theorem cS {e:Expr}{t:TE}(h:PE X e t) (he:∀whole,isTrue e X.env whole=(do let v ←whole;standAt e.pos;holding [v] (truthy v)):=by intro _;rfl):PT X e (tB t):=by
 intro pins s σ H Q I hw
 refine isTrue_plain (bG (h pins s σ H _ I hw) fun v s1 ⟨x,H1,I1,r1,q1⟩=>?_) (he _)
 obtain⟨d,rfl,q⟩:=q1
 cases r1
 exact wpAny_truthy_bool ⟨H1,I1,q⟩
variable {tA PF:TT}{rest:List Expr}
noncomputable def Ra (t u:TT):TT:=fun σ H Q=>t σ H fun c H1=>if c=true then u σ H1 Q else Q false H1
noncomputable def tOr (t u:TT):TT:=fun σ H Q=>t σ H fun c H1=>if c=true then Q true H1 else u σ H1 Q
noncomputable def Rb (t:TT):TT:=fun σ H Q=>t σ H fun c H1=>Q (!c) H1
theorem pw_and1 (ha:PT X a tA):PW X (.BoolOp .And [a] pos) tA:=by
 intro wh pins s σ H Q I h
 refine isTrue_and (bG (ha pins s σ H Q I h) fun c s1 e=>?_)
 cases c with
 | true=>exact isTrue_and_nil e
 | false=>exact e
theorem pw_or1 (ha:PT X a tA):PW X (.BoolOp .Or [a] pos) tA:=by
 intro wh pins s σ H Q I h
 refine isTrue_or (bG (ha pins s σ H Q I h) fun c s1 e=>?_)
 cases c with
 | false=>exact isTrue_or_nil e
 | true=>exact e
theorem pw_and (ha:PT X a tA) (hb:PW X (.BoolOp .And (b::rest) pos) PF):PW X (.BoolOp .And (a::b::rest) pos) (Ra tA PF):=by
 intro wh pins s σ H Q I h
 refine isTrue_and (bG (ha pins s σ H _ I h) fun c s1 ⟨H1,I1,q1⟩=>?_)
 cases c with
 | true=>exact hb wh pins s1 σ H1 Q I1 q1
 | false=>exact⟨H1,I1,q1⟩
theorem pw_or (ha:PT X a tA) (hb:PW X (.BoolOp .Or (b::rest) pos) PF):PW X (.BoolOp .Or (a::b::rest) pos) (tOr tA PF):=by
 intro wh pins s σ H Q I h
 refine isTrue_or (bG (ha pins s σ H _ I h) fun c s1 ⟨H1,I1,q1⟩=>?_)
 cases c with
 | true=>exact⟨H1,I1,q1⟩
 | false=>exact hb wh pins s1 σ H1 Q I1 q1
theorem dM (ha:PT X a tA):PT X (.UnaryOp .Not a pos) (Rb tA):=by
 intro pins s σ H Q I h
 exact isTrue_not (ha pins s σ H (fun c H1=>Q (!c) H1) I h)
noncomputable def Mm (ta tb:TE):TE:=fun σ H Q=>ta σ H fun x H1=>∃c,x = .bl c∧if c=true then tb σ H1 Q else Q (.bl false) H1
noncomputable def tOrV (ta tb:TE):TE:=fun σ H Q=>ta σ H fun x H1=>∃c,x = .bl c∧if c=true then Q (.bl true) H1 else tb σ H1 Q
noncomputable def Mn (ta:TE):TE:=fun σ H Q=>ta σ H fun x H1=>∃c,x = .bl c∧Q (.bl (!c)) H1
theorem BH {op}{t:TE}(h:PE X a t):PE X (.BoolOp op [a] pos) t:=fun pins s σ H Q I hw=>BoolOp_one (h pins s σ H Q I hw)
theorem wR (ha:PE X a ta) (hb:PE X (.BoolOp .And (b::rest) pos) tb):PE X (.BoolOp .And (a::b::rest) pos) (Mm ta tb):=by
 intro pins s σ H Q I h
 refine BoolOp_and (bG (ha pins s σ H _ I h) fun v s1 ⟨x,H1,I1,r1,q1⟩=>?_)
 obtain⟨c,rfl,q1⟩:=q1
 cases r1
 refine wpAny_truthy_bool ?_
 cases c with
 | true=>exact hb pins s1 σ H1 Q I1 q1
 | false=>exact⟨.bl false,H1,I1,rfl,q1⟩
theorem Jo (ha:PE X a ta):PE X (.UnaryOp .Not a pos) (Mn ta):=by
 intro pins s σ H Q I h
 refine UnaryOp_ (bG (ha pins s σ H _ I h) fun v s1 ⟨x,H1,I1,r1,q1⟩=>?_)
 obtain⟨c,rfl,q1⟩:=q1
 cases r1
 exact not_of (wpAny_truthy_bool ⟨.bl (!c),H1,I1,rfl,q1⟩)
noncomputable def tIf (t:TT) (ta tb:TE):TE:=fun σ H Q=>t σ H fun c H1=>if c=true then ta σ H1 Q else tb σ H1 Q
theorem lE {c:Expr}(hc:PT X c tA) (ha:PE X a ta) (hb:PE X b tb):PE X (.IfExp c a b pos) (tIf tA ta tb):=by
 intro pins s σ H Q I h
 refine wpAny_IfExp (bG (hc pins s σ H _ I h) fun d s1 ⟨H1,I1,q1⟩=>?_)
 cases d with
 | true=>exact ha pins s1 σ H1 Q I1 q1
 | false=>exact hb pins s1 σ H1 Q I1 q1
end
noncomputable def cC (K:Frag) (H:Hp) (a:Addr) (xs:List V):Prop :=
 Rd H a (.lst xs) ∨
  ∃(o:Obj) (its:Array Value) (n:Nat),K.lookup a=some o∧o.cls = .type "list"∧o.dict=none∧o.data = .seq its n∧its.size≤sizeLine∧Vals xs its.toList
noncomputable def fh (K:Frag) (H:Hp) (a:Addr) (xs:List V):Prop :=
 Rd H a (.tup xs) ∨
  ∃(o:Obj) (its:Array Value) (n:Nat),K.lookup a=some o∧o.cls = .type "tuple"∧o.data = .seq its n∧its.size≤sizeLine∧Vals xs its.toList
noncomputable def Rc:Value→Option V
 | .none=>some .cK
 | .bool b=>some (.bl b)
 | .int i _=>some (.int i)
 | .str x _=>some (.str x)
 | .bytes b _=>some (.wG b)
 | .float b _=>some (.Fd b)
 | .ref a=>some (.ref a)
 | .type n=>some (.ty n)
 | _=>none
theorem RelV.abs {x:V}{u:Value}(r:RelV x u):Rc u=some x:=by
 cases x with
 | cK=>cases r;rfl
 | bl _=>cases r;rfl
 | int _=>obtain⟨t,rfl⟩:=r;rfl
 | str _=>obtain⟨t,rfl⟩:=r;rfl
 | wG _=>obtain⟨t,rfl⟩:=r;rfl
 | Fd _=>obtain⟨t,rfl⟩:=r;rfl
 | ref _=>cases r;rfl
 | ty _=>cases r;rfl
theorem RelV.inj {x y:V}{u:Value}(r:RelV x u) (q:RelV y u):x=y:=Option.some.inj (r.abs.symm.trans q.abs)
theorem Vals.inj:∀{xs ys:List V}{us:List Value},Vals xs us→Vals ys us→xs=ys
 | _,_,_,.nil,.nil=>rfl
 | _,_,_,.cons r t,.cons r' t'=>by rw[r.inj r',Vals.inj t t']
section
variable {X:Cx}{pins:List (Addr×Obj)}{σ:St}{H:Hp}{s:Shared}{a:Addr}{xs ys:List V}
theorem cC.of {K:Frag}(h:H a=some (.lst xs)):cC K H a xs:=.inl (.inl h)
theorem Inv.list (I:Inv X pins σ H s) (h:cC X.K H a xs):∃its:List Value,Vals xs its∧PlainL s.heap a its.toArray∧xs.length≤sizeLine:=by
 rcases h with h|⟨o,its,n,hk,hc,hd,hs,hz,r⟩
 ·obtain⟨z,its,n,r,e⟩:=h.ok I.aR
  exact⟨its,r,⟨_,n,e,rfl,rfl,rfl⟩,z⟩
 ·refine⟨its.toList,r,⟨o,n,I.iR a o hk,hc,hd,by simpa using hs⟩,?_⟩
  have e:=r.length
  simp only[Array.length_toList] at e
  omega
theorem Inv.tuple (I:Inv X pins σ H s) (h:fh X.K H a xs):∃its:List Value,Vals xs its∧IsTup s.heap a its.toArray∧xs.length≤sizeLine:=by
 rcases h with h|⟨o,its,n,hk,hc,hs,hz,r⟩
 ·obtain⟨z,its,r,p⟩:=h.ok I.aR
  exact⟨its,r,p,z⟩
 ·refine⟨its.toList,r,⟨o,I.iR a o hk,hc,n,by simpa using hs⟩,?_⟩
  have e:=r.length
  simp only[Array.length_toList] at e
  omega
theorem Inv.uW (I:Inv X pins σ H s) (h:cC X.K H a xs) (h':cC X.K H a ys):xs=ys:=by
 obtain⟨its,r,⟨o,n,e,_,_,d⟩,_⟩:=I.list h
 obtain⟨its',r',⟨o',n',e',_,_,d'⟩,_⟩:=I.list h'
 rw[e] at e';cases e'
 rw[d] at d'
 injection d' with d1 _
 have:its=its':=by simpa using congrArg Array.toList d1
 subst this
 exact r.inj r'
theorem Inv.Ae (I:Inv X pins σ H s) (h:fh X.K H a xs) (h':fh X.K H a ys):xs=ys:=by
 obtain⟨its,r,⟨o,e,_,n,d⟩,_⟩:=I.tuple h
 obtain⟨its',r',⟨o',e',_,n',d'⟩,_⟩:=I.tuple h'
 rw[e] at e';cases e'
 rw[d] at d'
 injection d' with d1 _
 have:its=its':=by simpa using congrArg Array.toList d1
 subst this
 exact r.inj r'
end
noncomputable abbrev Cx.qy (X:Cx) (E:Value→Shared→Prop):Cx:={ X with xe:=E }
noncomputable abbrev Cx.wU (X:Cx):Cx:=X.qy fun _ _=>False
theorem Cx.Ok.qy {X:Cx}(ok:X.Ok) (E:Value→Shared→Prop):(X.qy E).Ok :=
 ⟨ok.mod,ok.kind,ok.glob,ok.blt,ok.above,ok.inj,ok.has,ok.Fj,ok.hd,ok.frames,ok.HS,ok.LM,ok.bs,ok.uT,ok.qx,ok.uU,ok.iZ,ok.Bq⟩
theorem Cx.Ok.i4 {X:Cx}{E:Value→Shared→Prop}(ok:(X.qy E).Ok):X.Ok :=
 ⟨ok.mod,ok.kind,ok.glob,ok.blt,ok.above,ok.inj,ok.has,ok.Fj,ok.hd,ok.frames,ok.HS,ok.LM,ok.bs,ok.uT,ok.qx,ok.uU,ok.iZ,ok.Bq⟩
section
variable {X:Cx}{pins:List (Addr×Obj)}{σ:St}{H:Hp}{s:Shared}{E:Value→Shared→Prop}
theorem Inv.qy (I:Inv X pins σ H s) (E:Value→Shared→Prop):Inv (X.qy E) pins σ H s:=⟨I.ok.qy E,I.os,I.bare,I.base,I.loc,I.cell,I.free,I.dC,I.pin,I.aR,I.len⟩
theorem Inv.i4 (I:Inv (X.qy E) pins σ H s):Inv X pins σ H s:=⟨I.ok.i4,I.os,I.bare,I.base,I.loc,I.cell,I.free,I.dC,I.pin,I.aR,I.len⟩
theorem SP.i4 {D:Ends}{f:Flow}{s':Shared}(h:SP (X.qy E) pins D f s'):SP X pins D f s':=by
 cases f with
 | next=>obtain⟨σ',H',I,q⟩:=h;exact⟨σ',H',I.i4,q⟩
 | brk=>obtain⟨σ',H',I,q⟩:=h;exact⟨σ',H',I.i4,q⟩
 | cont=>obtain⟨σ',H',I,q⟩:=h;exact⟨σ',H',I.i4,q⟩
 | ret u=>obtain⟨v,σ',H',I,r,q⟩:=h;exact⟨v,σ',H',I.i4,r,q⟩
theorem nQ.wU {st:List Stmt}{t:TS}(h:nQ X.wU st t):nQ X st t:=fun pins s σ H D I hw =>
 wpAny_mono (h pins s σ H D (I.qy _) hw) (fun _ _ q=>q.i4) fun _ _ z=>False.elim z
end
section
variable {X:Cx}{st:Stmt}{rest:List Stmt}{t u:TS}{e:Expr}{te:TE}{pos:Pos}
noncomputable def uX:TS:=fun D σ H=>D.nx σ H
noncomputable def Mo (t u:TS):TS:=fun D σ H=>t { D with nx:=u D } σ H
theorem aO:nQ X [] uX:=fun _ _ σ H _ I h=>wpAny_execs_nil ⟨σ,H,I,h⟩
theorem aj (h1:PS X st t) (h2:nQ X rest u):nQ X (st::rest) (Mo t u):=by
 intro pins s σ H D I h
 refine wpAny_execs_cons (bG (h1 pins s σ H { D with nx:=u D } I h) fun f s1 q=>?_)
 cases f with
 | next =>
  obtain⟨σ',H',I',q⟩:=q
  exact h2 pins s1 σ' H' D I' q
 | ret v=>exact q
 | brk=>exact q
 | cont=>exact q
theorem ak (h1:PS X st t):nQ X [st] t:=by
 intro pins s σ H D I h
 refine wpAny_execs_cons (bG (h1 pins s σ H D I h) fun f s1 q=>?_)
 cases f with
 | next=>exact wpAny_execs_nil q
 | ret v=>exact q
 | brk=>exact q
 | cont=>exact q
noncomputable def Rf:TS:=fun D σ H=>D.bk σ H
noncomputable def tCont:TS:=fun D σ H=>D.ct σ H
theorem Inv.quiet {pins:List (Addr×Obj)}{σ:St}{H:Hp}{s:Shared}(I:Inv X pins σ H s):interactive X.env=false:=by simp[interactive,I.ok.kind]
noncomputable def Mp (te:TE):TS:=fun D σ H=>te σ H fun _ H1=>D.nx σ H1
theorem gx (he:PE X e te) (hs:swapsWith e none pos.line X.env=pure false:=by rfl):PS X (.Expr e pos) (Mp te):=by
 intro pins s σ H D I h
 exact wpAny_Expr_any (bG (he pins s σ H _ I h) fun v s1 ⟨x,H1,I1,r1,q1⟩=>⟨σ,H1,I1,q1⟩) I.quiet hs
noncomputable def Mq (te:TE):TS:=fun D σ H=>te σ H D.rt
theorem aD (he:PE X e te):PS X (.Return (some e) pos) (Mq te):=by
 intro pins s σ H D I h
 exact wpAny_Return_some (bG (he pins s σ H _ I h) fun v s1 ⟨x,H1,I1,r1,q1⟩=>⟨x,σ,H1,I1,r1,q1⟩)
noncomputable def tRetN:TS:=fun D _ H=>D.rt .cK H
noncomputable def Rg (c:TT) (t u:TS):TS:=fun D σ H=>c σ H fun b H1=>if b=true then t D σ H1 else u D σ H1
theorem bq {c:Expr}{a b:List Stmt}{tc:TT}(hc:PT X c tc) (ha:nQ X a t) (hb:nQ X b u):PS X (.If c a b pos) (Rg tc t u):=by
 intro pins s σ H D I h
 refine wpAny_If (bG (hc pins s σ H _ I h) fun d s1 ⟨H1,I1,q1⟩=>?_)
 cases d with
 | true=>exact ha pins s1 σ H1 D I1 q1
 | false=>exact hb pins s1 σ H1 D I1 q1
noncomputable def Jp:TS:=fun _ _ _=>False
theorem gZ:PS X st Jp:=fun _ _ _ _ _ _ h=>h.elim
end
noncomputable abbrev TG:=V→St→Hp→(St→Hp→Prop)→Prop
noncomputable abbrev HU:=List V→St→Hp→(St→Hp→Prop)→Prop
noncomputable def PG (X:Cx) (target:Expr) (t:TG):Prop :=
 ∀(pins:List (Addr×Obj)) (s:Shared) (σ:St) (H:Hp) (v:V) (u:Value) (Q:St→Hp→Prop),Inv X pins σ H s→RelV v u→t v σ H Q →
  wpAny (model X.prog X.w) X.A (assign target X.env u) (fun _ s'=>∃σ' H',Inv X pins σ' H' s'∧Q σ' H') X.xe s
noncomputable def Mr (X:Cx) (ts:List Expr) (t:HU):Prop :=
 ∀(pins:List (Addr×Obj)) (s:Shared) (σ:St) (H:Hp) (vs:List V) (us:List Value) (Q:St→Hp→Prop),Inv X pins σ H s→Vals vs us→t vs σ H Q →
  wpAny (model X.prog X.w) X.A (assignInOrder ((assignEach ts X.env).map (·.2)) us) (fun _ s'=>∃σ' H',Inv X pins σ' H' s'∧Q σ' H') X.xe s
noncomputable abbrev Af:=V→V→V→Hp→(Hp→Prop)→Prop
noncomputable def Fo (X:Cx) (t:Af):Prop :=
 ∀(pins:List (Addr×Obj)) (s:Shared) (σ:St) (H:Hp) (o i v:V) (ov iv u:Value) (Q:Hp→Prop),Inv X pins σ H s→RelV o ov→RelV i iv→RelV v u→t o i v H Q →
  wpAny (model X.prog X.w) X.A (setItem ov iv u) (fun _ s'=>∃H',Inv X pins σ H' s'∧Q H') X.xe s
noncomputable abbrev PH:=V→V→Hp→VK→Prop
noncomputable def PIp (X:Cx) (op:Operator) (t:PH):Prop :=
 ∀(pins:List (Addr×Obj)) (s:Shared) (σ:St) (H:Hp) (x y:V) (v u:Value) (Q:VK),Inv X pins σ H s→RelV x v→RelV y u→t x y H Q →
  wpAny (model X.prog X.w) X.A (inplaceOp op v u) (EP X pins σ Q) X.xe s
section
variable {X:Cx}{pos:Pos}
noncomputable def aU (i:Nat):TG:=fun v σ H Q=>Q (σ.set i (some v)) H
theorem aH {i:Nat}{x:Str}(hN:X.N.Nodup) (hi:X.N[i]?=some x) (hx:Loc X.env.scope x) (hf:X.fn x=true∨X.env.scope.names.lookup x=some .local:=by first|exact .inl rfl|exact .inr rfl|assumption):PG X (.Name x pos) (aU i):=by
 intro pins s σ H v u Q I r h
 exact wpAny_assign_Name (n9 I hN hi hx r (fun s' I'=>⟨_,H,I',h⟩) hf)
noncomputable def Ms:HU:=fun vs σ H Q=>vs=[]∧Q σ H
noncomputable def BI (t:TG) (u:HU):HU:=fun vs σ H Q=>∃v r,vs=v::r∧t v σ H fun σ' H'=>u r σ' H' Q
theorem dZ:Mr X [] Ms:=by
 intro pins s σ H vs us Q I r h
 obtain⟨e,h⟩:=h
 subst e
 cases r
 exact assignInOrder_nil ⟨σ,H,I,h⟩
theorem aQ {e:Expr}{es:List Expr}{t:TG}{u:HU}(h1:PG X e t) (h2:Mr X es u)
  (hs:(assignEach (e::es) X.env).map (·.2)=assign e X.env::(assignEach es X.env).map (·.2):=by rfl):Mr X (e::es) (BI t u):=by
 intro pins s σ H vs us Q I r h
 obtain⟨v,vr,e1,h⟩:=h
 subst e1
 cases r with
 | cons r rr =>
  rw[hs]
  refine assignInOrder_cons (bG (h1 pins s σ H _ _ _ I r h) fun _ s1 ⟨σ1,H1,I1,q1⟩=>?_)
  exact h2 pins s1 σ1 H1 _ _ Q I1 rr q1
noncomputable def Jq (K:Frag) (n:Nat) (t:HU):TG:=fun v σ H Q=>∃a xs,v = .ref a∧fh K H a xs∧xs.length=n∧t xs σ H Q
theorem Jr {es:List Expr}{k:Nat}{t:HU}{n:Nat}(hc:X.calm=true) (h:Mr X es t)
  (hn:(assignEach es X.env).length=n:=by rfl) (BJ:(assignEach es X.env).findIdx? (·.1)=none:=by rfl):PG X (.Tuple es k pos) (Jq X.K n t):=by
 intro pins s σ H v u Q I r hw
 obtain⟨a,xs,e1,hq,hl,hw⟩:=hw
 subst e1
 cases r
 obtain⟨its,rv,ht,hz⟩:=I.tuple hq
 refine assign_Tuple_tuple (I.ok.hd hc) ht (by simp[hn,←hl,rv.length]) BJ fun h' hx=>?_
 have I1:Inv X pins σ H { s with heap:=h' }:=I.kept (t':=s.toks) fun b o e=>hx b o (Nat.ne_of_lt (Heap.lt_size e)) e
 exact h pins _ σ H xs _ Q I1 (by simpa using rv) hw
noncomputable def Rh (to ti:TE) (t:Af):TG:=fun v σ H Q=>to σ H fun o H1=>ti σ H1 fun i H2=>t o i v H2 fun H3=>Q σ H3
theorem sr {o i:Expr}{to ti:TE}{t:Af}(ho:PE X o to) (hi:PE X i ti) (hs:Fo X t)
  (ha:∀v,assign (.Subscript o i pos) X.env v=(do
   let ov ←holding [v] (eval o X.env)
   let iv ←holding [v,ov] (eval i X.env)
   standAt pos
   holding [v,ov,iv] (setItem ov iv v)
   release [v,ov,iv] []):=by intro _;rfl):PG X (.Subscript o i pos) (Rh to ti t):=by
 intro pins s σ H v u Q I r h
 rw[ha]
 refine wpAny_bind (wpAny_holding (bG (ho pins s σ H _ I h) fun ov s1 ⟨x,H1,I1,r1,q1⟩=>?_))
 refine wpAny_bind (wpAny_holding (bG (hi pins s1 σ H1 _ I1 q1) fun iv s2 ⟨y,H2,I2,r2,q2⟩=>?_))
 refine wpAny_bind (wpAny_standAt (wpAny_bind (wpAny_holding (bG (hs pins s2 σ H2 x y v ov iv u _ I2 r1 r2 r q2) fun _ s3 ⟨H3,I3,q3⟩=>?_))))
 exact wpAny_release ⟨σ,H3,I3,q3⟩
noncomputable def BK (te:TE) (g:TG):TS:=fun D σ H=>te σ H fun x H1=>g x σ H1 D.nx
theorem kP {tg e:Expr}{te:TE}{g:TG}(he:PE X e te) (hg:PG X tg g) (hs:swapsWithSole [tg] e pos.line X.env=pure false:=by rfl) (hw:swappedStores [tg] e X.env=pure none:=by rfl)
  (h1:(assignEach [tg] X.env).map (·.2)=[assign tg X.env]:=by rfl):PS X (.Assign [tg] e pos) (BK te g):=by
 intro pins s σ H D I h
 refine wpAny_Assign_stores (bG (he pins s σ H _ I h) fun v s1 ⟨x,H1,I1,r1,q1⟩=>?_) hs hw
 rw[h1]
 exact bG (hg pins s1 σ H1 x v _ I1 r1 q1) fun _ s2 q=>q
theorem aB {i:Nat}{x:Str}{e:Expr}{te:TE}{pos':Pos}(hN:X.N.Nodup) (hi:X.N[i]?=some x) (hx:Loc X.env.scope x) (he:PE X e te) (hs:swapsWith e (some (.Name x pos')) pos.line X.env=pure false:=by rfl) (hf:X.fn x=true∨X.env.scope.names.lookup x=some .local:=by first|exact .inl rfl|exact .inr rfl|assumption) :
  PS X (.Assign [.Name x pos'] e pos) (BK te (aU i)):=by
 intro pins s σ H D I h
 refine wpAny_Assign_Name (bG (he pins s σ H _ I h) fun v s1 ⟨y,H1,I1,r1,q1⟩=>?_) hs
 exact n9 I1 hN hi hx r1 (fun s2 I2=>⟨_,H1,I2,q1⟩) hf
noncomputable def tPar (i j:Nat) (ta:TA):TS:=fun D σ H=>ta σ H fun vs H1=>∃v w,vs=[v,w]∧D.nx ((σ.set i (some v)).set j (some w)) H1
noncomputable def tAug (i:Nat) (te:TE) (ti:PH):TS:=fun D σ H=>∃x,σ[i]?=some (some x)∧te σ H fun y H1=>ti x y H1 fun z H2=>D.nx (σ.set i (some z)) H2
noncomputable def tAugS (to ti te:TE) (Ri:V→V→Hp→VK→Prop) (tip:PH) (Rj:Af):TS:=fun D σ H=>to σ H fun o H1=>ti σ H1 fun i H2=>Ri o i H2 fun x H3=>te σ H3 fun y H4=>tip x y H4 fun z H5=>Rj o i z H5 fun H6=>D.nx σ H6
noncomputable def PGet (X:Cx) (t:V→V→Hp→VK→Prop):Prop :=
 ∀(pins:List (Addr×Obj)) (s:Shared) (σ:St) (H:Hp) (o i:V) (ov iv:Value) (Q:VK),Inv X pins σ H s→RelV o ov→RelV i iv→t o i H Q →
  wpAny (model X.prog X.w) X.A (getItem ov iv) (EP X pins σ Q) X.xe s
noncomputable def ipI (f:Int→Int→Int):PH:=fun x y H Q=>∃i j,x = .int i∧y = .int j∧Q (.int (f i j)) H
end
section
variable {X:Cx}{pos:Pos}
noncomputable def Js (c:TT) (tb:TS):TS:=fun D σ H=>∃W:Nat→St→Hp→Prop,(∃m,W m σ H)∧∀m σ H,W m σ H →
 c σ H fun b H1=>if b=true then ∃N:St→Hp→Prop,(∀σ' H',N σ' H'→∃m',m'<m∧W m' σ' H')∧tb { D with nx:=N,ct:=N,bk:=D.nx } σ H1 else D.nx σ H1
theorem uY {c:Expr}{body:List Stmt}{tc:TT}{tb:TS}(hp:PassesOwn (model X.prog X.w) X.A X.env X.xe) (hc:PT X c tc) (hb:nQ X body tb):PS X (.While c body [] pos) (Js tc tb):=by
 intro pins s σ H D I h
 obtain⟨W,⟨m0,w0⟩,turn⟩:=h
 refine wpAny_While (codeAny_whileLoop (fun n s'=>∃σ' H',Inv X pins σ' H' s'∧W n σ' H') ?_ m0 ⟨σ,H,I,w0⟩)
 rintro n s1 ⟨σ1,H1,I1,w1⟩
 refine wpAny_passesOwn hp (bG (hc pins s1 σ1 H1 _ I1 (turn n σ1 H1 w1)) fun b s2 ⟨H2,I2,q2⟩=>?_)
 cases b with
 | true =>
  obtain⟨N,hN,q2⟩:=q2
  rw[if_pos rfl]
  refine wpAny_passesOwn hp (bG (hb pins s2 σ1 H2 _ I2 q2) fun f s3 q3=>?_)
  cases f with
  | next =>
   obtain⟨σ3,H3,I3,n3⟩:=q3
   obtain⟨m',hm,w3⟩:=hN σ3 H3 n3
   exact⟨m',hm,σ3,H3,I3,w3⟩
  | cont =>
   obtain⟨σ3,H3,I3,n3⟩:=q3
   obtain⟨m',hm,w3⟩:=hN σ3 H3 n3
   exact⟨m',hm,σ3,H3,I3,w3⟩
  | brk=>exact q3
  | ret v=>exact q3
 | false =>
  rw[if_neg Bool.false_ne_true]
  exact wpAny_execs_nil ⟨σ1,H2,I2,q2⟩
end
structure It where
 go:Nat→Hp→Prop
 HV:Nat→Hp→V→Hp→Prop
 stop:Nat→Hp→Prop
noncomputable def g8 (X:Cx) (pins:List (Addr×Obj)) (H:Hp) (b:Addr):Prop :=
 H b=none∧b≠X.env.locals∧b∉X.fs∧(b∈X.ex∨X.s₀.heap.objs.size≤b)∧(∀x c,X.env.cells.lookup x=some c→c≠b)∧∀p∈X.pn++pins,p.1≠b
theorem Inv.uZ {X:Cx}{pins:List (Addr×Obj)}{σ:St}{H H':Hp}{s:Shared}{b:Addr}(I:Inv X pins σ H s) (hb:s.heap.objs.size≤b) (hn:H' b=none):g8 X pins H' b:=by
 refine⟨hn,Nat.ne_of_gt (Nat.lt_of_lt_of_le I.lt hb),I.Q5 hb,.inr (Nat.le_trans I.sz hb),fun x c e z=>?_,fun p hp z=>?_⟩
 ·obtain⟨v,q⟩:=I.cell x c e
  exact absurd (Nat.lt_of_lt_of_le q.lt (by rw[z];exact hb)) (Nat.lt_irrefl _)
 ·exact absurd (Nat.lt_of_lt_of_le (Heap.lt_size (I.pin p hp).1) (by rw[z];exact hb)) (Nat.lt_irrefl _)
structure Turn (P:Program) (w:World) (K:Frag) (tg:Expr) (J:It) (fp:List Addr) (it:Addr) (tn:Nat→Heap→Prop):Prop where
 mem:it∈fp
 obj:∀i h,tn i h→∀b∈fp,∃o,h.get? b=some o∧∀v,o.data≠.cell v
 keep:∀i h h',tn i h→(∀b∈fp,∀o,h.get? b=some o→h'.get? b=some o)→tn i h'
 item:∀(X:Cx),X.prog=P→X.w=w→X.K=K→X.calm=true→∀(i:Nat) (pins:List (Addr×Obj)) (s:Shared) (σ:St) (H:Hp) (E:Value→Shared→Prop),Inv X pins σ H s→(∀b∈fp,g8 X pins H b)→tn i s.heap→J.go i H →
  wpAny (model P w) X.A (pyNext (.ref it)) (fun r s1=>∃u,r=some u ∧
   wpAny (model P w) X.A (letOwnedTupleGo tg (.ref it) u) (fun _ s2=>∃x H',Inv X pins σ H' s2∧RelV x u∧J.HV i H x H'∧tn (i+1) s2.heap∧∀b∈fp,H' b=none) E s1) E s
 done:∀(X:Cx),X.prog=P→X.w=w→X.K=K→X.calm=true→∀(i:Nat) (pins:List (Addr×Obj)) (s:Shared) (σ:St) (H:Hp) (E:Value→Shared→Prop),Inv X pins σ H s→(∀b∈fp,g8 X pins H b)→tn i s.heap→J.stop i H →
  wpAny (model P w) X.A (pyNext (.ref it)) (fun r s1=>r=none∧Inv X pins σ H s1) E s
 self:∀(A:Around) (i:Nat) (s:Shared) (Q:Value→Shared→Prop) (E:Value→Shared→Prop),tn i s.heap→Q (.ref it) s→wpAny (model P w) A (pyIter (.ref it)) Q E s
noncomputable abbrev TI:=St→Hp→(It→Hp→Prop)→Prop
noncomputable def PIE (X:Cx) (pins:List (Addr×Obj)) (σ:St) (tg:Expr) (R:It→Hp→Prop) (Mt:Value) (s2:Shared):Prop :=
 ∃(it:Addr) (fp:List Addr) (tn:Nat→Heap→Prop) (J:It) (H':Hp),Mt = .ref it∧Inv X pins σ H' s2∧Turn X.prog X.w X.K tg J fp it tn∧tn 0 s2.heap∧(∀b∈fp,g8 X pins H' b)∧R J H'
noncomputable def PI (X:Cx) (tg iter:Expr) (wi:TI):Prop :=
 ∀(pins:List (Addr×Obj)) (s:Shared) (σ:St) (H:Hp) (R:It→Hp→Prop),Inv X pins σ H s→wi σ H R →
  wpAny (model X.prog X.w) X.A (eval iter X.env) (fun v s1=>wpAny (model X.prog X.w) X.A (pyIter v) (PIE X pins σ tg R) X.xe s1) X.xe s
theorem yC {M:Model}{A:Around}{E:Value→Shared→Prop}{s:Shared}{tg:Expr}{it:Addr}{u:Value}{o:Obj}{n:String}{vs:Array Value}{Q:Unit→Shared→Prop}(ho:s.heap.get? it=some o) (hc:o.cls = .type n) (hd:o.data = .fields vs)
  (hn:["enumerate","zip","dict_itemiterator","dict_reverseitemiterator","odict_iterator","itertools.zip_longest","itertools.pairwise"].contains n=false) (hQ:Q () s):wpAny M A (letOwnedTupleGo tg (.ref it) u) Q E s:=by
 unfold letOwnedTupleGo
 cases tg<;>first
  | exact wpAny_pure hQ
  | (cases u<;>first
    | exact wpAny_pure hQ
    | (refine wpAny_bind (wpAny_load ho ?_)
       rw[hc,hd]
       show wpAny M A (if (["enumerate","zip","dict_itemiterator","dict_reverseitemiterator","odict_iterator","itertools.zip_longest","itertools.pairwise"].contains n&&vs[0]? == some (rawInt _))=true then _ else _) Q E s
       rw[if_neg (by intro h;rw[hn,Bool.false_and] at h;cases h)]
       exact wpAny_pure hQ))
noncomputable def Jt (K:Frag) (a:Addr):It :=
 ⟨fun i H=>∃xs x,cC K H a xs∧xs[i]?=some x,fun i H x H'=>H'=H∧∀xs,cC K H a xs→xs[i]?=some x,fun i H=>∃xs,cC K H a xs∧xs.length≤i⟩
noncomputable def Mu (K:Frag) (a:Addr):It :=
 ⟨fun i H=>∃xs x,fh K H a xs∧xs[i]?=some x,fun i H x H'=>H'=H∧∀xs,fh K H a xs→xs[i]?=some x,fun i H=>∃xs,fh K H a xs∧xs.length≤i⟩
noncomputable def Fq (lo:Int) (n:Nat):It:=⟨fun i _=>i<n,fun i H x H'=>H'=H∧x = .int (lo+i),fun i _=>n≤i⟩
theorem Ag {P:Program}{w:World}{K:Frag}{tg:Expr}(a it:Addr):Turn P w K tg (Jt K a) [it] it (fun i h=>h.IsListIter it a i) where
 mem:=by simp
 obj:=fun i h st b hb=>by
  have e:b=it:=by simpa using hb
  subst e
  obtain⟨o,e,c,d⟩:=st
  exact⟨o,e,fun v z=>by rw[d] at z;cases z⟩
 keep:=fun i h h' st k=>st.at fun o e=>k it (by simp) o e
 item:=by
  intro X hP hw hK hc i pins s σ H E I hf st hg
  subst hP hw hK
  obtain⟨xs,x,hq,hx⟩:=hg
  obtain⟨its,rv,p,hz⟩:=I.list hq
  obtain⟨u,hu,ru⟩:=rv.get hx
  obtain⟨f0,f1,f2,f3,f4,f5⟩:=hf it (by simp)
  refine wpAny_pyNext_list_item st p.isList (x:=u) (by simpa using hu) fun h' wI sb=>?_
  have I1:Inv X pins σ H { s with heap:=h' }:=I.turned (t':=s.toks) (fun b o hb e=>(sb.2 b hb).trans e) f0 f1 f3 f4 f5
  obtain⟨o,e,c,d⟩:=id wI
  exact⟨u,rfl,yC (s:={ s with heap:=h' }) e c d (by decide) ⟨x,H,I1,ru,⟨rfl,fun ys hy=>by rw[I.uW hy hq];exact hx⟩,wI,fun b hb=>(hf b hb).1⟩⟩
 done:=by
  intro X hP hw hK hc i pins s σ H E I hf st hg
  subst hP hw hK
  obtain⟨xs,hq,hx⟩:=hg
  obtain⟨its,rv,p,hz⟩:=I.list hq
  obtain⟨f0,f1,f2,f3,f4,f5⟩:=hf it (by simp)
  have hl:=rv.length
  exact wpAny_pyNext_list_end (I.ok.hd hc) st p.isList (by simp;omega) fun h' eb=>⟨rfl,I.turned (t':=s.toks) (fun b o hb e=>eb b o hb e) f0 f1 f3 f4 f5⟩
 self:=fun _ _ _ _ _ st h=>wpAny_pyIter_listiter st h
theorem wV {P:Program}{w:World}{K:Frag}{tg:Expr}(a it:Addr):Turn P w K tg (Mu K a) [it] it (fun i h=>h.IsTupleIter it a i) where
 mem:=by simp
 obj:=fun i h st b hb=>by
  have e:b=it:=by simpa using hb
  subst e
  obtain⟨o,e,c,d⟩:=st
  exact⟨o,e,fun v z=>by rw[d] at z;cases z⟩
 keep:=fun i h h' st k=>st.at fun o e=>k it (by simp) o e
 item:=by
  intro X hP hw hK hc i pins s σ H E I hf st hg
  subst hP hw hK
  obtain⟨xs,x,hq,hx⟩:=hg
  obtain⟨its,rv,p,hz⟩:=I.tuple hq
  obtain⟨u,hu,ru⟩:=rv.get hx
  obtain⟨f0,f1,f2,f3,f4,f5⟩:=hf it (by simp)
  refine wpAny_pyNext_tuple_item st (show s.heap.IsTuple a its.toArray from p) (x:=u) (by simpa using hu) fun h' wI sb=>?_
  have I1:Inv X pins σ H { s with heap:=h' }:=I.turned (t':=s.toks) (fun b o hb e=>(sb.2 b hb).trans e) f0 f1 f3 f4 f5
  obtain⟨o,e,c,d⟩:=id wI
  exact⟨u,rfl,yC (s:={ s with heap:=h' }) e c d (by decide) ⟨x,H,I1,ru,⟨rfl,fun ys hy=>by rw[I.Ae hy hq];exact hx⟩,wI,fun b hb=>(hf b hb).1⟩⟩
 done:=by
  intro X hP hw hK hc i pins s σ H E I hf st hg
  subst hP hw hK
  obtain⟨xs,hq,hx⟩:=hg
  obtain⟨its,rv,p,hz⟩:=I.tuple hq
  obtain⟨f0,f1,f2,f3,f4,f5⟩:=hf it (by simp)
  have hl:=rv.length
  exact wpAny_pyNext_tuple_end (I.ok.hd hc) st (show s.heap.IsTuple a its.toArray from p) (by simp;omega) fun h' eb=>⟨rfl,I.turned (t':=s.toks) (fun b o hb e=>eb b o hb e) f0 f1 f3 f4 f5⟩
 self:=fun _ _ _ _ _ st h=>wpAny_pyIter_tupleiter st h
theorem wW {P:Program}{w:World}{K:Frag}{tg:Expr}(it:Addr) (lo:Int) (n:Nat):Turn P w K tg (Fq lo n) [it] it (fun i h=>IsRangeIter h it (lo+(i:Nat)*1) ((n:Int)-(i:Nat)) 1) where
 mem:=by simp
 obj:=fun i h st b hb=>by
  have e:b=it:=by simpa using hb
  subst e
  exact⟨_,st,fun v z=>by
   have z':Data.fields _=Data.cell v:=z
   cases z'⟩
 keep:=fun i h h' st k=>k it (by simp) _ st
 item:=by
  intro X hP hw hK hc i pins s σ H E I hf st hg
  subst hP hw hK
  obtain⟨f0,f1,f2,f3,f4,f5⟩:=hf it (by simp)
  have W:=Walks.range (prog:=X.prog) (w:=X.w) (I.ok.hd hc) it lo 1 n
  refine W.item i s _ _ hg st fun v h' tk hv wI kk=>?_
  obtain⟨t,rfl⟩:=hv
  have I1:Inv X pins σ H { s with heap:=h',toks:=tk }:=I.turned (fun b o hb e=>kk b o (by simpa using hb) e) f0 f1 f3 f4 f5
  refine⟨_,rfl,yC (s:={ s with heap:=h',toks:=tk }) (n:="range_iterator") wI rfl rfl (by decide) ⟨.int (lo+i),H,I1,⟨t,?_⟩,⟨rfl,rfl⟩,wI,fun b hb=>(hf b hb).1⟩⟩
  rw[Int.mul_one]
 done:=by
  intro X hP hw hK hc i pins s σ H E I hf st hg
  subst hP hw hK
  obtain⟨f0,f1,f2,f3,f4,f5⟩:=hf it (by simp)
  exact wpAny_pyNext_range_end (I.ok.hd hc) st (by have:n≤i:=hg;omega) fun h' eb=>⟨rfl,I.turned (t':=s.toks) (fun b o hb e=>eb b o hb e) f0 f1 f3 f4 f5⟩
 self:=fun _ _ _ _ _ st h=>wpAny_pyIter_rangeiter st h
section
variable {X:Cx}{tg:Expr}
noncomputable def HW (K:Frag) (tl:TE):TI:=fun σ H R=>tl σ H fun x H1=>∃a,x = .ref a∧(∃xs,cC K H1 a xs)∧R (Jt K a) H1
noncomputable def Mv (K:Frag) (tl:TE):TI:=fun σ H R=>tl σ H fun x H1=>∃a,x = .ref a∧(∃xs,fh K H1 a xs)∧R (Mu K a) H1
theorem Fs {l:Expr}{tl:TE}(hl:PE X l tl):PI X tg l (HW X.K tl):=by
 intro pins s σ H R I h
 refine bG (hl pins s σ H _ I h) fun v s1 ⟨x,H1,I1,r1,q1⟩=>?_
 obtain⟨a,e,⟨xs,hq⟩,q⟩:=q1
 subst e
 cases r1
 obtain⟨its,rv,p,hz⟩:=I1.list hq
 refine wpAny_pyIter_list p.isList ?_
 refine⟨s1.heap.objs.size,[s1.heap.objs.size],_,_,H1,rfl,I1.kept (t':=s1.toks) fun b o e=>Heap.get?_push_of_some _ e,Ag a _,⟨_,Heap.get?_push_size _ rfl,rfl,rfl⟩,fun b hb=>?_,q⟩
 have e:b=s1.heap.objs.size:=by simpa using hb
 subst e
 exact I1.uZ (Nat.le_refl _) (I1.aR.fresh (Nat.le_refl _))
theorem Ju {l:Expr}{tl:TE}(hl:PE X l tl):PI X tg l (Mv X.K tl):=by
 intro pins s σ H R I h
 refine bG (hl pins s σ H _ I h) fun v s1 ⟨x,H1,I1,r1,q1⟩=>?_
 obtain⟨a,e,⟨xs,hq⟩,q⟩:=q1
 subst e
 cases r1
 obtain⟨its,rv,p,hz⟩:=I1.tuple hq
 refine wpAny_pyIter_tuple (show s1.heap.IsTuple a its.toArray from p) ?_
 refine⟨s1.heap.objs.size,[s1.heap.objs.size],_,_,H1,rfl,I1.kept (t':=s1.toks) fun b o e=>Heap.get?_push_of_some _ e,wV a _,⟨_,Heap.get?_push_size _ rfl,rfl,rfl⟩,fun b hb=>?_,q⟩
 have e:b=s1.heap.objs.size:=by simpa using hb
 subst e
 exact I1.uZ (Nat.le_refl _) (I1.aR.fresh (Nat.le_refl _))
theorem u5 {pins:List (Addr×Obj)}{σ:St}{H:Hp}{s:Shared}{R:It→Hp→Prop}{E:Value→Shared→Prop}{lo hi:Int}{t u v:Tok}{tk:Nat}(I:Inv X pins σ H s) (h1:-(2^62)≤lo) (h2:lo<2^62) (h3:-(2^62)≤hi) (h4:hi<2^62)
  (q:R (Fq lo (hi-lo).toNat) H):wpAny (model X.prog X.w) X.A (pyIter (.ref s.heap.objs.size)) (PIE X pins σ tg R) E { s with heap:=s.heap.push { cls:=.type "range",data:=.fields #[.int lo t,.int hi u,.int 1 v] },toks:=tk }:=by
 refine wpAny_pyIter_range (IsRange.new ..) (small_one h1 h2 h3 h4) ?_
 have I1:Inv X pins σ H { s with heap:=s.heap.push { cls:=.type "range",data:=.fields #[.int lo t,.int hi u,.int 1 v] },toks:=tk }:=I.kept fun b o e=>Heap.get?_push_of_some _ e
 refine⟨(s.heap.push { cls:=.type "range",data:=.fields #[.int lo t,.int hi u,.int 1 v] }).objs.size,[(s.heap.push { cls:=.type "range",data:=.fields #[.int lo t,.int hi u,.int 1 v] }).objs.size],_,_,H,rfl,
  I1.kept (t':=tk) fun b o e=>Heap.get?_push_of_some _ e,wW _ lo (hi-lo).toNat,?_,fun b hb=>?_,q⟩
 ·have e1:lo+((0:Nat):Int)*1=lo:=by simp
  have e2:(((hi-lo).toNat:Nat):Int)-((0:Nat):Int)=Builtin.Range.rangeSize lo hi 1:=by rw[rangeSize_one];split<;>omega
  show IsRangeIter _ _ (lo+((0:Nat):Int)*1) ((((hi-lo).toNat:Nat):Int)-((0:Nat):Int)) 1
  rw[e1,e2]
  exact Heap.get?_push_size _ rfl
 ·have e:b=(s.heap.push { cls:=.type "range",data:=.fields #[.int lo t,.int hi u,.int 1 v] }).objs.size:=by simpa using hb
  subst e
  exact I1.uZ (Nat.le_refl _) (I1.aR.fresh (Nat.le_refl _))
noncomputable def Mw (ta:TA):TI:=fun σ H R=>ta σ H fun vs H1=>∃j:Int,vs=[.int j]∧-(2^62)≤j∧j<2^62∧R (Fq 0 j.toNat) H1
noncomputable def Mx (ta:TA):TI:=fun σ H R=>ta σ H fun vs H1=>∃i j:Int,vs=[.int i,.int j]∧(-(2^62)≤i∧i<2^62∧-(2^62)≤j∧j<2^62)∧R (Fq i (j-i).toNat) H1
theorem eh {a:Expr}{ta:TA}{p pos:Pos}(hg:Gl X "range") (hm:X.mg "range"=none) (ha:PA X [a] ta) (hs:starEach [a] X.env=[(false,eval a X.env)]:=by rfl):PI X tg (.Call (.Name "range" p) [a] [] pos) (Mw ta):=by
 intro pins s σ H R I h
 refine Call_ (i3 I hg hm boot_range (PyProof.Rows.callWith_type1 (bG (ha pos pins s σ H _ I h) fun us s1 ⟨vs,H1,I1,r1,q1⟩=>?_) hs rfl))
 obtain⟨j,e,q1,q2,q⟩:=q1
 subst e
 cases r1 with
 | cons r rr =>
  cases rr
  obtain⟨t,rfl⟩:=r
  exact call_range_1 (u5 I1 (by omega) (by omega) q1 q2 (by simpa using q))
theorem mB {a b:Expr}{ta:TA}{p pos:Pos}(hg:Gl X "range") (hm:X.mg "range"=none) (ha:PA X [a,b] ta) (hs:starEach [a,b] X.env=[(false,eval a X.env),(false,eval b X.env)]:=by rfl) (Br:starEach [b] X.env=[(false,eval b X.env)]:=by rfl) :
  PI X tg (.Call (.Name "range" p) [a,b] [] pos) (Mx ta):=by
 intro pins s σ H R I h
 refine Call_ (i3 I hg hm boot_range (PyProof.Rows.callWith_type1 (bG (ha pos pins s σ H _ I h) fun us s1 ⟨vs,H1,I1,r1,q1⟩=>?_) (by rw[hs,Br]) (by rw[Br];rfl)))
 obtain⟨i,j,e,⟨q1,q2,q3,q4⟩,q⟩:=q1
 subst e
 cases r1 with
 | cons r rr =>
  cases rr with
  | cons r' rr =>
   cases rr
   obtain⟨t,rfl⟩:=r
   obtain⟨t',rfl⟩:=r'
   exact call_range_2 (u5 I1 q1 q2 q3 q4 q)
noncomputable def Rk (wi:TI) (g:TG) (tb:TS):TS:=fun D σ H=>wi σ H fun J H1=>∃W:Nat→Nat→St→Hp→Prop,(∃m,W 0 m σ H1)∧∀i m σ H,W i m σ H →
 (J.stop i H∧D.nx σ H)∨(J.go i H∧∃N:St→Hp→Prop,(∀σ' H',N σ' H'→∃m',m'<m∧W (i+1) m' σ' H')∧∀x H',J.HV i H x H'→g x σ H' fun σ2 H2=>tb { D with nx:=N,ct:=N,bk:=D.nx } σ2 H2)
noncomputable def i5 (fp:List Addr) (h:Heap):List (Addr×Obj):=fp.filterMap fun b=>(h.get? b).map fun o=>(b,o)
theorem eC {fp:List Addr}{h:Heap}{b:Addr}{o:Obj}(hb:b∈fp) (e:h.get? b=some o):(b,o)∈i5 fp h:=List.mem_filterMap.mpr ⟨b,hb,by rw[e];rfl⟩
theorem Ah {fp:List Addr}{h:Heap}{p:Addr×Obj}(hp:p∈i5 fp h):p.1∈fp∧h.get? p.1=some p.2:=by
 obtain⟨b,hb,e⟩:=List.mem_filterMap.mp hp
 cases q:h.get? b with
 | none=>rw[q] at e;cases e
 | some o =>
  rw[q] at e
  have e':(b,o)=p:=Option.some.inj e
  subst e'
  exact⟨hb,q⟩
theorem Inv.pinned {pins:List (Addr×Obj)}{σ:St}{H:Hp}{s:Shared}{fp:List Addr}(I:Inv X pins σ H s) (hf:∀b∈fp,g8 X pins H b) (ho:∀b∈fp,∃o,s.heap.get? b=some o∧∀v,o.data≠.cell v):Inv X (pins++i5 fp s.heap) σ H s :=
 I.j5 fun p hp=>(mem_append.mp hp).elim (fun z=>I.pin p (mem_append_right _ z)) fun z=>by
  obtain⟨hb,e⟩:=Ah z
  obtain⟨f0,f1,f2,_⟩:=hf p.1 hb
  obtain⟨o,e',d⟩:=ho p.1 hb
  rw[e] at e';cases e'
  exact⟨e,f0,f1,f2,d⟩
theorem Inv.i6 {pins pl:List (Addr×Obj)}{σ:St}{H:Hp}{s:Shared}(I:Inv X (pins++pl) σ H s):Inv X pins σ H s:=I.j5 fun p hp=>I.pin p (mem_append_right _ (mem_append_left _ hp))
theorem ck {iter:Expr}{body:List Stmt}{wi:TI}{g:TG}{tb:TS}{pos:Pos}(hp:PassesOwn (model X.prog X.w) X.A X.env X.xe) (hc:X.calm=true) (hi:PI X tg iter wi) (hg:PG X tg g) (hb:nQ X body tb)
  (hs:∀x,foldedSetIterable iter X.env x=pure x:=by intro _;rfl):PS X (.For tg iter body [] pos) (Rk wi g tb):=by
 intro pins s σ H D I h
 refine wpAny_For (bG (hi pins s σ H _ I h) fun v s1 h1=>bG h1 fun Mt s2 h2=>?_) hs
 obtain⟨it,fp,tn,J,H2,e,I2,T,wX,f2,W,⟨m0,w0⟩,turn⟩:=h2
 subst e
 have oa:∀{H':Hp},(∀b∈fp,H' b=none)→∀b∈fp,g8 X pins H' b:=fun hn b hb=>⟨hn b hb,(f2 b hb).2⟩
 refine codeAny_forLoop_any (fun n s'=>∃i σ' H',Inv X pins σ' H' s'∧tn i s'.heap∧(∀b∈fp,H' b=none)∧W i n σ' H') ?_ m0 ⟨0,σ,H2,I2,wX,fun b hb=>(f2 b hb).1,w0⟩
 rintro n s3 ⟨i,σ3,H3,I3,HX,HY,w3⟩
 rcases turn i n σ3 H3 w3 with⟨stop,qn⟩|⟨go,N,hN,step⟩
 ·refine wpAny_passesOwn hp (bG (T.done X rfl rfl rfl hc i pins s3 σ3 H3 X.xe I3 (oa HY) HX stop) fun r s4 ⟨hr,I4⟩=>?_)
  subst hr
  exact wpAny_execs_nil ⟨σ3,H3,I4,qn⟩
 ·refine wpAny_passesOwn hp (bG (T.item X rfl rfl rfl hc i pins s3 σ3 H3 X.xe I3 (oa HY) HX go) fun r s4 ⟨u,hr,h4⟩=>?_)
  subst hr
  refine wpAny_passesOwn hp (bG h4 fun _ s5 ⟨x,H5,I5,r5,y5,BL,Mz⟩=>?_)
  have MA:=I5.pinned (oa Mz) (T.obj _ _ BL)
  refine wpAny_passesOwn hp (bG (hg _ s5 σ3 H5 x u _ MA r5 (step x H5 y5)) fun _ s6 ⟨σ6,H6,I6,q6⟩=>?_)
  refine wpAny_passesOwn hp (bG (hb _ s6 σ6 H6 _ I6 q6) fun f s7 q7=>?_)
  have again:∀{σ7:St}{H7:Hp},Inv X (pins++i5 fp s5.heap) σ7 H7 s7→N σ7 H7→∃m,m<n∧∃i σ' H',Inv X pins σ' H' s7∧tn i s7.heap∧(∀b∈fp,H' b=none)∧W i m σ' H':=fun {σ7 H7} I7 n7=>by
   obtain⟨m',hm,w7⟩:=hN σ7 H7 n7
   refine⟨m',hm,i+1,σ7,H7,I7.i6,T.keep _ _ _ BL fun b hb o e=>(I7.pin (b,o) (mem_append_right _ (mem_append_right _ (eC hb e)))).1,fun b hb=>?_,w7⟩
   obtain⟨o,e,d⟩:=T.obj _ _ BL b hb
   exact(I7.pin (b,o) (mem_append_right _ (mem_append_right _ (eC hb e)))).2.1
  cases f with
  | next=>obtain⟨σ7,H7,I7,n7⟩:=q7;exact again I7 n7
  | cont=>obtain⟨σ7,H7,I7,n7⟩:=q7;exact again I7 n7
  | brk=>obtain⟨σ7,H7,I7,q7⟩:=q7;exact⟨σ7,H7,I7.i6,q7⟩
  | ret v=>obtain⟨x7,σ7,H7,I7,r7,q7⟩:=q7;exact⟨x7,σ7,H7,I7.i6,r7,q7⟩
end
theorem d0 {K:Frag}{a:Addr}{xs:List V}{g:TG}{tb:TS}{D:Ends}{σ:St}{H:Hp}(Pv:Nat→St→Hp→Prop) (h0:Pv 0 σ H) (hl:∀i σ H,i≤xs.length→Pv i σ H→cC K H a xs)
  (hs:∀i x σ H,xs[i]?=some x→Pv i σ H→g x σ H fun σ2 H2=>tb { D with nx:=Pv (i+1),ct:=Pv (i+1),bk:=D.nx } σ2 H2) (hd:∀σ H,Pv xs.length σ H→D.nx σ H) :
  ∃W:Nat→Nat→St→Hp→Prop,(∃m,W 0 m σ H)∧∀i m σ H,W i m σ H →
   ((Jt K a).stop i H∧D.nx σ H)∨((Jt K a).go i H∧∃N:St→Hp→Prop,(∀σ' H',N σ' H'→∃m',m'<m∧W (i+1) m' σ' H')∧∀x H',(Jt K a).HV i H x H'→g x σ H' fun σ2 H2=>tb { D with nx:=N,ct:=N,bk:=D.nx } σ2 H2):=by
 refine⟨fun i m σ H=>m=xs.length-i∧i≤xs.length∧Pv i σ H,⟨xs.length,by simp,Nat.zero_le _,h0⟩,?_⟩
 rintro i m σ H ⟨rfl,hi,p⟩
 have q:=hl i σ H hi p
 by_cases bZ:i<xs.length
 ·refine .inr ⟨⟨xs,xs[i],q,by simp[bZ]⟩,Pv (i+1),fun σ' H' p'=>⟨xs.length-(i+1),by omega,rfl,bZ,p'⟩,fun x H' y=>?_⟩
  obtain⟨e,y⟩:=y
  subst e
  exact hs i x σ _ (y xs q) p
 ·have e:i=xs.length:=by omega
  subst e
  exact .inl ⟨⟨xs,q,Nat.le_refl _⟩,hd σ H p⟩
theorem yD {K:Frag}{a:Addr}{xs:List V}{g:TG}{tb:TS}{D:Ends}{σ:St}{H:Hp}(Pv:Nat→St→Hp→Prop) (h0:Pv 0 σ H) (hl:∀i σ H,i≤xs.length→Pv i σ H→fh K H a xs)
  (hs:∀i x σ H,xs[i]?=some x→Pv i σ H→g x σ H fun σ2 H2=>tb { D with nx:=Pv (i+1),ct:=Pv (i+1),bk:=D.nx } σ2 H2) (hd:∀σ H,Pv xs.length σ H→D.nx σ H) :
  ∃W:Nat→Nat→St→Hp→Prop,(∃m,W 0 m σ H)∧∀i m σ H,W i m σ H →
   ((Mu K a).stop i H∧D.nx σ H)∨((Mu K a).go i H∧∃N:St→Hp→Prop,(∀σ' H',N σ' H'→∃m',m'<m∧W (i+1) m' σ' H')∧∀x H',(Mu K a).HV i H x H'→g x σ H' fun σ2 H2=>tb { D with nx:=N,ct:=N,bk:=D.nx } σ2 H2):=by
 refine⟨fun i m σ H=>m=xs.length-i∧i≤xs.length∧Pv i σ H,⟨xs.length,by simp,Nat.zero_le _,h0⟩,?_⟩
 rintro i m σ H ⟨rfl,hi,p⟩
 have q:=hl i σ H hi p
 by_cases bZ:i<xs.length
 ·refine .inr ⟨⟨xs,xs[i],q,by simp[bZ]⟩,Pv (i+1),fun σ' H' p'=>⟨xs.length-(i+1),by omega,rfl,bZ,p'⟩,fun x H' y=>?_⟩
  obtain⟨e,y⟩:=y
  subst e
  exact hs i x σ _ (y xs q) p
 ·have e:i=xs.length:=by omega
  subst e
  exact .inl ⟨⟨xs,q,Nat.le_refl _⟩,hd σ H p⟩
theorem eD {lo:Int}{n:Nat}{g:TG}{tb:TS}{D:Ends}{σ:St}{H:Hp}(Pv:Nat→St→Hp→Prop) (h0:Pv 0 σ H)
  (hs:∀i σ H,i<n→Pv i σ H→g (.int (lo+i)) σ H fun σ2 H2=>tb { D with nx:=Pv (i+1),ct:=Pv (i+1),bk:=D.nx } σ2 H2) (hd:∀σ H,Pv n σ H→D.nx σ H) :
  ∃W:Nat→Nat→St→Hp→Prop,(∃m,W 0 m σ H)∧∀i m σ H,W i m σ H →
   ((Fq lo n).stop i H∧D.nx σ H)∨((Fq lo n).go i H∧∃N:St→Hp→Prop,(∀σ' H',N σ' H'→∃m',m'<m∧W (i+1) m' σ' H')∧∀x H',(Fq lo n).HV i H x H'→g x σ H' fun σ2 H2=>tb { D with nx:=N,ct:=N,bk:=D.nx } σ2 H2):=by
 refine⟨fun i m σ H=>m=n-i∧i≤n∧Pv i σ H,⟨n,by simp,Nat.zero_le _,h0⟩,?_⟩
 rintro i m σ H ⟨rfl,hi,p⟩
 by_cases bZ:i<n
 ·refine .inr ⟨bZ,Pv (i+1),fun σ' H' p'=>⟨n-(i+1),by omega,rfl,bZ,p'⟩,fun x H' y=>?_⟩
  obtain⟨e,y⟩:=y
  subst e y
  exact hs i σ _ bZ p
 ·have e:i=n:=by omega
  subst e
  exact .inl ⟨Nat.le_refl _,hd σ H p⟩
noncomputable abbrev R2:=V→V→Hp→VK→Prop
noncomputable def kQ (X:Cx) (f:Value→Value→Sem Value) (r:R2):Prop :=
 ∀(pins:List (Addr×Obj)) (s:Shared) (σ:St) (H:Hp) (x y:V) (v u:Value) (Q:VK),Inv X pins σ H s→RelV x v→RelV y u→r x y H Q →
  wpAny (model X.prog X.w) X.A (f v u) (EP X pins σ Q) X.xe s
noncomputable def Rl (X:Cx) (f:Value→Sem Value) (r:V→Hp→VK→Prop):Prop :=
 ∀(pins:List (Addr×Obj)) (s:Shared) (σ:St) (H:Hp) (x:V) (v:Value) (Q:VK),Inv X pins σ H s→RelV x v→r x H Q →
  wpAny (model X.prog X.w) X.A (f v) (EP X pins σ Q) X.xe s
noncomputable def fF (X:Cx) (f:Value) (r:List V→Hp→VK→Prop):Prop :=
 ∀(pins:List (Addr×Obj)) (s:Shared) (σ:St) (H:Hp) (xs:List V) (us:List Value) (Q:VK),Inv X pins σ H s→Vals xs us→r xs H Q →
  wpAny (model X.prog X.w) X.A (call f us) (EP X pins σ Q) X.xe s
noncomputable def TruR (X:Cx) (r:V→Hp→(Bool→Hp→Prop)→Prop):Prop :=
 ∀(pins:List (Addr×Obj)) (s:Shared) (σ:St) (H:Hp) (x:V) (v:Value) (Q:Bool→Hp→Prop),Inv X pins σ H s→RelV x v→r x H Q →
  wpAny (model X.prog X.w) X.A (truthy v) (TP X pins σ Q) X.xe s
noncomputable def PL (r:R2) (ta tb:TE):TE:=fun σ H Q=>ta σ H fun x H1=>tb σ H1 fun y H2=>r x y H2 Q
noncomputable def tUn (r:V→Hp→VK→Prop) (ta:TE):TE:=fun σ H Q=>ta σ H fun x H1=>r x H1 Q
noncomputable def rI (C:Int→Int→Prop) (g:Int→Int→V):R2:=fun x y H Q=>∃i j,x = .int i∧y = .int j∧C i j∧Q (g i j) H
noncomputable def BM (g:Int→Int→V):R2:=fun x y H Q=>∃i j,x = .int i∧y = .int j∧Q (g i j) H
noncomputable def rU (g:Int→V):V→Hp→VK→Prop:=fun x H Q=>∃i,x = .int i∧Q (g i) H
section
variable {X:Cx}{a b c:Expr}{ta tb tc:TE}{pos:Pos}
theorem Jv (ha:PE X a ta) (hb:PE X b tb) {pins:List (Addr×Obj)}{s:Shared}{σ:St}{H:Hp}{R:V→V→Hp→Prop}(I:Inv X pins σ H s)
  (h:ta σ H fun x H1=>tb σ H1 fun y H2=>R x y H2) {Q:Value→Shared→Prop}{f:Value→Value→Sem Value}
  (hf:∀v u s2 x y H2,Inv X pins σ H2 s2→RelV x v→RelV y u→R x y H2→wpAny (model X.prog X.w) X.A (f v u) Q X.xe s2) :
  wpAny (model X.prog X.w) X.A (eval a X.env) (fun v s₁=>wpAny (model X.prog X.w) X.A (eval b X.env) (fun u s₂=>wpAny (model X.prog X.w) X.A (f v u) Q X.xe s₂) X.xe s₁) X.xe s:=by
 refine bG (ha pins s σ H _ I h) fun v s1 ⟨x,H1,I1,r1,q1⟩=>?_
 refine bG (hb pins s1 σ H1 _ I1 q1) fun u s2 ⟨y,H2,I2,r2,q2⟩=>?_
 exact hf v u s2 x y H2 I2 r1 r2 q2
theorem aq {op:Operator}{r:R2}(ho:kQ X (binaryOp op) r) (ha:PE X a ta) (hb:PE X b tb):PE X (.BinOp a op b pos) (PL r ta tb):=by
 intro pins s σ H Q I h
 exact wpAny_BinOp (Jv ha hb I h fun v u s2 x y H2 I2 rx ry q=>ho pins s2 σ H2 x y v u Q I2 rx ry q)
theorem yE {op:UnaryOp}{r:V→Hp→VK→Prop}(ho:Rl X (unaryOp op) r) (ha:PE X a ta):PE X (.UnaryOp op a pos) (tUn r ta):=by
 intro pins s σ H Q I h
 exact UnaryOp_ (bG (ha pins s σ H _ I h) fun v s1 ⟨x,H1,I1,r1,q1⟩=>ho pins s1 σ H1 x v Q I1 r1 q1)
theorem LO {f:Value→Value→Sem Value}{C:Int→Int→Prop}{g:Int→Int→Int}
  (rule:∀(i j:Int) (t u:Tok) (s:Shared) (Q:Value→Shared→Prop) (E:Value→Shared→Prop),C i j→Q (.int (g i j) s.toks) { s with toks:=s.toks+1 }→wpAny (model X.prog X.w) X.A (f (.int i t) (.int j u)) Q E s) :
  kQ X f (rI C fun i j=>.int (g i j)):=by
 intro pins s σ H x y v u Q I rx ry h
 obtain⟨i,j,rfl,rfl,hc,q⟩:=h
 obtain⟨t,rfl⟩:=rx
 obtain⟨t',rfl⟩:=ry
 exact rule i j t t' s _ _ hc ⟨.int (g i j),H,I.tok _,⟨_,rfl⟩,q⟩
theorem BN {f:Value→Value→Sem Value}{g:Int→Int→Int}
  (rule:∀(i j:Int) (t u:Tok) (s:Shared) (Q:Value→Shared→Prop) (E:Value→Shared→Prop),Q (.int (g i j) s.toks) { s with toks:=s.toks+1 }→wpAny (model X.prog X.w) X.A (f (.int i t) (.int j u)) Q E s) :
  kQ X f (BM fun i j=>.int (g i j)):=by
 intro pins s σ H x y v u Q I rx ry h
 obtain⟨i,j,rfl,rfl,q⟩:=h
 obtain⟨t,rfl⟩:=rx
 obtain⟨t',rfl⟩:=ry
 exact rule i j t t' s _ _ ⟨.int (g i j),H,I.tok _,⟨_,rfl⟩,q⟩
theorem Ft {f:Value→Value→Sem Value}{g:Int→Int→Bool}
  (rule:∀(i j:Int) (t u:Tok) (s:Shared) (Q:Value→Shared→Prop) (E:Value→Shared→Prop),Q (.bool (g i j)) s→wpAny (model X.prog X.w) X.A (f (.int i t) (.int j u)) Q E s) :
  kQ X f (BM fun i j=>.bl (g i j)):=by
 intro pins s σ H x y v u Q I rx ry h
 obtain⟨i,j,rfl,rfl,q⟩:=h
 obtain⟨t,rfl⟩:=rx
 obtain⟨t',rfl⟩:=ry
 exact rule i j t t' s _ _ ⟨.bl (g i j),H,I,rfl,q⟩
noncomputable def CDiv (i j:Int):Prop:=0<j∧j<1073741824
noncomputable def CDivN (i j:Int):Prop:=j≠0∧j.natAbs<1073741824
noncomputable def BO (i j:Int):Prop:=0≤j∧j≤1000000∧i.natAbs<2^64
noncomputable def CMul (i j:Int):Prop:=(-(2^64)<i∧i<2^64)∨(-(2^64)<j∧j<2^64)
theorem wY (k:Nat):(0:Int)≤2^k:=by
 rw[two_pow_cast]
 exact Int.natCast_nonneg _
theorem cT:kQ X (binaryOp .Add) (BM fun i j=>.int (i+j)):=BN fun _ _ _ _ _ _ _ q=>add_int q
theorem ir:kQ X (binaryOp .Sub) (BM fun i j=>.int (i-j)):=BN fun _ _ _ _ _ _ _ q=>sub_int q
theorem br:kQ X (binaryOp .Mod) (rI (fun _ j=>0<j) fun i j=>.int (i%j)):=LO fun i j _ _ _ _ _ hc q=>by
 have h1:(0:Int)<j:=hc
 exact mod_int' (by omega) (by rw[Int.fmod_eq_emod_of_nonneg i (by omega)];exact q)
theorem BP:kQ X (binaryOp .Pow) (rI BO fun i j=>.int (i^j.toNat)):=LO fun _ _ _ _ _ _ _ hc q=>pow_int_small hc.1 hc.2.1 hc.2.2 q
theorem cu:kQ X (binaryOp .LShift) (rI BO fun i j=>.int (i*2^j.toNat)):=LO fun _ _ _ _ _ _ _ hc q=>lshift_int_small hc.1 hc.2.1 hc.2.2 q
theorem i7:kQ X (binaryOp .RShift) (rI (fun _ j=>0≤j) fun i j=>.int (i/2^j.toNat)):=LO fun i j _ _ _ _ _ hc q =>
 rshift_int hc (by rw[Int.fdiv_eq_ediv_of_nonneg i (wY _)];exact q)
theorem cx:kQ X (binaryOp .BitAnd) (BM fun i j=>.int (Builtin.bitAnd i j)):=BN fun _ _ _ _ _ _ _ q=>and_int q
theorem u6:kQ X (binaryOp .BitOr) (BM fun i j=>.int (Builtin.bitOr i j)):=BN fun _ _ _ _ _ _ _ q=>or_int q
theorem bI:kQ X (binaryOp .BitXor) (BM fun i j=>.int (Builtin.bitXor i j)):=BN fun _ _ _ _ _ _ _ q=>xor_int q
theorem unI {f:Value→Sem Value}{g:Int→Int}
  (rule:∀(i:Int) (t:Tok) (s:Shared) (Q:Value→Shared→Prop) (E:Value→Shared→Prop),Q (.int (g i) s.toks) { s with toks:=s.toks+1 }→wpAny (model X.prog X.w) X.A (f (.int i t)) Q E s) :
  Rl X f (rU fun i=>.int (g i)):=by
 intro pins s σ H x v Q I rx h
 obtain⟨i,rfl,q⟩:=h
 obtain⟨t,rfl⟩:=rx
 exact rule i t s _ _ ⟨.int (g i),H,I.tok _,⟨_,rfl⟩,q⟩
theorem su:Rl X (unaryOp .USub) (rU fun i=>.int (-i)):=unI fun _ _ _ _ _ q=>neg_int q
end
noncomputable def MB:V→V→Bool
 | .cK,.cK=>true | .cK,.int _=>true | .int _,.cK=>true | .cK,.bl _=>true | .bl _,.cK=>true | .cK,.str _=>true | .str _,.cK=>true
 | .int _,.int _=>true | .bl _,.bl _=>true | .str _,.str _=>true | .wG _,.wG _=>true
 | .int _,.str _=>true | .str _,.int _=>true | .bl _,.str _=>true | .str _,.bl _=>true
 | _,_=>false
noncomputable def rEq:R2:=fun x y H Q=>MB x y=true∧Q (.bl (decide (x=y))) H
noncomputable def rNe:R2:=fun x y H Q=>MB x y=true∧Q (.bl (!decide (x=y))) H
theorem iu {i j:Int}:decide (V.int i=V.int j)=(i == j):=by
 rw[Bool.eq_iff_iff]
 simp
theorem BQ {i j:Bool}:decide (V.bl i=V.bl j)=(i == j):=by
 rw[Bool.eq_iff_iff]
 simp
theorem yF {i j:Str}:decide (V.str i=V.str j)=(i == j):=by
 rw[Bool.eq_iff_iff]
 simp
theorem yG {i j:Array UInt8}:decide (V.wG i=V.wG j)=(i.toList == j.toList):=by
 rw[Bool.eq_iff_iff]
 cases i
 cases j
 simp
section
variable {X:Cx}{a b c:Expr}{ta tb tc:TE}{pos:Pos}
theorem ba {pins:List (Addr×Obj)}{σ:St}{H:Hp}{s:Shared}{Q:VK}{k k':Bool}(I:Inv X pins σ H s) (q:Q (.bl k) H) (e:k=k'):EP X pins σ Q (.bool k') s:=by
 subst e
 exact⟨.bl k,H,I,rfl,q⟩
theorem d9:kQ X (compareOp .Eq) rEq:=by
 intro pins s σ H x y v u Q I rx ry h
 obtain⟨hs,q⟩:=h
 cases x with
 | cK =>
  cases rx
  cases y with
  | cK=>cases ry;exact PySem.EqNone.eq_none_none (ba I q (by simp))
  | bl j=>cases ry;exact PySem.EqNone.eq_none_bool (ba I q (by simp))
  | int j=>obtain⟨t',rfl⟩:=ry;exact PySem.EqNone.eq_none_int (ba I q (by simp))
  | str j=>obtain⟨t',rfl⟩:=ry;exact PySem.EqNone.eq_none_str (ba I q (by simp))
  | _=>exact absurd (show false=true from hs) Bool.false_ne_true
 | bl i =>
  cases rx
  cases y with
  | cK=>cases ry;exact PySem.EqNone.eq_bool_none (ba I q (by simp))
  | bl j=>cases ry;exact eq_bool (ba I q BQ)
  | str j=>obtain⟨t',rfl⟩:=ry;exact PySem.EqMixed.eq_bool_str (ba I q (by simp))
  | _=>exact absurd (show false=true from hs) Bool.false_ne_true
 | int i =>
  obtain⟨t,rfl⟩:=rx
  cases y with
  | cK=>cases ry;exact PySem.EqNone.eq_int_none (ba I q (by simp))
  | int j=>obtain⟨t',rfl⟩:=ry;exact eq_int (ba I q iu)
  | str j=>obtain⟨t',rfl⟩:=ry;exact PySem.EqMixed.eq_int_str (ba I q (by simp))
  | _=>exact absurd (show false=true from hs) Bool.false_ne_true
 | str i =>
  obtain⟨t,rfl⟩:=rx
  cases y with
  | cK=>cases ry;exact PySem.EqNone.eq_str_none (ba I q (by simp))
  | bl j=>cases ry;exact PySem.EqMixed.eq_str_bool (ba I q (by simp))
  | int j=>obtain⟨t',rfl⟩:=ry;exact PySem.EqMixed.eq_str_int (ba I q (by simp))
  | str j=>obtain⟨t',rfl⟩:=ry;exact eq_str (ba I q yF)
  | _=>exact absurd (show false=true from hs) Bool.false_ne_true
 | wG i =>
  obtain⟨t,rfl⟩:=rx
  cases y with
  | wG j=>obtain⟨t',rfl⟩:=ry;exact PySem.W.eq_bytes (ba I q yG)
  | _=>exact absurd (show false=true from hs) Bool.false_ne_true
 | _=>cases y<;>exact absurd (show false=true from hs) Bool.false_ne_true
theorem i8:kQ X (compareOp .NotEq) rNe:=by
 intro pins s σ H x y v u Q I rx ry h
 obtain⟨hs,q⟩:=h
 cases x with
 | cK =>
  cases rx
  cases y with
  | cK=>cases ry;exact PySem.EqNone.ne_none_none (ba I q (by simp))
  | bl j=>cases ry;exact PySem.EqNone.ne_none_bool (ba I q (by simp))
  | int j=>obtain⟨t',rfl⟩:=ry;exact PySem.EqNone.ne_none_int (ba I q (by simp))
  | str j=>obtain⟨t',rfl⟩:=ry;exact PySem.EqNone.ne_none_str (ba I q (by simp))
  | _=>exact absurd (show false=true from hs) Bool.false_ne_true
 | bl i =>
  cases rx
  cases y with
  | cK=>cases ry;exact PySem.EqNone.ne_bool_none (ba I q (by simp))
  | bl j=>cases ry;exact ne_bool (ba I q (congrArg not BQ))
  | str j=>obtain⟨t',rfl⟩:=ry;exact PySem.EqMixed.ne_bool_str (ba I q (by simp))
  | _=>exact absurd (show false=true from hs) Bool.false_ne_true
 | int i =>
  obtain⟨t,rfl⟩:=rx
  cases y with
  | cK=>cases ry;exact PySem.EqNone.ne_int_none (ba I q (by simp))
  | int j=>obtain⟨t',rfl⟩:=ry;exact ne_int (ba I q (congrArg not iu))
  | str j=>obtain⟨t',rfl⟩:=ry;exact PySem.EqMixed.ne_int_str (ba I q (by simp))
  | _=>exact absurd (show false=true from hs) Bool.false_ne_true
 | str i =>
  obtain⟨t,rfl⟩:=rx
  cases y with
  | cK=>cases ry;exact PySem.EqNone.ne_str_none (ba I q (by simp))
  | bl j=>cases ry;exact PySem.EqMixed.ne_str_bool (ba I q (by simp))
  | int j=>obtain⟨t',rfl⟩:=ry;exact PySem.EqMixed.ne_str_int (ba I q (by simp))
  | str j=>obtain⟨t',rfl⟩:=ry;exact ne_str (ba I q (congrArg not yF))
  | _=>exact absurd (show false=true from hs) Bool.false_ne_true
 | wG i =>
  obtain⟨t,rfl⟩:=rx
  cases y with
  | wG j=>obtain⟨t',rfl⟩:=ry;exact PySem.W.ne_bytes (ba I q (congrArg not yG))
  | _=>exact absurd (show false=true from hs) Bool.false_ne_true
 | _=>cases y<;>exact absurd (show false=true from hs) Bool.false_ne_true
theorem i9:kQ X (compareOp .Lt) (BM fun i j=>.bl (decide (i<j))):=Ft fun _ _ _ _ _ _ _ q=>lt_int q
theorem yH:kQ X (compareOp .LtE) (BM fun i j=>.bl (decide (i≤j))):=Ft fun _ _ _ _ _ _ _ q=>le_int q
theorem qY:kQ X (compareOp .Gt) (BM fun i j=>.bl (decide (j<i))):=Ft fun _ _ _ _ _ _ _ q=>gt_int q
theorem MD:kQ X (compareOp .GtE) (BM fun i j=>.bl (decide (j≤i))):=Ft fun _ _ _ _ _ _ _ q=>ge_int q
theorem sv:kQ X (compareOp .IsNot) (fun x y H Q=>y = .cK∧Q (.bl (!decide (x = .cK))) H):=by
 intro pins s σ H x y v u Q I rx ry h
 obtain⟨rfl,q⟩:=h
 cases ry
 refine isnot_none_gen (ba I q ?_)
 cases x<;>first
  | (cases rx;rfl)
  | (obtain⟨t,rfl⟩:=rx;rfl)
noncomputable def isObj:HO→Bool
 | .lst _=>true
 | .ins _ _ _=>true
 | _=>false
theorem aM (b:Expr) {op:CmpOp}(h:op≠.In:=by decide) (h2:op≠.NotIn:=by decide):behindInMarks op b=false:=by
 have e1:(op == CmpOp.In)=false:=by cases op<;>first|rfl|exact absurd rfl h
 have e2:(op == CmpOp.NotIn)=false:=by cases op<;>first|rfl|exact absurd rfl h2
 cases b<;>simp[behindInMarks,e1,e2]
theorem iw {op:CmpOp}{r:R2}(ho:kQ X (compareOp op) r) (ha:PE X a ta) (hb:PE X b tb) (hm:behindInMarks op b=false):PE X (.Compare a [op] [b] pos) (PL r ta tb):=by
 intro pins s σ H Q I h
 exact wpAny_Compare1 (Jv ha hb I h fun v u s2 x y H2 I2 rx ry q=>ho pins s2 σ H2 x y v u Q I2 rx ry q) hm
noncomputable def ME (t:TE):TT:=fun σ H Q=>t σ H fun x H'=>∃k,x = .bl k∧Q k H'
theorem aF {op:CmpOp}{r:R2}(ho:kQ X (compareOp op) r) (ha:PE X a ta) (hb:PE X b tb) (hm:behindInMarks op b=false):PT X (.Compare a [op] [b] pos) (ME (PL r ta tb)):=by
 intro pins s σ H Q I h
 refine wpAny_isTrue_Compare1 (bG (ha pins s σ H _ I h) fun v s1 ⟨x,H1,I1,r1,q1⟩=>bG (hb pins s1 σ H1 _ I1 q1) fun u s2 ⟨y,H2,I2,r2,q2⟩ =>
  bG (ho pins s2 σ H2 x y v u _ I2 r1 r2 q2) fun c s3 ⟨z,H3,I3,r3,k,e,q3⟩=>?_) hm
 subst e
 cases r3
 exact wpAny_truthy_bool ⟨H3,I3,q3⟩
noncomputable def Jw (r r':R2) (ta tb tc:TE):TE:=fun σ H Q=>ta σ H fun x H1=>tb σ H1 fun y H2=>r x y H2 fun z H3=>∃k,z = .bl k ∧
 (if k=true then tc σ H3 fun w' H4=>r' y w' H4 Q else Q (.bl false) H3)
theorem lF {op Rm:CmpOp}{r r':R2}(ho:kQ X (compareOp op) r) (iU:kQ X (compareOp Rm) r') (ha:PE X a ta) (hb:PE X b tb) (hc:PE X c tc)
  (hm:lastMarks [op,Rm] [b,c]=false:=by with_unfolding_all rfl):PE X (.Compare a [op,Rm] [b,c] pos) (Jw r r' ta tb tc):=by
 intro pins s σ H Q I h
 refine Compare_chain (bG (ha pins s σ H _ I h) fun v s1 ⟨x,H1,I1,r1,q1⟩=>chain_link (bG (hb pins s1 σ H1 _ I1 q1) fun u s2 ⟨y,H2,I2,r2,q2⟩ =>
  bG (ho pins s2 σ H2 x y v u _ I2 r1 r2 q2) fun d s3 ⟨z,H3,I3,r3,k,e,q3⟩=>?_)) hm
 subst e
 cases r3
 refine wpAny_truthy_bool ?_
 cases k with
 | false=>exact ite_ff ⟨.bl false,H3,I3,rfl,q3⟩
 | true=>exact ite_tt (chain_last (bG (hc pins s3 σ H3 _ I3 q3) fun w' s4 ⟨z',H4,I4,r4,q4⟩=>iU pins s4 σ H4 y z' u w' Q I4 r2 r4 q4))
noncomputable def TruV (K:Frag) (x:V) (H:Hp) (k:Bool):Prop :=
 match x with
 | .cK=>k=false
 | .bl b=>k=b
 | .int i=>k=(i != 0)
 | .str y=>y.length≤sizeLine∧k=((y.length:Int) != 0)
 | .wG y=>y.size≤sizeLine∧k=((y.size:Int) != 0)
 | .ref p=>(∃xs,cC K H p xs∧k = !xs.isEmpty)∨(∃xs,fh K H p xs∧k = !xs.isEmpty)∨∃ar,H p=some (.dK ar)∧k = !ar.isEmpty
 | _=>False
theorem sA:(sizeLine:Nat)<2^63:=by rw[sizeLine_eq];decide
noncomputable def MF (b:Expr):Prop:=∀o i,subscripted b false o i=operate [o,i] (getItem o i)
theorem vals1 {x:V}{us:List Value}(r:Vals [x] us):∃u,us=[u]∧RelV x u:=by
 cases r with
 | cons r1 r2=>cases r2;exact⟨_,rfl,r1⟩
theorem vals2 {x y:V}{us:List Value}(r:Vals [x,y] us):∃u w',us=[u,w']∧RelV x u∧RelV y w':=by
 cases r with
 | cons r1 r2 =>
  cases r2 with
  | cons r3 r4=>cases r4;exact⟨_,_,rfl,r1,r3⟩
theorem qZ (hc:X.calm=true):fF X (.builtin "min") (fun xs H Q=>∃i j,xs=[.int i,.int j]∧Q (.int (if j<i then j else i)) H):=by
 intro pins s σ H xs us Q I r h
 obtain⟨i,j,rfl,q⟩:=h
 obtain⟨u,w',rfl,⟨t,rfl⟩,⟨t',rfl⟩⟩:=vals2 r
 refine min_two_ints (I.ok.hd hc) fun h' tk k=>⟨_,H,I.kept k,?_,q⟩
 by_cases hj:j<i
 ·rw[if_pos hj,if_pos hj];exact⟨_,rfl⟩
 ·rw[if_neg hj,if_neg hj];exact⟨_,rfl⟩
noncomputable def LenV (K:Frag) (x:V) (H:Hp) (n:Nat):Prop :=
 match x with
 | .str y=>y.length≤sizeLine∧n=y.length
 | .wG y=>y.size≤sizeLine∧n=y.size
 | .ref p=>(∃xs,cC K H p xs∧n=xs.length)∨∃xs,fh K H p xs∧n=xs.length
 | _=>False
end
structure wZ (h:Heap) (x dx C:Addr) (mA:Str→Option Value):Prop where
 obj:h.get? x=some (PySem.W.instObj C dx)
 ns:h.Ns1 dx mA
 ne:dx≠x
theorem Ai {h:Heap}{dx:Addr}{mA:Str→Option Value}(n:h.Ns1 dx mA):∃od,h.get? dx=some od∧∀name,PySem.W.lookIn name od=some (mA name):=by
 obtain⟨o,es,ep,ho,hd,hk,_,hm⟩:=n
 refine⟨o,ho,fun name=>?_⟩
 have e:=hm name
 unfold nsFind findBy at e
 rw[←Array.find?_toList] at e
 unfold PySem.W.lookIn
 rw[hd]
 dsimp only
 split
 ·rename_i y q
  rw[q] at e
  exact congrArg some e
 ·rename_i q
  rw[q] at e
  have a:es.toList.any (·.refKey)=false:=by
   rw[any_eq_false]
   intro y hy
   obtain⟨z,t,Fu⟩:=hk y (Array.mem_toList_iff.mp hy)
   simp[DictEntry.refKey,Fu]
  have a':¬es.toList.any (·.refKey)=true:=by rw[a];exact Bool.false_ne_true
  rw[if_neg a']
  exact congrArg some e
theorem wZ.look {h:Heap}{x dx C:Addr}{mA:Str→Option Value}(I:wZ h x dx C mA):∃od,PySem.W.InstAt h x (PySem.W.instObj C dx) C (some od)∧∀name,PySem.W.lookIn name od=some (mA name) :=
 let ⟨od,ho,hl⟩:=Ai I.ns
 ⟨od,⟨I.obj,rfl,rfl,ho⟩,hl⟩
section
variable {prog:Program}{w:World}{A:Around}{E:Value→Shared→Prop}{s:Shared}{K:Frag}{x dx C f:Addr}{mA:Str→Option Value}{name:Str}{v:Value}
theorem get_map {expr:Bool}{Q:Value→Shared→Prop}(X:K.In s.heap) (I:wZ s.heap x dx C mA) (hg:PySem.W.plainGet K C name=true) (hh:PySem.W.hasDictIn K C=true)
  (ha:PySem.W.findIn K (.ref C) name=some none) (hv:mA name=some v) (ES:PySem.W.handedIn v=true) (h:Q v { s with toks:=s.toks+1 }) :
  wpAny (model prog w) A (getAttr (.ref x) name expr) Q E s:=by
 obtain⟨od,J,hl⟩:=I.look
 exact PySem.W.get_value X J (PySem.W.plainGet_of hg).1 (PySem.W.findObj_own hh ha rfl (by rw[hl,hv])) ES h
theorem BR {pl:Sem Bool}{Q:Value×List Value→Shared→Prop}(X:K.In s.heap) (I:wZ s.heap x dx C mA) (hg:PySem.W.plainGet K C name=true)
  (hf:PySem.W.findIn K (.ref C) name=some (some (.ref f))) (ht:PySem.W.isFn K (.ref f)=true) (hv:mA name=none) (h:Q (.ref f,[.ref x]) s) :
  wpAny (model prog w) A (getMethod (.ref x) name pl) Q E s:=by
 obtain⟨od,J,hl⟩:=I.look
 exact PySem.W.method_fn X J (PySem.W.plainGet_of hg).1 (PySem.W.plainGet_of hg).2 hf (beq_iff_eq.mp ht) (by show (PySem.W.lookIn name od).map (·.isSome)=some false;rw[hl,hv];rfl) h
theorem Fv {ns:List Str}{Q:Unit→Shared→Prop}(X:K.In s.heap) (I:wZ s.heap x dx C mA)
  (hs:PySem.W.findIn K (.ref C) "__setattr__"=some (some (.builtin "object.__setattr__"))) (hp:PySem.W.plainOver K C=true) (ht:PySem.W.takerIn K C name=some none) (hh:PySem.W.hasDictIn K C=true)
  (hw:PySem.Within mA ns) (hsz:ns.length≤sizeLine)
  (h:∀h',wZ h' x dx C (fun y=>if y=name then some v else mA y)→Heap.SameBut dx s.heap h'→Q () { s with heap:=h',toks:=s.toks+2 }) :
  wpAny (model prog w) A (setAttr (.ref x) name v) Q E s:=by
 obtain⟨od,J,hl⟩:=I.look
 refine PySem.W.set_plain X J hs (PySem.W.osa_open (s:={ s with toks:=s.toks+1 }) (r:=none) X J hp ht fun b=>?_)
 obtain⟨cd,hc,j4⟩:=PySem.W.any_some hh
 have hx:s.heap.get? x=some ⟨.ref C,some dx,.plain,#[]⟩:=I.obj
 refine wpAny_bind (wpAny_pure (wpAny_bind (wpAny_bind (wpAny_loadPart hx (wpAny_bind (PySem.W.Looks.here (s:={ s with toks:=s.toks+1 }) (PySem.W.looks_clsIn X hc) ?_))))))
 rw[j4]
 refine wpAny_pure (a:=some dx) (wpAny_bind (wpAny_pure (wpAny_bind ?_)))
 refine wpAny_nsSet1 (s:={ s with toks:=s.toks+1 }) I.ns fun h' PM Br=>?_
 obtain⟨oD,esD,epD,Rn,Ro,BS⟩:=PM.count (PySem.Within.cons name v hw)
 refine wpAny_bind (wpAny_lookBehind Rn (by rw[Ro];exact pastItsLine_dict (Nat.le_trans BS (by rw[List.length_cons];omega))) ?_)
 exact wpAny_pure (h _ ⟨(Br.2 _ (Ne.symm I.ne)).trans I.obj,PM,I.ne⟩ Br)
theorem BU {R:Result→Shared→Prop}{vs:List Value}{kw:List (Str×Value)}(X:K.In s.heap) (hm:PySem.W.makesIn K C=true)
  (hi:PySem.W.findIn K (.ref C) "__init__"=some (some (.ref f))) (hf:PySem.W.typeIn K (.ref f)=some (.type "function"))
  (h:codeAny (model prog w) (A.under (.builtin "type.__call__" ⟨.ref C::vs,kw⟩)) (.call (.ref f) ⟨.ref (s.heap.objs.size+1)::vs,kw⟩) (PySem.W.InitBack (s.heap.objs.size+1) R)
   { s with heap:=(s.heap.push PySem.W.emptyDict).push (PySem.W.instObj C s.heap.objs.size) }) :
  codeAny (model prog w) A (.call (.ref C) ⟨vs,kw⟩) R s:=by
 obtain⟨hh,g,d,t,os⟩:=s
 exact PySem.W.make_core (PySem.W.makes_of X hm) (PySem.W.looks_findIn X hi) (fun self=>PySem.W.bind_fn X self hf) (.inl rfl) h
end
noncomputable def gr (f:Str) (v:V):List (Str×V)→List (Str×V)
 | []=>[(f,v)]
 | (g,x)::r=>if g=f then (g,v)::r else (g,x)::gr f v r
theorem je (f g:Str) (v:V):∀fs:List (Str×V),(gr f v fs).lookup g=if g=f then some v else fs.lookup g
 | []=>by
  show List.lookup g [(f,v)]=_
  by_cases h:g=f
  ·have hb:(g == f)=true:=beq_iff_eq.mpr h
   simp only[List.lookup,hb,if_pos h]
  ·have hb:(g == f)=false:=beq_eq_false_iff_ne.mpr h
   simp only[List.lookup,hb,if_neg h]
 | (k,x)::r=>by
  have ih:=je f g v r
  rw[show gr f v ((k,x)::r)=(if k=f then (k,v)::r else (k,x)::gr f v r) from rfl]
  by_cases hk:k=f
  ·rw[if_pos hk]
   by_cases h:g=k
   ·have hb:(g == k)=true:=beq_iff_eq.mpr h
    simp only[List.lookup,hb,if_pos (h.trans hk)]
   ·have hb:(g == k)=false:=beq_eq_false_iff_ne.mpr h
    simp only[List.lookup,hb,if_neg (fun e:g=f=>h (e.trans hk.symm))]
  ·rw[if_neg hk]
   by_cases h:g=k
   ·have hb:(g == k)=true:=beq_iff_eq.mpr h
    simp only[List.lookup,hb,if_neg (fun e:g=f=>hk (h.symm.trans e))]
   ·have hb:(g == k)=false:=beq_eq_false_iff_ne.mpr h
    simp only[List.lookup,hb]
    exact ih
theorem mC (f:Str) (v:V):∀fs:List (Str×V),f∈(gr f v fs).map (·.1)∧∀g,g∈fs.map (·.1)→g∈(gr f v fs).map (·.1)
 | []=>⟨by simp[gr],fun g h=>by simp at h⟩
 | (k,x)::r=>by
  obtain⟨i1,i2⟩:=mC f v r
  rw[show gr f v ((k,x)::r)=(if k=f then (k,v)::r else (k,x)::gr f v r) from rfl]
  by_cases hk:k=f
  ·rw[if_pos hk]
   subst hk
   exact⟨by simp,fun g h=>by simpa using h⟩
  ·rw[if_neg hk]
   refine⟨?_,fun g h=>?_⟩
   ·rw[List.map_cons]
    exact mem_cons_of_mem _ i1
   ·rw[List.map_cons] at h ⊢
    rcases List.mem_cons.mp h with e|e
    ·exact List.mem_cons.mpr (.inl e)
    ·exact mem_cons_of_mem _ (i2 g e)
theorem ni (f:Str) (v:V):∀fs:List (Str×V),(gr f v fs).length≤fs.length+1
 | []=>by simp[gr]
 | (k,x)::r=>by
  have ih:=ni f v r
  rw[show gr f v ((k,x)::r)=(if k=f then (k,v)::r else (k,x)::gr f v r) from rfl]
  by_cases hk:k=f
  ·rw[if_pos hk,List.length_cons,List.length_cons];omega
  ·rw[if_neg hk,List.length_cons,List.length_cons];omega
theorem fU.some_of {v:V}{o:Option Value}(r:fU (some v) o):∃u,o=some u∧RelV v u:=by
 cases o with
 | none=>exact(show False from r).elim
 | some u=>exact⟨u,rfl,r⟩
theorem fU.none_of {o:Option Value}(r:fU none o):o=none:=by
 cases o with
 | none=>rfl
 | some u=>exact(show False from r).elim
theorem q8 {v:V}{u:Value}(r:RelV v u):PySem.W.handedIn u=true:=by
 cases v with
 | cK=>cases (show u=Value.none from r);rfl
 | bl b=>cases (show u=Value.bool b from r);rfl
 | int i=>obtain⟨t,e⟩:=(show ∃t,u=Value.int i t from r);cases e;rfl
 | str x=>obtain⟨t,e⟩:=(show ∃t,u=Value.str x t from r);cases e;rfl
 | wG b=>obtain⟨t,e⟩:=(show ∃t,u=Value.bytes b t from r);cases e;rfl
 | Fd b=>obtain⟨t,e⟩:=(show ∃t,u=Value.float b t from r);cases e;rfl
 | ref a=>cases (show u=Value.ref a from r);rfl
 | ty n=>cases (show u=Value.type n from r);rfl
section
variable {P:Program}{w:World}{H H':Hp}{h h':Heap}{a C dx:Addr}{fs Fg:List (Str×V)}
theorem nR (aR:gW P w H h) (e:H a=some (.ins C dx fs)):∃mA,wZ h a dx C mA∧(∀f,fU (fs.lookup f) (mA f))∧PySem.Within mA (fs.map (·.1))∧fs.length≤1000∧H dx=some (.own a):=by
 obtain⟨d,z,ne,ob,mA,n,r,q⟩:=(show aX P w H h a (.ins C dx fs) from aR a _ e)
 exact⟨mA,⟨ob,n,ne⟩,r,q,z,d⟩
end
structure uJ (K:Frag) (C:Addr):Prop where
 pg:PySem.W.plainGet K C Str.empty=true
 hd:PySem.W.hasDictIn K C=true
 po:PySem.W.plainOver K C=true
 sa:PySem.W.findIn K (.ref C) "__setattr__"=some (some (.builtin "object.__setattr__"))
theorem uJ.get {K:Frag}{C:Addr}(c:uJ K C) (f:Str):PySem.W.plainGet K C f=true:=c.pg
noncomputable def bE (K:Frag) (C:Addr) (f:Str):Prop:=PySem.W.findIn K (.ref C) f=some none
theorem bE.MG {K:Frag}{C:Addr}{f:Str}(n:bE K C f):PySem.W.takerIn K C f=some none:=by
 unfold PySem.W.takerIn
 rw[show PySem.W.findIn K (.ref C) f=some none from n]
 rfl
structure Con (K:Frag) (C:Addr) (f:Str) (v:V) (u:Value):Prop where
 at_:PySem.W.findIn K (.ref C) f=some (some u)
 rel:RelV v u
 get:PySem.W.specialIn K u "__get__"=some none
 cp:PySem.W.copiedNames.contains f=false
structure Meth (K:Frag) (C:Addr) (m:Str) (f:Addr):Prop where
 at_:PySem.W.findIn K (.ref C) m=some (some (.ref f))
 fn:PySem.W.isFn K (.ref f)=true
 kp:keepIn K (.ref f)=true
section
variable {X:Cx}{pins:List (Addr×Obj)}{σ:St}{H:Hp}{s:Shared}{a C dx:Addr}{fs:List (Str×V)}{f:Str}{v:V}{A:Around}{E:Value→Shared→Prop}
theorem w9 {b:Bool}{Q:Value→Shared→Prop}(I:Inv X pins σ H s) (e:H a=some (.ins C dx fs)) (c:uJ X.K C) (n:bE X.K C f) (l:fs.lookup f=some v)
  (h:∀u s',Inv X pins σ H s'→RelV v u→Q u s'):wpAny (model X.prog X.w) A (getAttr (.ref a) f b) Q E s:=by
 obtain⟨mA,O,r,_,_,_⟩:=nR I.aR e
 obtain⟨u,hu,ru⟩:=fU.some_of (v:=v) (o:=mA f) (by rw[←l];exact r f)
 exact get_map I.iR O (c.get f) c.hd n hu (q8 ru) (h u _ (I.tok _) ru)
theorem ix {m:Str}{g:Addr}{pl:Sem Bool}{Q:Value×List Value→Shared→Prop}(I:Inv X pins σ H s) (e:H a=some (.ins C dx fs)) (c:uJ X.K C) (k:Meth X.K C m g) (l:fs.lookup m=none)
  (h:Q (.ref g,[.ref a]) s):wpAny (model X.prog X.w) A (getMethod (.ref a) m pl) Q E s:=by
 obtain⟨mA,O,r,_,_,_⟩:=nR I.aR e
 have hn:mA m=none:=fU.none_of (by rw[←l];exact r m)
 exact BR I.iR O (c.get m) k.at_ k.fn hn h
theorem xc {y:V}{u:Value}{Q:Unit→Shared→Prop}(I:Inv X pins σ H s) (e:H a=some (.ins C dx fs)) (c:uJ X.K C) (n:bE X.K C f) (hl:fs.length<1000) (ry:RelV y u)
  (h:∀s',Inv X pins σ (upd H a (.ins C dx (gr f y fs))) s'→Q () s'):wpAny (model X.prog X.w) A (setAttr (.ref a) f u) Q E s:=by
 obtain⟨mA,O,r,wi,_,ho⟩:=nR I.aR e
 have hz:(fs.map (·.1)).length≤sizeLine:=by rw[length_map,sizeLine_eq];omega
 refine Fv I.iR O c.sa c.po n.MG c.hd wi hz fun h' O' sb=>h _ ?_
 have hd:∃o,h'.get? dx=some o:=let ⟨o,_,_,e',_⟩:=O'.ns;⟨o,e'⟩
 refine I.write (x:=a) (e:=dx) (by rw[e];exact True.intro) (.inr ho) (fun b q hb z=>(sb.2 b hb).trans z) hd ?_
 refine⟨by rw[av O.ne];exact ho,?_,O.ne,O'.obj,_,O'.ns,fun g=>?_,fun g hg=>?_⟩
 ·have:=ni f y fs;omega
 ·show fU ((gr f y fs).lookup g) (if g=f then some u else mA g)
  rw[je]
  by_cases q:g=f
  ·rw[if_pos q,if_pos q];exact ry
  ·rw[if_neg q,if_neg q];exact r g
 ·by_cases q:g=f
  ·rw[q];exact(mC f y fs).1
  ·refine(mC f y fs).2 g (wi g fun z=>hg ?_)
   show (if g=f then some u else mA g)=none
   rw[if_neg q];exact z
theorem Inv.made (I:Inv X pins σ H s):Inv X pins σ (upd (upd H s.heap.objs.size (.own (s.heap.objs.size+1))) (s.heap.objs.size+1) (.ins C s.heap.objs.size []))
  { s with heap:=(s.heap.push PySem.W.emptyDict).push (PySem.W.instObj C s.heap.objs.size) }:=by
 have e1:(s.heap.push PySem.W.emptyDict).get? s.heap.objs.size=some PySem.W.emptyDict:=Heap.get?_push_size s.heap rfl
 have e2:((s.heap.push PySem.W.emptyDict).push (PySem.W.instObj C s.heap.objs.size)).get? (s.heap.objs.size+1)=some (PySem.W.instObj C s.heap.objs.size):=by
  have:=Heap.get?_push_size (s.heap.push PySem.W.emptyDict) (o:=PySem.W.instObj C s.heap.objs.size) rfl
  rwa [Heap.size_push] at this
 have e3:(s.heap.push PySem.W.emptyDict).Ns s.heap.objs.size (fun _=>none):=⟨PySem.W.emptyDict,#[],_,e1,rfl,(fun e he=>absurd he (by simp)),fun _=>rfl⟩
 have I1:=I.laid (a:=s.heap.objs.size) (o:=.own (s.heap.objs.size+1)) (h':=s.heap.push PySem.W.emptyDict) (t':=s.toks) (fun b u q=>Heap.get?_push_of_some _ q) (Nat.le_refl _) ⟨_,e1⟩
 refine I1.laid (a:=s.heap.objs.size+1) (o:=.ins C s.heap.objs.size []) (t':=s.toks) (fun b u q=>Heap.get?_push_of_some _ q) (Nat.le_of_eq (Heap.size_push _ _)) ?_
 have ne:s.heap.objs.size≠s.heap.objs.size+1:=Nat.ne_of_lt (Nat.lt_succ_self _)
 refine⟨by rw[av ne,ah],Nat.zero_le _,ne,e2,fun _=>none,(Heap.Ns1.of_empty e3).at fun o q=>Heap.get?_push_of_some _ q,fun _=>True.intro,fun y hy=>absurd rfl hy⟩
theorem yI {prog:Program}{w:World}{env:Env}{e:Expr}{f:Str}{pos:Pos}{s:Shared}{Q:Value→Shared→Prop}(hb:attributeBase e f env (eval e env)=eval e env)
  (h:wpAny (model prog w) A (eval e env) (fun o s₁=>wpAny (model prog w) A (getAttr o f true) Q E s₁) E s):wpAny (model prog w) A (eval (.Attribute e f pos) env) Q E s :=
 Attribute_any_ h (by rw[arm_eval_Attribute,hb])
end
noncomputable def MH (K:Frag) (ta:TE) (f:Str):TE:=fun σ H Q=>ta σ H fun x H1=>∃a C dx fs v,x = .ref a∧H1 a=some (.ins C dx fs)∧uJ K C∧bE K C f∧fs.lookup f=some v∧Q v H1
noncomputable def tCon (K:Frag) (ta:TE) (f:Str):TE:=fun σ H Q=>ta σ H fun x H1=>∃a C dx fs v u,x = .ref a∧H1 a=some (.ins C dx fs)∧uJ K C∧Con K C f v u∧fs.lookup f=none∧Q v H1
noncomputable def MI (K:Frag) (ta tv:TE) (f:Str):TS:=fun D σ H=>tv σ H fun y H1=>ta σ H1 fun x H2=>∃a C dx fs,x = .ref a∧H2 a=some (.ins C dx fs)∧uJ K C∧bE K C f∧fs.length<1000 ∧
 D.nx σ (upd H2 a (.ins C dx (gr f y fs)))
noncomputable def InOp (X:Cx) (op:Operator) (rd:V→V→Hp→VK→Prop):Prop :=
 ∀(pins:List (Addr×Obj)) (s:Shared) (σ:St) (H:Hp) (x y:V) (u v:Value) (Q:VK),Inv X pins σ H s→RelV x u→RelV y v→rd x y H Q→wpAny (model X.prog X.w) X.A (inplaceOp op u v) (EP X pins σ Q) X.xe s
noncomputable def PN (K:Frag) (ta tv:TE) (rd:V→V→Hp→VK→Prop) (f:Str):TS:=fun D σ H=>ta σ H fun x H1=>∃a C dx fs v,x = .ref a∧H1 a=some (.ins C dx fs)∧uJ K C∧bE K C f∧fs.lookup f=some v ∧
 tv σ H1 fun y H2=>rd v y H2 fun z H3=>∃dx' Fg,H3 a=some (.ins C dx' Fg)∧Fg.length<1000∧D.nx σ (upd H3 a (.ins C dx' (gr f z Fg)))
section
variable {X:Cx}{o e value:Expr}{f:Str}{pos pos' tpos:Pos}{ta tv:TE}
theorem Jx (he:PE X e ta) (hb:attributeBase e f X.env (eval e X.env)=eval e X.env):PE X (.Attribute e f pos) (MH X.K ta f):=by
 intro pins s σ H Q I h
 refine yI hb (bG (he pins s σ H _ I h) fun u s1 ⟨x,H1,I1,rx,a,C,dx,fs,v,ex,ea,c,n,l,q⟩=>?_)
 subst ex
 obtain rfl:u=Value.ref a:=rx
 exact w9 I1 ea c n l fun u' s2 I2 ru=>⟨v,H1,I2,ru,q⟩
theorem Jy (ha:PE X o ta) (hv:PE X value tv) (hs:swapsWith value (some (.Attribute o f pos')) pos.line X.env=pure false):PS X (.Assign [.Attribute o f pos'] value pos) (MI X.K ta tv f):=by
 intro pins s σ H D I h
 refine plainObj_wpAny_Assign_Attribute (bG (hv pins s σ H _ I h) fun u s1 ⟨y,H1,I1,ry,q⟩=>bG (ha pins s1 σ H1 _ I1 q) fun ov s2 ⟨x,H2,I2,rx,a,C,dx,fs,ex,ea,c,n,l,q2⟩=>?_) hs
 subst ex
 obtain rfl:ov=Value.ref a:=rx
 exact xc I2 ea c n l ry fun s3 I3=>⟨σ,_,I3,q2⟩
noncomputable def rAdd:V→V→Hp→VK→Prop:=fun x y H Q=>∃i j,x = .int i∧y = .int j∧Q (.int (i+j)) H
noncomputable def rSub:V→V→Hp→VK→Prop:=fun x y H Q=>∃i j,x = .int i∧y = .int j∧Q (.int (i-j)) H
theorem HZ {pl:Sem Bool}{m:Str}{apos:Pos}{args:List Expr}{pins:List (Addr×Obj)}{s:Shared}{σ:St}{H:Hp}{Q:Value→Shared→Prop}{te:TE}(he:PE X e te) (I:Inv X pins σ H s)
  (h:te σ H fun x H1=>∃a C dx fs g,x = .ref a∧H1 a=some (.ins C dx fs)∧uJ X.K C∧Meth X.K C m g∧fs.lookup m=none ∧
   ∀s1,Inv X pins σ H1 s1→wpAny (model X.prog X.w) X.A (callWith pos (.ref g) [.ref a] (backTo pos (starEach args X.env)) (backToKw pos (keywordEach [] X.env))) Q X.xe s1)
  (ht:eval (.Call (.Attribute e m apos) args [] pos) X.env=(do
   let ov ←eval e X.env
   standAt apos.atName
   let (f,first) ←holding [ov] (getMethod ov m pl)
   callWith pos f first (backTo pos (starEach args X.env)) (backToKw pos (keywordEach [] X.env)))) :
  wpAny (model X.prog X.w) X.A (eval (.Call (.Attribute e m apos) args [] pos) X.env) Q X.xe s:=by
 refine PySem.W.methodCall_KW (pl:=pl) (bG (he pins s σ H _ I h) fun u s1 ⟨x,H1,I1,rx,a,C,dx,fs,g,ex,ea,c,k,l,q⟩=>?_) ht
 subst ex
 obtain rfl:u=Value.ref a:=rx
 exact ix I1 ea c k l (q s1 I1)
end
section
variable {X:Cx}{pins:List (Addr×Obj)}{σ:St}{H:Hp}{s:Shared}{A:Around}{E:Value→Shared→Prop}{Q:Value→Shared→Prop}{c:Value}{b:Bool}
inductive mD (K:Frag) (H:Hp):V→Value→Prop where
 | cK:mD K H .cK (.type "NoneType")
 | bl (x:Bool):mD K H (.bl x) (.type "bool")
 | int (i:Int):mD K H (.int i) (.type "int")
 | str (x:Str):mD K H (.str x) (.type "str")
 | Fd (x:UInt64):mD K H (.Fd x) (.type "float")
 | lst {a:Addr}{xs:List V}(e:H a=some (.lst xs)):mD K H (.ref a) (.type "list")
 | uS {a:Addr}{o:Obj}{xs:List V}(e:H a=some (.uS o (.lst xs))):mD K H (.ref a) (.type "list")
 | tup {a:Addr}{xs:List V}(e:H a=some (.tup xs)):mD K H (.ref a) (.type "tuple")
 | dK {a:Addr}{ar:List (Key×V)}(e:H a=some (.dK ar)):mD K H (.ref a) (.type "dict")
 | dT {a:Addr}{ar:List (List Key×V)}(e:H a=some (.dT ar)):mD K H (.ref a) (.type "dict")
 | ins {a C dx:Addr}{fs:List (Str×V)}(e:H a=some (.ins C dx fs)) (cl:uJ K C) (ha:PySem.W.findIn K (.ref C) "__class__"=some (some (.builtin "object.__class__")))
   (hn:PySem.W.specialIn K (.builtin "object.__class__") "__get__"=some (some (.builtin "getset_descriptor.__get__"))) (PQ:PySem.W.takesIn K (.builtin "object.__class__")=some true)
   (hm:PySem.W.mroIn K C (.type "object")=some true):mD K H (.ref a) (.ref C)
theorem Aj {x:V}{u t:Value}(I:Inv X pins σ H s) (rx:RelV x u) (ty:mD X.K H x t) (e:PySem.W.kitOne X.K t c=some b) (h:∀tk,Q (.bool b) { s with toks:=tk }) :
  wpAny (model X.prog X.w) A (call (.builtin "isinstance") [u,c]) Q E s:=by
 cases ty with
 | cK=>cases (show u=Value.none from rx);exact PySem.W.kia_one PySem.W.kitx_none I.iR True.intro e (fun z=>nomatch z) h
 | bl y=>cases (show u=Value.bool y from rx);exact PySem.W.kia_one PySem.W.kitx_bool I.iR True.intro e (fun z=>nomatch z) h
 | int i=>obtain⟨t,q⟩:=(show ∃t,u=Value.int i t from rx);cases q;exact PySem.W.kia_one PySem.W.kitx_int I.iR True.intro e (fun z=>nomatch z) h
 | str y=>obtain⟨t,q⟩:=(show ∃t,u=Value.str y t from rx);cases q;exact PySem.W.kia_one PySem.W.kitx_str I.iR True.intro e (fun z=>nomatch z) h
 | Fd y=>obtain⟨t,q⟩:=(show ∃t,u=Value.float y t from rx);cases q;exact PySem.W.kia_one PySem.W.kitx_float I.iR True.intro e (fun z=>nomatch z) h
 | @lst a xs ea =>
  cases (show u=Value.ref a from rx)
  obtain⟨_,_,n,_,h1⟩:=(show aX X.prog X.w H s.heap a (.lst xs) from I.aR a _ ea)
  exact PySem.W.kia_one PySem.W.kitx_list I.iR ⟨_,h1,rfl⟩ e (fun z=>nomatch z) h
 | @uS a ob xs ea =>
  cases (show u=Value.ref a from rx)
  obtain⟨_,_,_,n,_,h1⟩:=(show aX X.prog X.w H s.heap a (.uS ob (.lst xs)) from I.aR a _ ea)
  exact PySem.W.kia_one PySem.W.kitx_list I.iR ⟨_,h1,rfl⟩ e (fun z=>nomatch z) h
 | @tup a xs ea =>
  cases (show u=Value.ref a from rx)
  obtain⟨_,_,_,p⟩:=(show aX X.prog X.w H s.heap a (.tup xs) from I.aR a _ ea)
  obtain⟨o,h1,h2,_⟩:=p
  exact PySem.W.kia_one PySem.W.kitx_tuple I.iR ⟨o,h1,h2⟩ e (fun z=>nomatch z) h
 | @dK a ar ea =>
  cases (show u=Value.ref a from rx)
  obtain⟨_,_,vs,_,p⟩:=(show aX X.prog X.w H s.heap a (.dK ar) from I.aR a _ ea)
  obtain⟨o,es,ep,h1,h2,_⟩:=p
  exact PySem.W.kia_one PySem.W.kitx_dict I.iR ⟨o,h1,h2.1⟩ e (fun z=>nomatch z) h
 | @dT a ar ea =>
  cases (show u=Value.ref a from rx)
  obtain⟨_,_,xs,_,o,es,ep,h1,h2,_⟩:=(show aX X.prog X.w H s.heap a (.dT ar) from I.aR a _ ea)
  exact PySem.W.kia_one PySem.W.kitx_dict I.iR ⟨o,h1,h2.1⟩ e (fun z=>nomatch z) h
 | @ins a C dx fs ea cl ha hn PQ hm =>
  cases (show u=Value.ref a from rx)
  obtain⟨mA,O,_⟩:=nR I.aR ea
  obtain⟨od,J,_⟩:=O.look
  exact PySem.W.kia_one (PySem.W.kitx_own (cl.get _) cl.hd ha hn PQ hm) I.iR J e (fun z=>nomatch z) h
end
structure bK (k:Nat) (A:Around):Prop where
 hd:A.handled=none
 gd:A.guards=some []
 dp:A.depth+3*k+5<recursionLimit
 un:A.units+16*k+200<cLine
theorem bK.mono {j k:Nat}{A:Around}(r:bK k A) (h:j≤k):bK j A:=⟨r.hd,r.gd,by have:=r.dp;omega,by have:=r.un;omega⟩
theorem bK.deeper {k:Nat}{A:Around}(r:bK (k+1) A) (env:Env):bK k (A.deeper env) :=
 ⟨r.hd,r.gd,by have:=r.dp;show A.depth+1+3*k+5<_;omega,by have:=r.un;show A.units+3+16*k+200<_;omega⟩
theorem bK.in1 {k:Nat}{A:Around}(r:bK (k+1) A):bK k A.in1 :=
 ⟨r.hd,r.gd,by have:=r.dp;show A.depth+3*k+5<_;omega,by have:=r.un;show A.units+1+16*k+200<_;omega⟩
theorem xf {A:Around}{C:Addr}{us:List Value}{kw:List (Str×Value)}:(A.under (.builtin "type.__call__" ⟨.ref C::us,kw⟩)).depth=A.depth+1:=by
 first|rfl|simp[Around.under,Code.weight,Code.isCreation,Code.isGuard,Code.isCaller,Code.frames,Code.isFrame,guardIds]
theorem xg {A:Around}{C:Addr}{us:List Value}{kw:List (Str×Value)}:(A.under (.builtin "type.__call__" ⟨.ref C::us,kw⟩)).units=A.units+1:=by
 first|rfl|simp[Around.under,Code.cUnits,Code.frames,Code.isFrame]
theorem u7 {A:Around}{C:Addr}{us:List Value}{kw:List (Str×Value)}:(A.under (.builtin "type.__call__" ⟨.ref C::us,kw⟩)).guards=A.guards:=by
 cases hA:A.guards<;>simp[Around.under,hA,pushGuards,Code.guards,Code.isGuard,guardIds]
theorem bK.make {k:Nat}{A:Around}(r:bK (k+1) A) (C:Addr) (us:List Value) (kw:List (Str×Value)):bK k (A.under (.builtin "type.__call__" ⟨.ref C::us,kw⟩)) :=
 ⟨r.hd,by rw[u7];exact r.gd,by have:=r.dp;rw[xf];omega,by have:=r.un;rw[xg];omega⟩
theorem bK.depth {k:Nat}{A:Around}(r:bK k A):A.depth<recursionLimit:=by have:=r.dp;omega
noncomputable def Fw:TA:=fun _ H Q=>Q [] H
noncomputable def Ia (ta:TE) (tr:TA):TA:=fun σ H Q=>ta σ H fun x H1=>tr σ H1 fun xs H2=>Q (x::xs) H2
section
variable {X:Cx}{e:Expr}{es:List Expr}{te:TE}{t:TA}{pos:Pos}
theorem ai:PA X [] Fw:=fun _ _ _ _ H Q I h=>Calls.spliced_nil ⟨[],H,I,.nil,h⟩
theorem aa (ha:PE X e te) (hr:PA X es t) (hs:starEach (e::es) X.env=(false,eval e X.env)::starEach es X.env:=by rfl):PA X (e::es) (Ia te t):=by
 intro pos pins s σ H Q I h
 rw[hs]
 show wpAny _ _ (spliced ((false,eval e X.env)::backTo pos (starEach es X.env))) _ _ s
 refine Calls.spliced_cons (bG (ha pins s σ H _ I h) fun u s1 ⟨x,H1,I1,r1,q1⟩=>?_)
 exact bG (hr pos pins s1 σ H1 _ I1 q1) fun us s2 ⟨xs,H2,I2,r2,q2⟩=>⟨x::xs,H2,I2,.cons r1 r2,q2⟩
noncomputable def MJ (t:TA):TE:=fun σ H Q=>t σ H fun xs H1=>xs.length≤sizeLine∧∀p,H1 p=none→Q (.ref p) (upd H1 p (.tup xs))
noncomputable def MK (t:TA):TE:=fun σ H Q=>t σ H fun xs H1=>xs.length≤sizeLine∧∀p,H1 p=none→Q (.ref p) (upd H1 p (.lst xs))
theorem aS {x1}(h:PA X es t):PE X (.Tuple es x1 pos) (MJ t):=by
 intro pins s σ H Q I hq
 refine wpAny_Tuple_spliced (bG (h pos pins s σ H _ I hq) fun us s1 ⟨xs,H1,I1,r,z,q⟩=>⟨by rw[←r.length];exact z,?_⟩)
 have hf:H1 s1.heap.objs.size=none:=I1.aR.fresh (Nat.le_refl _)
 refine⟨.ref s1.heap.objs.size,upd H1 s1.heap.objs.size (.tup xs),I1.laid (t':=s1.toks) (fun b u e=>Heap.get?_push_of_some _ e) (Nat.le_refl _) ?_,rfl,q _ hf⟩
 exact⟨z,us,r,⟨_,Heap.get?_push_size _ rfl,rfl,_,rfl⟩⟩
theorem dN (h:PA X es t):PE X (.List es pos) (MK t):=by
 intro pins s σ H Q I hq
 refine wpAny_List_spliced (bG (h pos pins s σ H _ I hq) fun us s1 ⟨xs,H1,I1,r,z,q⟩=>⟨by rw[←r.length];exact z,?_⟩)
 have hf:H1 s1.heap.objs.size=none:=I1.aR.fresh (Nat.le_refl _)
 refine⟨.ref s1.heap.objs.size,upd H1 s1.heap.objs.size (.lst xs),I1.laid (t':=s1.toks) (fun b u e=>Heap.get?_push_of_some _ e) (Nat.le_refl _) ?_,rfl,q _ hf⟩
 exact⟨z,us,0,r,Heap.get?_push_size _ rfl⟩
end
noncomputable abbrev Sp:=List V→Hp→VK→XK→Prop
noncomputable abbrev yJ:=List Env→Hp→Shared→XK→Value→Shared→Prop
structure qz (P:Program) (w:World) (K:Frag) (mg:Str→Option Value) (base:Heap) (A:Around) (outer:List Env) (s:Shared) (H:Hp):Prop where
 frames:A.frames=some outer
 mod:Mod K mg base
 bs:∀b o,base.get? b=some o→s.heap.get? b=some o∧H b=none
 uT:base.objs.size≤s.heap.objs.size
 iZ:s.heap.FunFrames base outer
 Bq:∀b∈my outer,H b=none
 aR:gW P w H s.heap
 bare:AllBare s.gens
noncomputable def CE (outer:List Env) (P:Program) (w:World) (H:Hp) (s:Shared) (Q:VK) (u:Value) (s':Shared):Prop :=
 ∃v H',s'.os=s.os∧AllBare s'.gens∧Un (my outer) [] H H' s.heap s'.heap∧gW P w H' s'.heap∧RelV v u∧Q v H'
noncomputable def CR (CX:yJ) (outer:List Env) (P:Program) (w:World) (H:Hp) (s:Shared) (Q:VK) (E:XK) (r:Result) (s':Shared):Prop :=
 match r with
 | .ok (.ret u)=>CE outer P w H s Q u s'
 | .ok _=>False
 | .error e=>CX outer H s E e s'
structure fj (P:Program) (w:World) (K:Frag) (mg:Str→Option Value) (base:Heap) (CX:yJ) (k:Nat) (f:Addr) (fd:FuncData) (ps:List Str) (sp:Sp):Prop where
 len:∀vs H Q E,sp vs H Q E→vs.length=ps.length
 run:∀(A:Around) (outer:List Env) (s:Shared) (H:Hp) (args:Args) (us:List Value) (vs:List V) (Q:VK) (E:XK),bK k A→qz P w K mg base A outer s H→BindsTo s fd args (ps.zip us)→Vals vs us→sp vs H Q E →
  codeAny (model P w) A (.call (.ref f) args) (CR CX outer P w H s Q E) s
theorem qz.make {P:Program}{w:World}{K:Frag}{mg:Str→Option Value}{base:Heap}{A:Around}{outer:List Env}{s:Shared}{H:Hp}(e:qz P w K mg base A outer s H) (C:Addr) (us:List Value) (kw:List (Str×Value)) :
  qz P w K mg base (A.under (.builtin "type.__call__" ⟨.ref C::us,kw⟩)) outer s H:=⟨by first|exact e.frames|(simpa[Around.under,Code.envs,Code.isFrame,pushEnvs] using e.frames),e.mod,e.bs,e.uT,e.iZ,e.Bq,e.aR,e.bare⟩
theorem qz.in1 {P:Program}{w:World}{K:Frag}{mg:Str→Option Value}{base:Heap}{A:Around}{outer:List Env}{s:Shared}{H:Hp}(e:qz P w K mg base A outer s H) :
  qz P w K mg base A.in1 outer s H:=⟨e.frames,e.mod,e.bs,e.uT,e.iZ,e.Bq,e.aR,e.bare⟩
section
variable {X:Cx}{pins:List (Addr×Obj)}{σ:St}{H:Hp}{s s':Shared}
theorem Inv.Ak (I:Inv X pins σ H s):qz X.prog X.w X.K X.mg X.base X.A X.stack s H :=
 ⟨I.ok.frames,I.ok.mod,I.bs,Nat.le_trans I.ok.uT I.sz,I.stack,I.nP,I.aR,I.bare⟩
theorem Inv.after {Q:VK}{u:Value}(I:Inv X pins σ H s) (h:CE X.stack X.prog X.w H s Q u s'):EP X pins σ Q u s':=by
 obtain⟨v,H',os,bare,un,aR,r,q⟩:=h
 obtain⟨hh,g,d,t,os'⟩:=s'
 obtain rfl:os'=s.os:=os
 exact⟨v,H',I.call (h':=hh) (g':=g) (d':=d) (t':=t) (ch:=[]) un aR bare (fun b z=>absurd z (by simp)),r,q⟩
end
noncomputable def Ib (sp:Sp) (mx:List V) (E:XK) (t:TA):TE:=fun σ H Q=>t σ H fun vs H1=>sp (vs++mx) H1 Q E
noncomputable def yK (C:Addr) (m:Str) (sp:Sp) (mx:List V) (E:XK) (ta:TE) (t:TA):TE:=fun σ H Q=>ta σ H fun x H1=>∃a dx fs,x = .ref a∧H1 a=some (.ins C dx fs)∧fs.lookup m=none ∧
 t σ H1 fun vs H2=>sp (x::(vs++mx)) H2 Q E
noncomputable def Ic (C:Addr) (sp:Sp) (mx:List V) (E:XK) (t:TA):TE:=fun σ H Q=>t σ H fun vs H1=>∀x dx,H1 x=none→H1 dx=none→dx≠x →
 sp (.ref x::(vs++mx)) (upd (upd H1 dx (.own x)) x (.ins C dx [])) (fun v H2=>v = .cK∧Q (.ref x) H2) E
noncomputable def Binds (K:Frag) (fd:FuncData) (ps:List Str) (ds:List Value):Prop :=
 ∀(s:Shared) (us:List Value),K.In s.heap→(us++ds).length=ps.length→BindsTo s fd ⟨us,[]⟩ (ps.zip (us++ds))
theorem Binds.all {K:Frag}{fd:FuncData}{ps:List Str}(h:∀us:List Value,us.length=ps.length→bindArgs fd ⟨us,[]⟩=pure (ps.zip us)):Binds K fd ps []:=fun s us _ hl=>by
 rw[List.append_nil] at hl ⊢
 exact .of_eq (h us hl)
noncomputable def Passes (CX:yJ) (X:Cx) (E:XK):Prop:=∀(pins:List (Addr×Obj)) (σ:St) (H:Hp) (s:Shared) (e:Value) (s':Shared),Inv X pins σ H s→CX X.stack H s E e s'→X.xe e s'
section
variable {X:Cx}{CX:yJ}{k:Nat}{f C:Addr}{fd:FuncData}{ps:List Str}{sp:Sp}{mx:List V}{ds:List Value}{E:XK}{x m:Str}{p pos apos:Pos}{e o:Expr}{es:List Expr}{ta:TE}{t:TA}
theorem xh {pins:List (Addr×Obj)}{σ:St}{H:Hp}{s:Shared}{Q:VK}{us:List Value}{vs:List V}(F:fj X.prog X.w X.K X.mg X.base CX k f fd ps sp) (hr:bK k X.A) (hb:Binds X.K fd ps ds) (hd:Vals mx ds) (hx:Passes CX X E)
  (I:Inv X pins σ H s) (r:Vals vs us) (h:sp (vs++mx) H Q E):wpAny (model X.prog X.w) X.A (call (.ref f) us) (EP X pins σ Q) X.xe s:=by
 have r2:Vals (vs++mx) (us++ds):=r.append hd
 have hl:(us++ds).length=ps.length:=by rw[←r2.length];exact F.len _ _ _ _ h
 refine wpAny_call (codeAny_mono (F.run X.A X.stack s H ⟨us,[]⟩ (us++ds) (vs++mx) Q E hr I.Ak (hb s us I.iR hl) r2 h) fun r s' hq=>?_)
 cases r with
 | error e=>exact hx pins σ H s e s' I hq
 | ok fl =>
  cases fl with
  | ret u=>exact I.after hq
  | next=>exact False.elim hq
  | brk=>exact False.elim hq
  | cont=>exact False.elim hq
theorem Fx (F:fj X.prog X.w X.K X.mg X.base CX k f fd ps sp) (hr:bK k X.A) (hg:Gl X x) (hm:X.mg x=some (.ref f)) (hk:keepIn X.K (.ref f)=true) (hb:Binds X.K fd ps ds) (hd:Vals mx ds) (hx:Passes CX X E)
  (ha:PA X (e::es) t) (og:(x == ("__debug__":Str))=false:=by decide) (he:starEach (e::es) X.env=(false,eval e X.env)::starEach es X.env:=by rfl) (lG:(backTo pos (starEach es X.env)).any (·.1)=false:=by rfl) :
  PE X (.Call (.Name x p) (e::es) [] pos) (Ib sp mx E t):=by
 intro pins s σ H Q I h
 refine wpAny_Call_Name_kw (gw I hg hm ?_ og)
 refine PySem.W.callWith_K (h₀:=X.base) I.ok.mod.BD hk (bG (ha pos pins s σ H _ I h) fun us s1 ⟨vs,H1,I1,r,q⟩=>⟨I1.iR,?_⟩) he lG
 exact xh F hr hb hd hx I1 r q
theorem Fy {pl:Sem Bool}(he:PE X o ta) (c:uJ X.K C) (hm:Meth X.K C m f) (F:fj X.prog X.w X.K X.mg X.base CX k f fd ps sp) (hr:bK k X.A) (hb:Binds X.K fd ps ds) (hd:Vals mx ds) (hx:Passes CX X E) (ha:PA X (e::es) t)
  (BJ:starEach (e::es) X.env=(false,eval e X.env)::starEach es X.env:=by rfl) (lG:(backTo pos (starEach es X.env)).any (·.1)=false:=by rfl)
  (ht:eval (.Call (.Attribute o m apos) (e::es) [] pos) X.env=(do
   let ov ←eval o X.env
   standAt apos.atName
   let (f,first) ←holding [ov] (getMethod ov m pl)
   callWith pos f first (backTo pos (starEach (e::es) X.env)) (backToKw pos (keywordEach [] X.env))):=by rfl) :
  PE X (.Call (.Attribute o m apos) (e::es) [] pos) (yK C m sp mx E ta t):=by
 intro pins s σ H Q I h
 refine PySem.W.methodCall_KW (pl:=pl) (bG (he pins s σ H _ I h) fun u s1 ⟨x,H1,I1,rx,a,dx,fs,ex,ea,l,q⟩=>?_) ht
 subst ex
 obtain rfl:u=Value.ref a:=rx
 refine ix I1 ea c hm l ?_
 refine PySem.W.callWith_K (first:=[.ref a]) (h₀:=X.base) I.ok.mod.BD hm.kp (bG (ha pos pins s1 σ H1 _ I1 q) fun us s2 ⟨vs,H2,I2,r,q2⟩=>⟨I2.iR,?_⟩) BJ lG
 exact xh (us:=.ref a::us) (vs:=.ref a::vs) F hr hb hd hx I2 (.cons rfl r) q2
theorem BV {pl:Sem Bool}(he:PE X o ta) (c:uJ X.K C) (hm:Meth X.K C m f) (F:fj X.prog X.w X.K X.mg X.base CX k f fd ps sp) (hr:bK k X.A) (hb:Binds X.K fd ps ds) (hd:Vals mx ds) (hx:Passes CX X E)
  (ht:eval (.Call (.Attribute o m apos) [] [] pos) X.env=(do
   let ov ←eval o X.env
   standAt apos.atName
   let (f,first) ←holding [ov] (getMethod ov m pl)
   callWith pos f first (backTo pos (starEach [] X.env)) (backToKw pos (keywordEach [] X.env))):=by rfl) :
  PE X (.Call (.Attribute o m apos) [] [] pos) (yK C m sp mx E ta Fw):=by
 intro pins s σ H Q I h
 refine PySem.W.methodCall_KW (pl:=pl) (bG (he pins s σ H _ I h) fun u s1 ⟨x,H1,I1,rx,a,dx,fs,ex,ea,l,q⟩=>?_) ht
 subst ex
 obtain rfl:u=Value.ref a:=rx
 refine ix I1 ea c hm l ?_
 exact PySem.W.callWith_K0 (first:=[.ref a]) I1.iR hm.kp (xh (us:=[.ref a]) (vs:=[.ref a]) F hr hb hd hx I1 (.cons rfl .nil) q)
structure Mk (K:Frag) (C f:Addr):Prop where
 makes:PySem.W.makesIn K C=true
 init:PySem.W.findIn K (.ref C) "__init__"=some (some (.ref f))
 fn:PySem.W.isFn K (.ref f)=true
 kp:keepIn K (.ref C)=true
theorem BW {pins:List (Addr×Obj)}{σ:St}{H:Hp}{s:Shared}{Q:VK}{us:List Value}{vs:List V}(M:Mk X.K C f) (F:fj X.prog X.w X.K X.mg X.base CX k f fd ps sp) (hr:bK (k+1) X.A) (hb:Binds X.K fd ps ds) (hd:Vals mx ds)
  (hx:Passes CX X E) (I:Inv X pins σ H s) (r:Vals vs us)
  (h:∀x dx,H x=none→H dx=none→dx≠x→sp (.ref x::(vs++mx)) (upd (upd H dx (.own x)) x (.ins C dx [])) (fun v H2=>v = .cK∧Q (.ref x) H2) E) :
  wpAny (model X.prog X.w) X.A (call (.ref C) us) (EP X pins σ Q) X.xe s:=by
 have hq:=h (s.heap.objs.size+1) s.heap.objs.size (I.aR.fresh (Nat.le_succ _)) (I.aR.fresh (Nat.le_refl _)) (Nat.ne_of_lt (Nat.lt_succ_self _))
 have I2:=Inv.made (C:=C) I
 have r2:Vals (V.ref (s.heap.objs.size+1)::(vs++mx)) (Value.ref (s.heap.objs.size+1)::(us++ds)):=.cons rfl (r.append hd)
 have hl:(Value.ref (s.heap.objs.size+1)::us++ds).length=ps.length:=by
  have e:=r2.length
  rw[F.len _ _ _ _ hq] at e
  exact e.symm
 refine wpAny_call (BU (f:=f) I.iR M.makes M.init (beq_iff_eq.mp M.fn) (codeAny_mono (F.run _ X.stack _ _ ⟨Value.ref (s.heap.objs.size+1)::us,[]⟩ (Value.ref (s.heap.objs.size+1)::(us++ds)) _ _ E (hr.make C us [])
  (I2.Ak.make C us []) (hb _ (Value.ref (s.heap.objs.size+1)::us) I2.iR hl) r2 hq) fun r s' wJ=>?_))
 cases r with
 | error e=>exact hx pins σ _ _ e s' I2 wJ
 | ok fl =>
  cases fl with
  | ret u =>
   obtain⟨v,H',I3,rv,ev,q3⟩:=I2.after wJ
   subst ev
   exact⟨rv,⟨V.ref (s.heap.objs.size+1),H',I3,rfl,q3⟩⟩
  | next=>exact False.elim wJ
  | brk=>exact False.elim wJ
  | cont=>exact False.elim wJ
theorem Fz (M:Mk X.K C f) (F:fj X.prog X.w X.K X.mg X.base CX k f fd ps sp) (hr:bK (k+1) X.A) (hg:Gl X x) (hm:X.mg x=some (.ref C)) (hb:Binds X.K fd ps ds) (hd:Vals mx ds) (hx:Passes CX X E)
  (ha:PA X (e::es) t) (og:(x == ("__debug__":Str))=false:=by decide) (he:starEach (e::es) X.env=(false,eval e X.env)::starEach es X.env:=by rfl) (lG:(backTo pos (starEach es X.env)).any (·.1)=false:=by rfl) :
  PE X (.Call (.Name x p) (e::es) [] pos) (Ic C sp mx E t):=by
 intro pins s σ H Q I h
 refine wpAny_Call_Name_kw (gw I hg hm ?_ og)
 refine PySem.W.callWith_K (h₀:=X.base) I.ok.mod.BD M.kp (bG (ha pos pins s σ H _ I h) fun us s1 ⟨vs,H1,I1,r,q⟩=>⟨I1.iR,?_⟩) he lG
 exact BW M F hr hb hd hx I1 r q
end
noncomputable def PK (X:Cx) (kws:List Keyword) (t:TA):Prop :=
 ∀(pos:Pos) (pins:List (Addr×Obj)) (s:Shared) (σ:St) (H:Hp) (Q:List V→Hp→Prop),Inv X pins σ H s→t σ H Q→wpAny (model X.prog X.w) X.A (evalAll ((backToKw pos (keywordEach kws X.env)).map (·.2))) (AP X pins σ Q) X.xe s
section
variable {X:Cx}{CX:yJ}{k:Nat}{f C:Addr}{fd:FuncData}{ps ks:List Str}{sp:Sp}{E:XK}{x m:Str}{p pos apos FA:Pos}{e o:Expr}{es:List Expr}{kws:List Keyword}{te ta:TE}{t tk:TA}{nm:Option Str}
structure Rp (K:Frag) (fd:FuncData) (ps ks:List Str) (g:List Value→List Value→List Value) (gV:List V→List V→List V):Prop where
 to:∀(s:Shared) (us ws:List Value),K.In s.heap→(g us ws).length=ps.length→BindsTo s fd ⟨us,ks.zip ws⟩ (ps.zip (g us ws))
 rel:∀{vs:List V}{us:List Value}{zs:List V}{ws:List Value},Vals vs us→Vals zs ws→Vals (gV vs zs) (g us ws)
noncomputable def Rq (sp:Sp) (gV:List V→List V→List V) (E:XK) (t tk:TA):TE:=fun σ H Q=>t σ H fun vs H1=>tk σ H1 fun zs H2=>sp (gV vs zs) H2 Q E
variable {g:List Value→List Value→List Value}{gV:List V→List V→List V}
end
structure az (N P:List Str) (sc:Scope):Prop where
 kind:sc.kind = .function
 co:sc.isCoroutine=false
 gen:sc.isGenerator=false
 nd:N.Nodup
 pre:N.take P.length=P
 par:∀x∈P,sc.names.lookup x=some .local ∨ sc.names.lookup x=some .cell
 Jz:∀y∈sc.names,y.2≠.free
theorem q9 {kindOf:Str→Option NameKind}{x:Str}:∀{binds:List (Str×Value)}{m:Str→Option Value},(∀v,(x,v)∉binds)→bindL kindOf binds m x=m x
 | [],_,_=>rfl
 | (n,v)::r,m,h=>by
  unfold bindL
  rw[q9 fun w hw=>h w (mem_cons_of_mem _ hw)]
  split
  ·have:x≠n:=by rintro rfl;exact h v mem_cons_self
   simp[this]
  ·rfl
theorem rf {kindOf:Str→Option NameKind}{x:Str}:∀{binds:List (Str×Value)}{m:Str→Option Value},(∀v,(x,v)∉binds)→bindC kindOf binds m x=m x
 | [],_,_=>rfl
 | (n,v)::r,m,h=>by
  unfold bindC
  rw[rf fun w hw=>h w (mem_cons_of_mem _ hw)]
  split
  ·rfl
  ·have:x≠n:=by rintro rfl;exact h v mem_cons_self
   simp[this]
theorem rh {kindOf:Str→Option NameKind}{x:Str}{v:Value}:∀{P:List Str}{vs:List Value}{i:Nat}{m:Str→Option Value},P.Nodup→P[i]?=some x→vs[i]?=some v→kindOf x=some .local →
  bindL kindOf (P.zip vs) m x=some v
 | [],_,_,_,_,h,_,_=>by simp at h
 | _::_,[],_,_,_,_,h,_=>by simp at h
 | p::P,w::vs,0,m,nd,h1,h2,hk=>by
  simp at h1 h2;subst h1;subst h2
  show bindL kindOf ((p,w)::P.zip vs) m p=_
  unfold bindL
  rw[q9 fun v hv=>(List.nodup_cons.mp nd).1 (List.of_mem_zip hv).1,if_pos hk]
  simp
 | p::P,w::vs,i+1,m,nd,h1,h2,hk=>by
  show bindL kindOf ((p,w)::P.zip vs) m x=_
  unfold bindL
  exact rh (i:=i) (List.nodup_cons.mp nd).2 (by simpa using h1) (by simpa using h2) hk
theorem rj {kindOf:Str→Option NameKind}{x:Str}{v:Value}:∀{P:List Str}{vs:List Value}{i:Nat}{m:Str→Option Value},P.Nodup→P[i]?=some x→vs[i]?=some v→kindOf x≠some .local →
  bindC kindOf (P.zip vs) m x=some v
 | [],_,_,_,_,h,_,_=>by simp at h
 | _::_,[],_,_,_,_,h,_=>by simp at h
 | p::P,w::vs,0,m,nd,h1,h2,hk=>by
  simp at h1 h2;subst h1;subst h2
  show bindC kindOf ((p,w)::P.zip vs) m p=_
  unfold bindC
  rw[rf fun v hv=>(List.nodup_cons.mp nd).1 (List.of_mem_zip hv).1,if_neg hk]
  simp
 | p::P,w::vs,i+1,m,nd,h1,h2,hk=>by
  show bindC kindOf ((p,w)::P.zip vs) m x=_
  unfold bindC
  exact rj (i:=i) (List.nodup_cons.mp nd).2 (by simpa using h1) (by simpa using h2) hk
noncomputable def start (N:List Str) (vs:List V):St:=vs.map some++List.replicate (N.length-vs.length) none
noncomputable def kS (CX:yJ) (P:Program) (w:World) (K:Frag) (mg:Str→Option Value) (base:Heap) (N:List Str) (qual:Str) (scope:Scope) (f:Addr) (cd:Value) (A:Around) (outer:List Env) (s:Shared) (H:Hp) (E:XK):Cx where
 prog:=P
 w:=w
 K:=K
 mg:=mg
 base:=base
 A:=A.deeper (envOfC qual scope s.heap.objs.size f cd)
 N:=N
 s₀:=s
 H₀:=H
 env:=envOfC qual scope s.heap.objs.size f cd
 outer:=outer
 stack:=envOfC qual scope s.heap.objs.size f cd::outer
 ex:=[]
 calm:=true
 fn:=fun _=>true
 pn:=[]
 xe:=fun e s'=>wpAny (model P w) (A.deeper (envOfC qual scope s.heap.objs.size f cd)) (leaving (envOfC qual scope s.heap.objs.size f cd) e) (fun _ ML=>CX outer H s E e ML) (fun e' ML=>CX outer H s E e' ML) s'
theorem va {sc:Scope}{n:Nat}{x:Str}(h:sc.names.lookup x=some .cell):∃c,(cellsFrom n sc.names []).lookup x=some c:=by
 have q:=PySem.W.cellsFrom_some sc.names n [] (.inl h)
 exact Option.isSome_iff_exists.mp q
theorem Al {CX:yJ}{P:Program}{w:World}{K:Frag}{mg:Str→Option Value}{base:Heap}{N ps:List Str}{qual:Str}{scope:Scope}{f:Addr}{cd:Value}{A:Around}{outer:List Env}{s s1:Shared}{H:Hp}{E:XK}{us:List Value}{vs:List V}
  (S:az N ps scope) (hd:A.handled=none) (e0:qz P w K mg base A outer s H) (hl:vs.length=ps.length) (r:Vals vs us)
  (x:InCallC s s.heap.objs.size (bindL (envOfC qual scope s.heap.objs.size f cd).kindOf (ps.zip us) fun _=>none) (cellsFrom (s.heap.objs.size+1) scope.names []) (bindC (envOfC qual scope s.heap.objs.size f cd).kindOf (ps.zip us) fun _=>none) s1) :
  Inv (kS CX P w K mg base N qual scope f cd A outer s H E) [] (start N vs) H s1:=by
 have lG:ps.length≤N.length:=by have:=congrArg List.length S.pre;rw[length_take] at this;omega
 obtain⟨h1,tk,rfl,hk⟩:=x.done
 have MM:∀b:Addr,b∉(kS CX P w K mg base N qual scope f cd A outer s H E).ex:=fun b z=>absurd (show b∈([]:List Addr) from z) (by simp)
 refine⟨⟨e0.mod,S.kind,rfl,rfl,Nat.le_refl _,fun y z c h1 h2=>?_,fun y hy=>?_,fun y c _ h=>?_,fun _=>hd,Around.frames_deeper e0.frames,.inr ⟨rfl,rfl⟩,fun b z=>absurd z (MM b),e0.bs,e0.uT,fun b _ _=>MM b,fun b z=>absurd z (MM b),e0.iZ,e0.Bq⟩,
  rfl,e0.bare,Un.kept hk,⟨_,x.toInCall.ns,fun i y v h1 h2 h3=>?_⟩,fun y c h=>⟨_,x.cell y c h⟩,e0.aR.fresh (Nat.le_refl _),fun y c h=>?_,fun p hp=>absurd (show p∈([]:List (Addr×Obj)) from hp) (by simp),e0.aR.kept hk,?_⟩
 ·exact name_of_addr x.apart (PySem.mem_of_lookup h1) (PySem.mem_of_lookup h2)
 ·have hy:scope.names.lookup y=some .cell∨scope.names.lookup y=some .free:=hy
  rcases hy with hy|hy
  ·exact va hy
  ·exact absurd rfl (S.Jz _ (PySem.mem_of_lookup hy))
 ·exact Nat.le_of_lt (x.above y c (PySem.mem_of_lookup h))
 ·have hi:i<vs.length:=by
   unfold start at h2
   by_cases hi:i<vs.length
   ·exact hi
   ·rw[getElem?_append_right (by simpa using hi)] at h2
    rw[List.getElem?_replicate] at h2
    split at h2<;>cases h2
  have ha:vs[i]?=some v:=by
   unfold start at h2
   rw[getElem?_append_left (by simpa using hi),getElem?_map] at h2
   cases e:vs[i]? with
   | none=>rw[e] at h2;cases h2
   | some a=>rw[e] at h2;cases h2;rfl
  obtain⟨u,hu,rv⟩:=r.get ha
  have hp:ps[i]?=some y:=by
   rw[←S.pre,List.getElem?_take_of_lt (by omega)];exact h1
  have ndP:ps.Nodup:=by rw[←S.pre];exact S.nd.sublist (List.take_sublist _ _)
  refine⟨u,rv,?_⟩
  rcases S.par y (mem_of_getElem? hp) with k|k
  ·exact .inl ⟨k,rh ndP hp hu k⟩
  ·obtain⟨c,e⟩:=va (n:=s.heap.objs.size+1) k
   refine .inr ⟨.inl k,c,e,?_⟩
   have q:=x.cell y c e
   rw[rj ndP hp hu (by show scope.names.lookup y≠_;rw[k];decide)] at q
   exact q
 ·exact e0.aR.fresh (Nat.le_of_lt (x.above y c (PySem.mem_of_lookup h)))
 ·unfold start
  show _=N.length
  rw[length_append,length_map,length_replicate]
  omega
theorem Ie {CX:yJ}{P:Program}{w:World}{K:Frag}{mg:Str→Option Value}{base:Heap}{k:Nat}{f:Addr}{name qual:Str}{params:Arguments}{body:List Stmt}{scope:Scope}{dV kV doc pm bf ct oc:Value}{an od:Option Addr}
  {oh:Array (Option Value)}{N ps:List Str}{sp:Sp}(lk:K.lookup f=some ⟨oc,od,.func (fnOf name qual params body scope dV kV doc pm an bf ct),oh⟩) (wQ:codeIn K bf qual=true) (S:az N ps scope)
  (len:∀vs H Q E,sp vs H Q E→vs.length=ps.length)
  (fV:∀(A:Around) (outer:List Env) (s:Shared) (H:Hp) (vs:List V) (Q:VK) (E:XK),bK k (A.deeper (envOfC qual scope s.heap.objs.size f bf))→sp vs H Q E →
   ∃t,nQ (kS CX P w K mg base N qual scope f bf A outer s H E) body t∧t { nx:=fun _ H'=>Q .cK H',rt:=Q } (start N vs) H) :
  fj P w K mg base CX (k+1) f (fnOf name qual params body scope dV kV doc pm an bf ct) ps sp:=by
 refine⟨len,fun A outer s H args us vs Q E hr e0 hb r ET=>?_⟩
 have hl:=len _ _ _ _ ET
 have KX:K.In s.heap:=e0.mod.BD.keeps fun b o e=>(e0.bs b o e).1
 have lim:s.heap.NoLimit:=e0.mod.nolimit.keeps fun b o e=>(e0.bs b o e).1
 have MN:∀y∈ps.zip us,scope.names.lookup y.1=some .local ∨ (scope.names.lookup y.1=some .cell∧((cellsFrom (s.heap.objs.size+1) scope.names []).lookup y.1).isSome=true):=fun⟨n,v⟩ hy=>by
  rcases S.par n (List.of_mem_zip hy).1 with q|q
  ·exact .inl q
  ·exact .inr ⟨q,PySem.W.cellsFrom_some _ _ _ (.inl q)⟩
 refine codeAny_call_function hr.depth (KX _ _ lk) rfl S.co S.gen rfl (PySem.W.codeRec_of KX wQ) (hb _ _ _ _ ?_)
 refine wpAny_newFunctionEnv_cells S.kind MN fun env he s1 x=>?_
 subst he
 refine⟨lim.keeps x.toInCall.keep,codeAny_func ?_⟩
 obtain⟨t,ht,hq⟩:=fV A outer s H vs Q E (hr.deeper _) ET
 have I:Inv (kS CX P w K mg base N qual scope f bf A outer s H E) [] (start N vs) H s1:=Al S hr.hd e0 hl r x
 refine wpAny_mono (ht [] s1 (start N vs) H _ I hq) (fun fl s' hs=>?_) fun e s' hs=>hs
 have fin:∀{σ':St}{H':Hp}{v:V}{u:Value},Inv (kS CX P w K mg base N qual scope f bf A outer s H E) [] σ' H' s'→RelV v u→Q v H'→CE outer P w H s Q u s' :=
  fun {σ' H' v u} J rv q=>⟨v,H',J.os,J.bare,J.base,J.aR,rv,q⟩
 cases fl with
 | ret u =>
  obtain⟨v,σ',H',J,rv,q⟩:=hs
  exact fin J rv q
 | next =>
  obtain⟨σ',H',J,q⟩:=hs
  exact fin (v:=V.cK) (u:=Value.none) J rfl q
 | brk =>
  obtain⟨_,_,_,q⟩:=hs
  exact False.elim q
 | cont =>
  obtain⟨_,_,_,q⟩:=hs
  exact False.elim q
section
variable {X:Cx}{x:Str}{p pos:Pos}{e:Expr}{es:List Expr}{t:TA}{id T:String}{r:List V→Hp→VK→Prop}
noncomputable def tCB (r:List V→Hp→VK→Prop) (t:TA):TE:=fun σ H Q=>t σ H fun vs H1=>r vs H1 Q
theorem aK (hc:fF X (.builtin id) r) (hg:Gl X x) (hm:X.mg x=none) (hv:bootBuiltins x=some (.builtin id)) (ha:PA X (e::es) t) (hn:x≠"__name__":=by decide) (og:(x == ("__debug__":Str))=false:=by decide)
  (he:starEach (e::es) X.env=(false,eval e X.env)::starEach es X.env:=by rfl) (lG:(backTo pos (starEach es X.env)).any (·.1)=false:=by rfl):PE X (.Call (.Name x p) (e::es) [] pos) (tCB r t):=by
 intro pins s σ H Q I h
 refine wpAny_Call_Name_kw (i3 I hg hm hv ?_ hn og)
 exact PyProof.Rows.callWith_builtin1 (bG (ha pos pins s σ H _ I h) fun us s1 ⟨vs,H1,I1,r1,q1⟩=>hc pins s1 σ H1 vs us Q I1 r1 q1) he lG
theorem j6 (hc:fF X (.type T) r) (hg:Gl X x) (hm:X.mg x=none) (hv:bootBuiltins x=some (.type T)) (ha:PA X (e::es) t) (hn:x≠"__name__":=by decide) (og:(x == ("__debug__":Str))=false:=by decide)
  (he:starEach (e::es) X.env=(false,eval e X.env)::starEach es X.env:=by rfl) (lG:(backTo pos (starEach es X.env)).any (·.1)=false:=by rfl):PE X (.Call (.Name x p) (e::es) [] pos) (tCB r t):=by
 intro pins s σ H Q I h
 refine wpAny_Call_Name_kw (i3 I hg hm hv ?_ hn og)
 exact PyProof.Rows.callWith_type1 (bG (ha pos pins s σ H _ I h) fun us s1 ⟨vs,H1,I1,r1,q1⟩=>hc pins s1 σ H1 vs us Q I1 r1 q1) he lG
end
end L2
namespace HT
open PySem PyProof.Rows
noncomputable def lexLt:List Int→List Int→Bool
 | [],[]=>false
 | [],_::_=>true
 | _::_,[]=>false
 | x::xs,y::ys=>if x=y then lexLt xs ys else decide (x<y)
section
open PySem.SeqAt
open PySem.AutoSeq1 (wpAny_loadPart')
open PySem.MeetsSeq PySem.MeetsSeq2 PySem.MeetsSeq3
end
section
variable {prog:Program}{w:World}{A:Around}{E:Value→Shared→Prop}{s:Shared}
noncomputable def qA (n d:Nat):Option Int→Nat
 | none=>d
 | some v=>if v<0 then (v+(n:Int)).toNat else min v.toNat n
theorem FC (n d k:Nat):qA n d (some (k:Int))=min k n:=by
 show (if (k:Int)<0 then ((k:Int)+(n:Int)).toNat else min (k:Int).toNat n)=min k n
 rw[if_neg (by omega),Int.toNat_natCast]
end
end HT
namespace L2
open PySem PySem.Spec PyProof.Rows
noncomputable abbrev TO:=St→Hp→(Option Int→Hp→Prop)→Prop
noncomputable def PO (X:Cx) (e:Option Expr) (t:TO):Prop :=
 ∀(pins:List (Addr×Obj)) (s:Shared) (σ:St) (H:Hp) (Q:Option Int→Hp→Prop),Inv X pins σ H s→t σ H Q →
  wpAny (model X.prog X.w) X.A (evalPart e X.env) (fun u s'=>∃o H',Inv X pins σ H' s'∧IsPart u o∧Q o H') X.xe s
noncomputable def FD:TO:=fun _ H Q=>Q none H
noncomputable def MO (t:TE):TO:=fun σ H Q=>t σ H fun x H1=>∃i,x = .int i∧Q (some i) H1
section
variable {X:Cx}{e:Expr}{te:TE}{lo hi:Option Expr}{tl th:TO}{pos p2:Pos}
theorem j7:PO X none FD:=by
 intro pins s σ H Q I h
 rw[evalPart_none]
 exact wpAny_pure ⟨none,H,I,.none,h⟩
theorem j8 (h:PE X e te):PO X (some e) (MO te):=by
 intro pins s σ H Q I hw
 rw[evalPart_some]
 refine bG (h pins s σ H _ I hw) fun u s1 ⟨x,H1,I1,r1,q1⟩=>?_
 obtain⟨i,rfl,q⟩:=q1
 obtain⟨t,rfl⟩:=r1
 exact⟨some i,H1,I1,.int i t,q⟩
noncomputable def Rr (X:Cx) (r:V→Option Int→Option Int→Hp→VK→Prop):Prop :=
 ∀(pins:List (Addr×Obj)) (s:Shared) (σ:St) (H:Hp) (x:V) (v vl vu:Value) (lo hi:Option Int) (sl:Addr) (Q:VK),Inv X pins σ H s→RelV x v→s.heap.IsSliceOf sl vl vu .none→IsPart vl lo→IsPart vu hi→r x lo hi H Q →
  ∃T id,typeLookup (.type T) "__getitem__"=pure (some (.builtin id))∧s.TypeIs v T∧wpAny (model X.prog X.w) X.A (getItem v (.ref sl)) (EP X pins σ Q) X.xe s
noncomputable def tSl (r:V→Option Int→Option Int→Hp→VK→Prop) (te:TE) (tl th:TO):TE:=fun σ H Q=>te σ H fun x H1=>tl σ H1 fun l H2=>th σ H2 fun u H3=>r x l u H3 Q
theorem g9 {r:V→Option Int→Option Int→Hp→VK→Prop}(hr:Rr X r) (he:PE X e te) (hl:PO X lo tl) (hu:PO X hi th):PE X (.Subscript e (.Slice lo hi none p2) pos) (tSl r te tl th):=by
 intro pins s σ H Q I h
 refine Subscript_ (bG (he pins s σ H _ I h) fun v s1 ⟨x,H1,I1,r1,q1⟩=>?_)
 refine wpAny_Slice (bG (hl pins s1 σ H1 _ I1 q1) fun vl s2 ⟨l,H2,I2,pl,q2⟩=>bG (hu pins s2 σ H2 _ I2 q2) fun vu s3 ⟨u,H3,I3,pu,q3⟩=>?_)
 rw[evalPart_none]
 refine wpAny_pure ?_
 have I4:Inv X pins σ H3 { s3 with heap:=s3.heap.push { cls:=.type "slice",data:=.fields #[vl,vu,.none] } }:=I3.kept (t':=s3.toks) fun b ob q=>Heap.get?_push_of_some _ q
 obtain⟨T,id,hT,ht,hg⟩:=hr pins { s3 with heap:=s3.heap.push { cls:=.type "slice",data:=.fields #[vl,vu,.none] } } σ H3 x v vl vu l u s3.heap.objs.size Q I4 r1 (Heap.IsSliceOf.new ..) pl pu q3
 show wpAny (model X.prog X.w) X.A (subscriptTail e (.Slice lo hi none p2) v (.ref s3.heap.objs.size)) (EP X pins σ Q) X.xe { s3 with heap:=s3.heap.push { cls:=.type "slice",data:=.fields #[vl,vu,.none] } }
 exact tail_any (ops:=[.ref s3.heap.objs.size,v]) ht hT hg (by with_unfolding_all rfl)
noncomputable def hV (xs:List V) (lo hi:Option Int):List V:=(xs.drop (HT.qA xs.length 0 lo)).take (HT.qA xs.length xs.length hi-HT.qA xs.length 0 lo)
theorem vb (xs:List V) (lo hi:Option Int):(hV xs lo hi).length≤xs.length:=by
 unfold hV
 rw[length_take,List.length_drop]
 omega
noncomputable def rSlT (K:Frag):V→Option Int→Option Int→Hp→VK→Prop:=fun x lo hi H Q=>∃a xs,x = .ref a∧fh K H a xs ∧
 ¬(HT.qA xs.length 0 lo=0∧HT.qA xs.length xs.length hi=xs.length)∧∀p,H p=none→Q (.ref p) (upd H p (.tup (hV xs lo hi)))
noncomputable def rLtT (K:Frag):R2:=fun x y H Q=>∃a b ns ms,x = .ref a∧y = .ref b∧fh K H a (ns.map V.int)∧fh K H b (ms.map V.int)∧Q (.bl (HT.lexLt ns ms)) H
noncomputable def rCatT (K:Frag):R2:=fun x y H Q=>∃a b xs ys,x = .ref a∧y = .ref b∧fh K H a xs∧fh K H b ys∧xs≠[]∧xs.length+ys.length≤sizeLine ∧
 (ys=[]→Q (.ref a) H)∧(ys≠[]→∀p,H p=none→Q (.ref p) (upd H p (.tup (xs++ys))))
end
noncomputable def FE (n:Nat) (i:Int):Option Nat:=if 0≤i then (if i<n then some i.toNat else none) else if -(n:Int)≤i then some (i+n).toNat else none
noncomputable def Bs {α:Type}(xs:List α) (i:Int):Option α:=(FE xs.length i).bind fun j=>xs[j]?
theorem yL {n:Nat}{i:Int}{j:Nat}(h:FE n i=some j):seqIndex? i n=some j∧j<n∧-(n:Int)≤i∧i<n:=by
 unfold FE at h
 by_cases h0:0≤i
 ·rw[if_pos h0] at h
  by_cases h1:i<n
  ·rw[if_pos h1] at h
   have e:i.toNat=j:=Option.some.inj h
   exact⟨by rw[seqIndex_of h0 h1,e],by omega,by omega,h1⟩
  ·rw[if_neg h1] at h;cases h
 ·rw[if_neg h0] at h
  by_cases h1:-(n:Int)≤i
  ·rw[if_pos h1] at h
   have e:(i+n).toNat=j:=Option.some.inj h
   exact⟨by rw[seqIndex_neg (by omega) h1,e],by omega,h1,by omega⟩
  ·rw[if_neg h1] at h;cases h
theorem yM {α:Type}{xs:List α}{i:Int}{v:α}(h:Bs xs i=some v):∃j,seqIndex? i xs.length=some j∧xs[j]?=some v∧j<xs.length∧-(xs.length:Int)≤i∧i<xs.length:=by
 unfold Bs at h
 cases e:FE xs.length i with
 | none=>rw[e] at h;cases h
 | some j =>
  rw[e] at h
  obtain⟨h1,h2,h3,h4⟩:=yL e
  exact⟨j,h1,h,h2,h3,h4⟩
theorem sD {α:Type}{xs:List α}{j:Nat}{v:α}(h:xs[j]?=some v):Bs xs (j:Int)=some v:=by
 have hj:j<xs.length:=(List.getElem?_eq_some_iff.mp h).1
 have e:FE xs.length (j:Int)=some j:=by
  unfold FE
  rw[if_pos (by omega),if_pos (by omega)];simp
 unfold Bs;rw[e];exact h
noncomputable def FF (b:Expr):Prop:=∀o i,subscripted b false o i=operate [o,i] (getItem o i)
noncomputable def JA (X:Cx) (r:R2):Prop :=
 ∀(value slice:Expr) (pins:List (Addr×Obj)) (s:Shared) (σ:St) (H:Hp) (x y:V) (v u:Value) (Q:VK),Inv X pins σ H s→RelV x v→RelV y u→r x y H Q →
  subscripted slice false v u=operate [v,u] (getItem v u)→wpAny (model X.prog X.w) X.A (subscriptTail value slice v u) (EP X pins σ Q) X.xe s
noncomputable def Rt (X:Cx) (id:String) (r:V→List V→Hp→VK→Prop):Prop :=
 ∀(pins:List (Addr×Obj)) (s:Shared) (σ:St) (H:Hp) (x:V) (xs:List V) (v:Value) (us:List Value) (Q:VK),Inv X pins σ H s→RelV x v→Vals xs us→r x xs H Q →
  wpAny (model X.prog X.w) X.A (call (.builtin id) (v::us)) (EP X pins σ Q) X.xe s
section
variable {X:Cx}{a b:Expr}{ta tb:TE}{pos:Pos}
theorem ay {r:R2}(hr:JA X r) (ha:PE X a ta) (hb:PE X b tb) (hs:FF b):PE X (.Subscript a b pos) (PL r ta tb):=by
 intro pins s σ H Q I h
 exact Subscript_ (Jv ha hb I h fun v u s2 x y H2 I2 rx ry q=>hr a b pins s2 σ H2 x y v u Q I2 rx ry q (hs _ _))
noncomputable def JB (K:Frag):R2:=fun x y H Q=>∃p xs i v,x = .ref p∧y = .int i∧cC K H p xs∧Bs xs i=some v∧Q v H
noncomputable def JC (K:Frag):R2:=fun x y H Q=>∃p xs i v,x = .ref p∧y = .int i∧fh K H p xs∧Bs xs i=some v∧Q v H
noncomputable def Ru:R2:=fun x y H Q=>∃z i c,x = .str z∧y = .int i∧z.length≤sizeLine∧Bs z.cps.toList i=some c∧Q (.str ⟨#[c]⟩) H
theorem FG:JA X (JB X.K):=by
 intro value slice pins s σ H x y v u Q I rx ry h hs
 obtain⟨p,xs,i,z,rfl,rfl,hq,he,q⟩:=h
 cases rx
 obtain⟨t,rfl⟩:=ry
 obtain⟨its,r,pl,hz⟩:=I.list hq
 obtain⟨j,h1,h2,h3,h4,h5⟩:=yM he
 obtain⟨w,ew,yN⟩:=r.get h2
 have hl:=r.length
 have hn:=sA
 have fin:EP X pins σ Q w s:=⟨z,H,I,yN,q⟩
 by_cases h0:0≤i
 ·have hj:i.toNat=j:=by
   rw[seqIndex_of h0 h5] at h1
   exact Option.some.inj h1
  exact item_listR pl.isList h0 (by omega) (by rw[hj];simpa using ew) fin hs
 ·have hj:(i+(its.toArray.size:Int)).toNat=j:=by
   rw[seqIndex_neg (by omega) h4] at h1
   rw[List.size_toArray,←hl]
   exact Option.some.inj h1
  exact subscriptTail_builtinR (x:=w) pl.isList.typeIs slot_list_getitem.lookup
   (wpAny_getItem_list_neg (Q:=fun r s'=>r=w∧EP X pins σ Q r s') pl.isList (by omega) (by rw[List.size_toArray]<;>omega) (by omega) (by rw[hj];simpa using ew) ⟨rfl,fin⟩) hs
theorem JD:JA X (JC X.K):=by
 intro value slice pins s σ H x y v u Q I rx ry h hs
 obtain⟨p,xs,i,z,rfl,rfl,hq,he,q⟩:=h
 cases rx
 obtain⟨t,rfl⟩:=ry
 obtain⟨its,r,pl,hz⟩:=I.tuple hq
 obtain⟨j,h1,h2,h3,h4,h5⟩:=yM he
 obtain⟨w,ew,yN⟩:=r.get h2
 have hl:=r.length
 have hn:=sA
 have fin:EP X pins σ Q w s:=⟨z,H,I,yN,q⟩
 exact subscriptTail_builtinR (x:=w) pl.typeIs slot_tuple_getitem.lookup
  (getItem_tuple (j:=j) (Q:=fun r s'=>r=w∧EP X pins σ Q r s') pl (by omega) (by omega) (by rw[List.size_toArray,←hl];exact h1) (by simpa using ew) ⟨rfl,fin⟩) hs
noncomputable def rIx (K:Frag):R2:=fun x y H Q=>JB K x y H Q∨JC K x y H Q∨Ru x y H Q
theorem xj (its:List Value) (n j:Nat) (u:Value):Obj.mapSeq (·.setIfInBounds j u) { cls:=.type "list",data:=.seq its.toArray n }={ cls:=.type "list",data:=.seq (its.set j u).toArray n }:=by
 simp[Obj.mapSeq]
theorem Inv.lst {pins:List (Addr×Obj)}{σ:St}{H:Hp}{s:Shared}{p:Addr}{xs:List V}(I:Inv X pins σ H s) (h:H p=some (.lst xs)) :
  ∃(its:List Value) (n:Nat),Vals xs its∧s.heap.get? p=some { cls:=.type "list",data:=.seq its.toArray n }∧xs.length≤sizeLine:=by
 obtain⟨z,its,n,r,e⟩:=I.aR p _ h
 exact⟨its,n,r,e,z⟩
theorem Inv.JE {pins:List (Addr×Obj)}{σ:St}{H:Hp}{s:Shared}{p:Addr}{xs ys:List V}{its its':List Value}{n n':Nat}{f:Obj→Obj}(I:Inv X pins σ H s) (h:H p=some (.lst xs))
  (ho:s.heap.get? p=some { cls:=.type "list",data:=.seq its.toArray n }) (hf:f { cls:=.type "list",data:=.seq its.toArray n }={ cls:=.type "list",data:=.seq its'.toArray n' }) (r:Vals ys its') (hz:ys.length≤sizeLine) (t:Nat) :
  Inv X pins σ (upd H p (.lst ys)) { s with heap:=s.heap.update p f,toks:=t }:=by
 have e:(s.heap.update p f).get? p=some { cls:=.type "list",data:=.seq its'.toArray n' }:=by
  rw[Heap.get?_update_self f ho (by rw[hf]<;>rfl),hf]
 refine I.write (x:=p) (e:=p) (by rw[h];trivial) (.inl rfl) (fun b u hb q=>(Heap.get?_update_other _ _ (Ne.symm hb)).trans q) ⟨_,e⟩ ?_
 exact⟨hz,its',n',r,e⟩
noncomputable def MP:V→V→V→Hp→(Hp→Prop)→Prop:=fun o i v H Q=>∃p xs k j,o = .ref p∧i = .int k∧H p=some (.lst xs)∧FE xs.length k=some j∧Q (upd H p (.lst (xs.set j v)))
theorem set_list:Fo X MP:=by
 intro pins s σ H o i v ov iv u Q I ro ri rv h
 obtain⟨p,xs,k,j,rfl,rfl,hp,hj,q⟩:=h
 cases ro
 obtain⟨t,rfl⟩:=ri
 obtain⟨its,n,r,ho,hz⟩:=I.lst hp
 obtain⟨h1,h2,h3,h4⟩:=yL hj
 have hl:=r.length
 have hn:=sA
 have I':Inv X pins σ (upd H p (.lst (xs.set j v))) { s with heap:=s.heap.update p (Obj.mapSeq (·.setIfInBounds j u)) } :=
  I.JE hp ho (xj its n j u) (r.set rv j) (by rw[List.length_set];exact hz) s.toks
 by_cases h0:0≤k
 ·have hk:k.toNat=j:=by
   rw[seqIndex_of h0 h4] at h1
   exact Option.some.inj h1
  exact PySem.W.ki_setAt ho h0 (by omega) (by rw[List.size_toArray,←hl];exact h4) (by rw[hk];exact⟨_,I',q⟩)
 ·have hk:(k+(its.toArray.size:Int)).toNat=j:=by
   rw[seqIndex_neg (by omega) h3] at h1
   rw[List.size_toArray,←hl]
   exact Option.some.inj h1
  exact PySem.W.ki_setBack ho (by omega) (by rw[List.size_toArray,←hl];exact h3) (by omega) (by rw[hk];exact⟨_,I',q⟩)
theorem sE (lo hi:Option Int) (n:Nat):(sliceBounds lo hi none n).1=((HT.qA n 0 lo:Nat):Int)∧(sliceBounds lo hi none n).2.1=((HT.qA n n hi:Nat):Int)∧(sliceBounds lo hi none n).2.2=1:=by
 refine⟨?_,?_,rfl⟩
 ·cases lo with
  | none=>simp[sliceBounds,HT.qA]
  | some i =>
   simp only[sliceBounds,HT.qA,Option.getD_none,show (1:Int) > 0 by decide,if_true]
   by_cases h:i<0
   ·simp only[h,if_true]<;>omega
   ·simp only[h,if_false]<;>omega
 ·cases hi with
  | none=>simp[sliceBounds,HT.qA]
  | some i =>
   simp only[sliceBounds,HT.qA,Option.getD_none,show (1:Int) > 0 by decide,if_true]
   by_cases h:i<0
   ·simp only[h,if_true]<;>omega
   ·simp only[h,if_false]<;>omega
theorem qB (its:List Value) (lo hi:Option Int):slicePick its.toArray lo hi none=((its.drop (HT.qA its.length 0 lo)).take (HT.qA its.length its.length hi-HT.qA its.length 0 lo)).toArray:=by
 obtain⟨h1,h2,h3⟩:=sE lo hi its.toArray.size
 unfold slicePick
 rw[h1,h2,h3]
 simp only[sliceRange_one,pick_run,List.size_toArray]<;>rfl
noncomputable def MQ (K:Frag):V→Option Int→Option Int→Hp→VK→Prop:=fun x lo hi H Q=>∃a xs,x = .ref a∧cC K H a xs∧∀p,H p=none→Q (.ref p) (upd H p (.lst (hV xs lo hi)))
theorem FH:Rr X (MQ X.K):=by
 intro pins s σ H x v vl vu lo hi sl Q I rx hs pl pu h
 obtain⟨a,xs,rfl,hx,q⟩:=h
 cases rx
 obtain⟨its,r,ht,hz⟩:=I.list hx
 have hlen:=r.length
 refine⟨"list",_,slot_list_getitem.lookup,ht.isList.typeIs,?_⟩
 refine wpAny_getItem_list_slice ht.isList hs pl pu .none (by simp) ?_ (by rw[List.size_toArray]<;>omega)
 rw[qB,←hlen]
 refine⟨.ref s.heap.objs.size,_,I.laid (t':=s.toks) (o:=.lst (hV xs lo hi)) (fun b ob q=>Heap.get?_push_of_some _ q) (Nat.le_refl _) ?_,rfl,q _ (I.aR.fresh (Nat.le_refl _))⟩
 exact⟨Nat.le_trans (vb xs lo hi) hz,_,0,(r.drop (HT.qA xs.length 0 lo)).take (HT.qA xs.length xs.length hi-HT.qA xs.length 0 lo),Heap.get?_push_size _ rfl⟩
noncomputable def gy:V→Bool
 | .cK=>true
 | .bl _=>true
 | .int _=>true
 | .str _=>true
 | _=>false
noncomputable def Bt:V→V→Bool
 | .cK,.cK=>true
 | .bl a,.bl b=>a == b
 | .bl a,.int b=>(if a then 1 else 0) == b
 | .int a,.bl b=>a == (if b then 1 else 0)
 | .int a,.int b=>a == b
 | .str a,.str b=>a == b
 | _,_=>false
theorem BX {A:Around}{s:Shared}{y x:V}{u v:Value}(ry:RelV y u) (rx:RelV x v) (fy:gy y=true) (fx:gy x=true):SeqAt.EqAt A s u v (Bt y x):=by
 cases y with
 | cK =>
  cases ry
  cases x with
  | cK=>cases rx;exact SeqAt.EqAt.same _
  | bl b=>cases rx;exact SeqAt.EqAt.none_bool b
  | int b=>obtain⟨t,rfl⟩:=rx;exact SeqAt.EqAt.none_int b t
  | str b=>obtain⟨t,rfl⟩:=rx;exact SeqAt.EqAt.none_str b t
  | _=>exact absurd (show false=true from fx) Bool.false_ne_true
 | bl a =>
  cases ry
  cases x with
  | cK=>cases rx;exact SeqAt.EqAt.bool_none a
  | bl b=>cases rx;exact SeqAt.EqAt.bool_bool a b
  | int b=>obtain⟨t,rfl⟩:=rx;exact SeqAt.EqAt.bool_int a b t
  | str b=>obtain⟨t,rfl⟩:=rx;exact SeqAt.EqAt.bool_str a b t
  | _=>exact absurd (show false=true from fx) Bool.false_ne_true
 | int a =>
  obtain⟨t',rfl⟩:=ry
  cases x with
  | cK=>cases rx;exact SeqAt.EqAt.int_none a t'
  | bl b=>cases rx;exact SeqAt.EqAt.int_bool a t' b
  | int b=>obtain⟨t,rfl⟩:=rx;exact SeqAt.EqAt.int_int a t' b t
  | str b=>obtain⟨t,rfl⟩:=rx;exact SeqAt.EqAt.int_str a t' b t
  | _=>exact absurd (show false=true from fx) Bool.false_ne_true
 | str a =>
  obtain⟨t',rfl⟩:=ry
  cases x with
  | cK=>cases rx;exact SeqAt.EqAt.str_none a t'
  | bl b=>cases rx;exact SeqAt.EqAt.str_bool a t' b
  | int b=>obtain⟨t,rfl⟩:=rx;exact SeqAt.EqAt.str_int a t' b t
  | str b=>obtain⟨t,rfl⟩:=rx;exact SeqAt.EqAt.str_str a t' b t
  | _=>exact absurd (show false=true from fx) Bool.false_ne_true
 | _=>exact absurd (show false=true from fy) Bool.false_ne_true
noncomputable def FI (x:V) (u:Value):Bool:=match u with
 | .none=>Bt .cK x
 | .bool b=>Bt (.bl b) x
 | .int i _=>Bt (.int i) x
 | .str z _=>Bt (.str z) x
 | _=>false
theorem BY {x y:V}{u:Value}(r:RelV y u) (f:gy y=true):FI x u=Bt y x:=by
 cases y with
 | cK=>cases r;rfl
 | bl b=>cases r;rfl
 | int i=>obtain⟨t,rfl⟩:=r;rfl
 | str z=>obtain⟨t,rfl⟩:=r;rfl
 | _=>exact absurd (show false=true from f) Bool.false_ne_true
theorem sF {x:V}:∀{xs:List V}{us:List Value},Vals xs us→xs.all gy=true→us.any (FI x)=xs.any fun y=>Bt y x
 | _,_,.nil,_=>rfl
 | y::xs,u::us,.cons r t,f=>by
  rw[List.all_cons,Bool.and_eq_true] at f
  rw[List.any_cons,List.any_cons,BY r f.1,sF t f.2]
theorem oj {A:Around}{s:Shared}{x:V}{v:Value}(rx:RelV x v) (fx:gy x=true):∀{xs:List V}{us:List Value},Vals xs us→xs.all gy=true→∀u∈us,SeqAt.EqAt A s u v (FI x u)
 | _,_,.nil,_=>fun u hu=>by cases hu
 | y::xs,u::us,.cons r t,f=>fun u' hu=>by
  rw[List.all_cons,Bool.and_eq_true] at f
  rcases List.mem_cons.mp hu with rfl|hu
  ·rw[BY r f.1];exact BX r rx f.1 fx
  ·exact oj rx fx t f.2 u' hu
noncomputable def PR (x:V) (xs:List V):Bool:=xs.any fun y=>Bt y x
noncomputable def rIn (K:Frag) (neg:Bool):R2:=fun x y H Q=>∃p xs,y = .ref p∧(cC K H p xs∨fh K H p xs)∧gy x=true∧xs.all gy=true∧Q (.bl (if neg then !PR x xs else PR x xs)) H
theorem Am:kQ X (compareOp .In) (rIn X.K false):=by
 intro pins s σ H x y v u Q I rx ry h
 obtain⟨p,xs,rfl,hq,fx,fs,q⟩:=h
 cases ry
 rcases hq with hq|hq
 ·obtain⟨its,r,pl,hz⟩:=I.list hq
  refine SeqAt.in_listAt (FI x) pl.isList (fun w hw=>oj rx fx r fs w (by simpa using hw)) ⟨.bl _,H,I,rfl,?_⟩
  rw[show its.toArray.any (FI x)=its.any (FI x) by simp,sF r fs]
  exact q
 ·obtain⟨its,r,pl,hz⟩:=I.tuple hq
  refine SeqAt.in_tupleAt (FI x) pl (fun w hw=>oj rx fx r fs w (by simpa using hw)) ⟨.bl _,H,I,rfl,?_⟩
  rw[show its.toArray.any (FI x)=its.any (FI x) by simp,sF r fs]
  exact q
theorem sG:fF X (.builtin "len") (fun xs H Q=>∃p ys,xs=[.ref p]∧(cC X.K H p ys∨fh X.K H p ys)∧Q (.int ys.length) H):=by
 intro pins s σ H xs us Q I r h
 obtain⟨p,ys,rfl,hq,q⟩:=h
 obtain⟨u,rfl,rx⟩:=vals1 r
 cases rx
 have hn:=sA
 rcases hq with hq|hq
 ·obtain⟨its,r',pl,hz⟩:=I.list hq
  have hlen:=r'.length
  exact Calls.call_len_list pl.isList (by simp only[List.size_toArray]<;>omega) ⟨.int ys.length,H,I.tok _,⟨s.toks+1,by rw[List.size_toArray,hlen]⟩,q⟩
 ·obtain⟨its,r',pl,hz⟩:=I.tuple hq
  have hlen:=r'.length
  exact len_tuple pl (by simp only[List.size_toArray]<;>omega) ⟨.int ys.length,H,I.tok _,⟨s.toks+1,by rw[List.size_toArray,hlen]⟩,q⟩
theorem sH:fF X (.type "list") (fun xs H Q=>∃p ys,xs=[.ref p]∧(cC X.K H p ys∨fh X.K H p ys)∧∀l,H l=none→Q (.ref l) (upd H l (.lst ys))):=by
 intro pins s σ H xs us Q I r h
 obtain⟨p,ys,rfl,hq,q⟩:=h
 obtain⟨u,rfl,rx⟩:=vals1 r
 cases rx
 have fin:∀(its:List Value),Vals ys its→ys.length≤sizeLine→∀(h':Heap) (c':Nat),(∀b o',s.heap.get? b=some o'→h'.get? b=some o') →
   h'.get? s.heap.objs.size=some { cls:=.type "list",dict:=none,data:=.seq its.toArray c',slots:=#[] }→EP X pins σ Q (.ref s.heap.objs.size) { s with heap:=h' }:=fun its r' hz h' c' kp e =>
  ⟨.ref s.heap.objs.size,_,I.laid (t':=s.toks) kp (Nat.le_refl _) (show aX X.prog X.w _ h' _ (.lst ys) from ⟨hz,its,c',r',e⟩),rfl,q _ (I.aR.fresh (Nat.le_refl _))⟩
 rcases hq with hq|hq
 ·obtain⟨its,r',pl,hz⟩:=I.list hq
  have hlen:=r'.length
  obtain⟨o,ho,hc,n,hd⟩:=pl.isList
  exact call_list_seq p (.inl rfl) ho hc hd (fun h' c' kp e=>fin its r' hz h' c' kp e) (by simp only[List.size_toArray]<;>omega)
 ·obtain⟨its,r',pl,hz⟩:=I.tuple hq
  have hlen:=r'.length
  obtain⟨o,ho,hc,n,hd⟩:=pl
  exact call_list_seq p (.inr rfl) ho hc hd (fun h' c' kp e=>fin its r' hz h' c' kp e) (by simp only[List.size_toArray]<;>omega)
noncomputable def Rv (K:Frag) (T:String) (x:V) (H:Hp):Prop:=match x with
 | .str _=>T="str"
 | .int _=>T="int"
 | .ref p=>(T="list"∧∃xs,cC K H p xs)∨(T="tuple"∧∃o,K.lookup p=some o∧o.cls = .type "tuple"∧o.dict=none) ∨
   (T="dict"∧((∃ar,H p=some (.dK ar))∨∃ar,H p=some (.dT ar)))∨(T="set"∧∃S n,H p=some (.set S n))
 | _=>False
theorem BZ {pins:List (Addr×Obj)}{σ:St}{H:Hp}{s:Shared}{T:String}{x:V}{v:Value}(I:Inv X pins σ H s) (r:RelV x v) (ty:Rv X.K T x H) :
  s.TypeIs v T∧∀a,v = .ref a→∃ob,s.heap.get? a=some ob∧ob.dict=none:=by
 cases x with
 | str z =>
  obtain⟨t,rfl⟩:=r
  cases (show T="str" from ty)
  exact⟨typeIs_str s z t,fun _ e=>nomatch e⟩
 | int i =>
  obtain⟨t,rfl⟩:=r
  cases (show T="int" from ty)
  exact⟨typeIs_int s i t,fun _ e=>nomatch e⟩
 | ref p =>
  cases r
  rcases ty with⟨rfl,xs,hq⟩|⟨rfl,o,hk,hc,hd⟩|⟨rfl,hk⟩|⟨rfl,S,n,hk⟩
  ·obtain⟨its,_,pl,_⟩:=I.list hq
   refine⟨pl.isList.typeIs,fun a e=>?_⟩
   cases e
   obtain⟨o,n,e,c,hd,_⟩:=pl
   exact⟨o,e,hd⟩
  ·refine⟨⟨o,I.iR p o hk,hc⟩,fun a e=>?_⟩
   cases e
   exact⟨o,I.iR _ o hk,hd⟩
  ·have z:∃o,s.heap.get? p=some o∧o.ExactDict:=by
    rcases hk with⟨ar,hk⟩|⟨ar,hk⟩
    ·obtain⟨_,_,_,_,o,_,_,e,ex,_⟩:=I.aR p _ hk
     exact⟨o,e,ex⟩
    ·obtain⟨_,_,_,_,o,_,_,e,ex,_⟩:=I.aR p _ hk
     exact⟨o,e,ex⟩
   obtain⟨o,e,ex⟩:=z
   refine⟨⟨o,e,ex.1⟩,fun a e2=>?_⟩
   cases e2
   exact⟨o,e,ex.2.1⟩
  ·obtain⟨o,_,_,_,e,ex,_⟩:=I.aR p _ hk
   refine⟨⟨o,e,ex.1⟩,fun a e2=>?_⟩
   cases e2
   exact⟨o,e,ex.2.1⟩
 | _=>exact False.elim ty
noncomputable def Rx (K:Frag) (T:String) (r:V→List V→Hp→VK→Prop) (to:TE):TE:=fun σ H Q=>to σ H fun x H1=>Rv K T x H1∧r x [] H1 Q
noncomputable def tBM (K:Frag) (T:String) (r:V→List V→Hp→VK→Prop) (to:TE) (t:TA):TE:=fun σ H Q=>to σ H fun x H1=>Rv K T x H1∧t σ H1 fun xs H2=>r x xs H2 Q
variable {o e:Expr}{es:List Expr}{to:TE}{t:TA}{name:Str}{apos dc:Pos}{T id:String}{r:V→List V→Hp→VK→Prop}
theorem B0 (pa:PlainAttrs T) (slot:Slot T name id) (Ry:typeOf (.builtin id)=pure (.type "method_descriptor")) (hm:Rt X id r) (ho:PE X o to)
  (om:attributeBase o name X.env (eval o X.env)=eval o X.env:=by rfl) (B3:(apos.endLine == dc.line)=true:=by rfl):PE X (.Call (.Attribute o name apos) [] [] dc) (Rx X.K T r to):=by
 intro pins s σ H Q I h
 refine wpAny_Call_method0_late om B3 (bG (ho pins s σ H _ I h) fun v s1 ⟨x,H1,I1,r1,ty,q1⟩=>?_)
 obtain⟨h1,h2⟩:=BZ I1 r1 ty
 exact⟨T,id,pa,slot,Ry,h1,h2,Calls.callWith_builtin rfl (PySem.evalArgs_none (hm pins s1 σ H1 x [] v [] Q I1 r1 .nil q1))⟩
theorem B4 (pa:PlainAttrs T) (slot:Slot T name id) (Ry:typeOf (.builtin id)=pure (.type "method_descriptor")) (hm:Rt X id r) (ho:PE X o to) (ha:PA X (e::es) t)
  (om:attributeBase o name X.env (eval o X.env)=eval o X.env:=by rfl)
  (B5:((backTo dc (starEach (e::es) X.env)).all (fun x=>!x.1)&&(backToKw dc (keywordEach [] X.env)).all (fun x=>x.1.isSome)
   && decide ((e::es).length+([]:List Keyword).length+(if ([]:List Keyword).isEmpty then 0 else 1)<30))=true:=by rfl)
  (B3:(apos.endLine == dc.line)=true:=by rfl) (hs:starEach (e::es) X.env=(false,eval e X.env)::starEach es X.env:=by rfl) (xk:(backTo dc (starEach es X.env)).any (·.1)=false:=by rfl) :
  PE X (.Call (.Attribute o name apos) (e::es) [] dc) (tBM X.K T r to t):=by
 intro pins s σ H Q I h
 refine wpAny_Call_method_late om B5 B3 rfl (bG (ho pins s σ H _ I h) fun v s1 ⟨x,H1,I1,r1,ty,q1⟩=>?_)
 obtain⟨h1,h2⟩:=BZ I1 r1 ty
 refine⟨T,id,pa,slot,Ry,h1,h2,?_⟩
 have hA:=ha dc pins s1 σ H1 _ I1 q1
 rw[hs] at hA ⊢
 refine Calls.callWith_builtin (by show (false||(backTo dc (starEach es X.env)).any (·.1))=false;rw[xk]<;>rfl) (Calls.evalArgs_plain ?_)
 exact bG hA fun us s2 ⟨vs,H2,I2,r2,q2⟩=>hm pins s2 σ H2 x vs v us Q I2 r1 r2 q2
/- xs.append(e),list.index on a module's tuple .. are MtR facts of 06m -/
end
noncomputable def PU (X:Cx) (id:String) (r:V→List V→Hp→VK→Prop):Prop :=
 ∀(pins:List (Addr×Obj)) (s:Shared) (σ:St) (H:Hp) (x:V) (xs:List V) (v:Value) (us:List Value) (Q:VK),Inv X pins σ H s→RelV x v→Vals xs us→r x xs H Q →
  wpAny (model X.prog X.w) X.A (call (.builtin id) (v::us)) (EP X pins σ Q) X.xe s
theorem Vals.one:∀{x:V}{us:List Value},Vals [x] us→∃u,us=[u]∧RelV x u
 | _,_,.cons r .nil=>⟨_,rfl,r⟩
theorem Vals.two:∀{x y:V}{us:List Value},Vals [x,y] us→∃u v,us=[u,v]∧RelV x u∧RelV y v
 | _,_,_,.cons r (.cons q .nil)=>⟨_,_,rfl,r,q⟩
theorem Vals.zero:∀{us:List Value},Vals [] us→us=[]
 | _,.nil=>rfl
section
variable {X:Cx}{pins:List (Addr×Obj)}{σ:St}{H:Hp}{s:Shared}{l b:Addr}{xs ys zs:List V}
theorem Inv.FJ {its its':List Value}{n:Nat}{f:Array Value→Array Value}{t':Nat}(I:Inv X pins σ H s) (hH:H l=some (.lst xs))
  (e:s.heap.get? l=some { cls:=.type "list",data:=.seq its.toArray n }) (hf:f its.toArray=its'.toArray) (hv:Vals ys its') (hz:ys.length≤sizeLine) :
  Inv X pins σ (upd H l (.lst ys)) { s with heap:=s.heap.update l (Obj.mapSeq f),toks:=t' }:=by
 have q:=PySem.IsL.update e f
 rw[hf] at q
 refine I.write (x:=l) (e:=l) (by rw[hH];exact trivial) (.inl rfl) (fun b' u hb hu=>(Heap.get?_update_other s.heap (Obj.mapSeq f) (Ne.symm hb)).trans hu) ⟨_,q⟩ ?_
 exact⟨hz,its',_,hv,q⟩
theorem Inv.MR {its:List Value}{t':Nat}(I:Inv X pins σ H s) (hv:Vals ys its) (hz:ys.length≤sizeLine) :
  Inv X pins σ (upd H s.heap.objs.size (.lst ys)) { s with heap:=s.heap.push { cls:=.type "list",data:=.seq its.toArray },toks:=t' } :=
 I.laid (fun _ _ q=>Heap.get?_push_of_some _ q) (Nat.le_refl _) ⟨hz,its,0,hv,Heap.get?_push_size _ rfl⟩
theorem Inv.fresh (I:Inv X pins σ H s):H s.heap.objs.size=none:=I.aR.fresh (Nat.le_refl _)
theorem Inv.vc (I:Inv X pins σ H s) (hH:H l=some (.lst xs)):xs.length≤sizeLine∧∃(its:List Value) (n:Nat),Vals xs its∧xs.length=its.length∧s.heap.get? l=some { cls:=.type "list",data:=.seq its.toArray n }:=by
 obtain⟨z,its,n,r,e⟩:=I.aR l _ hH
 exact⟨z,its,n,r,r.length,e⟩
theorem oo {n:Nat}(h:n≤sizeLine):Builtin.List.listTooLong n=false:=by
 unfold Builtin.List.listTooLong
 exact decide_eq_false (by omega)
end
section
variable {X:Cx}
noncomputable def FK:V→List V→Hp→VK→Prop:=fun x vs H Q=>∃l xs y,x = .ref l∧vs=[y]∧H l=some (.lst xs)∧xs.length<sizeLine∧Q .cK (upd H l (.lst (xs++[y])))
theorem rm:PU X "list.append" FK:=by
 intro pins s σ H x vs v us Q I rx rv h
 obtain⟨l,xs,y,rfl,rfl,hH,hz,q⟩:=h
 cases rx
 obtain⟨u,rfl,ru⟩:=rv.one
 obtain⟨z,its,n,r,hl,e⟩:=I.vc hH
 refine call_meets F.slot_list_append ⟨_,e,rfl⟩ F.entry_list_append (F.args_list_append_2 _ _) (PySem.list_append l its.toArray n u (by rw[List.size_toArray];omega)) ⟨e,?_⟩
 refine⟨.cK,_,I.FJ (its':=its++[u]) hH e (by simp) (r.append (.cons ru .nil)) ?_,rfl,q⟩
 rw[length_append,length_singleton]
 omega
noncomputable def FL:V→List V→Hp→VK→Prop:=fun x vs H Q=>∃l b xs zs,x = .ref l∧vs=[.ref b]∧H l=some (.lst xs)∧H b=some (.lst zs)∧xs.length+zs.length≤sizeLine∧Q .cK (upd H l (.lst (xs++zs)))
theorem LP:PU X "list.extend" FL:=by
 intro pins s σ H x vs v us Q I rx rv h
 obtain⟨l,b,xs,zs,rfl,rfl,hH,hB,hz,q⟩:=h
 cases rx
 obtain⟨u,rfl,ru⟩:=rv.one
 cases ru
 obtain⟨z,its,n,r,hl,e⟩:=I.vc hH
 obtain⟨z2,xn,n2,r2,uK,e2⟩:=I.vc hB
 have hsz:its.toArray.size+xn.toArray.size≤sizeLine:=by rw[List.size_toArray,List.size_toArray];omega
 have MS:¬(!its.toArray.isEmpty&&Builtin.List.listTooLong (its.toArray.size+xn.toArray.size))=true:=by
  rw[oo hsz,Bool.and_false]
  exact Bool.false_ne_true
 refine call_meets F.slot_list_extend ⟨_,e,rfl⟩ F.entry_list_extend (F.args_list_extend_2 _ _)
  (AutoSeq1.list_extend_list_list_0 l its.toArray n b xn.toArray n2 MS (by rw[List.size_toArray];omega) (by omega)) ⟨e,e2,?_⟩
 refine⟨.cK,_,I.FJ (its':=its++xn) hH e (by simp) (r.append r2) ?_,rfl,q⟩
 rw[length_append]
 omega
noncomputable def rPop:V→List V→Hp→VK→Prop:=fun x vs H Q=>∃l xs y,x = .ref l∧vs=[]∧H l=some (.lst xs)∧xs[xs.length-1]?=some y∧Q y (upd H l (.lst xs.dropLast))
noncomputable def Rz:V→List V→Hp→VK→Prop:=fun x vs H Q=>∃l xs i k y,x = .ref l∧vs=[.int i]∧H l=some (.lst xs)∧-(2^63)≤i∧i<2^63∧seqIndex? i xs.length=some k∧xs[k]?=some y∧Q y (upd H l (.lst (xs.eraseIdx k)))
noncomputable def MT:V→List V→Hp→VK→Prop:=fun x vs H Q=>∃l xs,x = .ref l∧vs=[]∧H l=some (.lst xs)∧Q .cK (upd H l (.lst xs.reverse))
noncomputable def RA:V→List V→Hp→VK→Prop:=fun x vs H Q=>∃l xs,x = .ref l∧vs=[]∧H l=some (.lst xs)∧Q .cK (upd H l (.lst []))
noncomputable def RB:R2:=fun x y H Q=>∃l b xs zs,x = .ref l∧y = .ref b∧H l=some (.lst xs)∧H b=some (.lst zs)∧xs.length+zs.length≤sizeLine∧∀p,H p=none→Q (.ref p) (upd H p (.lst (xs++zs)))
theorem mE:kQ X (binaryOp .Add) RB:=by
 intro pins s σ H x y v u Q I rx ry h
 obtain⟨l,b,xs,zs,rfl,rfl,hH,hB,hz,q⟩:=h
 cases rx
 cases ry
 obtain⟨z,its,n,r,hl,e⟩:=I.vc hH
 obtain⟨z2,xn,n2,r2,uK,e2⟩:=I.vc hB
 refine PySem.P.add_list e e2 ?_ (by rw[List.size_toArray,List.size_toArray];omega)
 have ea:its.toArray++xn.toArray=(its++xn).toArray:=by simp
 rw[ea]
 exact⟨.ref _,_,I.MR (t':=s.toks) (r.append r2) (by rw[length_append];omega),rfl,q _ I.fresh⟩
noncomputable def rRep:R2:=fun x y H Q=>∃l k xs,x = .ref l∧y = .int k∧H l=some (.lst xs)∧-(2^63)≤k∧k<2^63∧xs.length*k.toNat≤sizeLine ∧
 ∀p,H p=none→Q (.ref p) (upd H p (.lst (List.replicate k.toNat xs).flatten))
end
section
variable {prog:Program}{w:World}{A:Around}{E:Value→Shared→Prop}{s:Shared}
theorem xp {a c n:Nat}(PV:a≤c) (hc:c≤n):sliceBounds (some (a:Int)) (some (c:Int)) none n=((a:Int),(c:Int),1):=by
 simp only[sliceBounds,Option.getD_none]
 have h1:¬((a:Int)<0):=by omega
 have h2:¬((c:Int)<0):=by omega
 simp only[h1,h2,if_false,show (1:Int) > 0 by decide,if_true]
 congr 1
 ·omega
 ·congr 1;omega
set_option maxRecDepth 100000 in
theorem EU {l b sl:Addr}{items new:Array Value}{n n2:Nat}{vl vu:Value}{a c:Nat}{Q:Unit→Shared→Prop}
  (e:s.heap.get? l=some { cls:=.type "list",data:=.seq items n }) (e2:s.heap.get? b=some { cls:=.type "list",data:=.seq new n2 }) (fG:l≠b)
  (hs:s.heap.IsSliceOf sl vl vu .none) (pl:IsPart vl (some (a:Int))) (pu:IsPart vu (some (c:Int))) (PV:a≤c) (hc:c≤items.size)
  (hsz:items.size+new.size≤sizeLine) (h:Q () { s with heap:=s.heap.update l (Obj.mapSeq fun xs=>xs.extract 0 a++new++xs.extract c xs.size) }) :
  wpAny (model prog w) A (setItem (.ref l) (.ref sl) (.ref b)) Q E s:=by
 have hl:s.heap.IsList l items:=PySem.IsL.isList e
 have hb:s.heap.IsList b new:=PySem.IsL.isList e2
 obtain⟨os,PX,rn,RC⟩:=id hs
 have JF:s.TypeIs (.ref sl) "slice":=⟨os,PX,rn⟩
 have oq:¬((rawPart none == rawInt 0)=true):=Bool.false_ne_true
 have B6:Builtin.List.listSameRef (.ref l) (.ref b)=false:=by
  unfold Builtin.List.listSameRef
  exact beq_eq_false_iff_ne.mpr fG
 have RD:(max (a:Int) (c:Int)).toNat=c:=by omega
 have B7:((fun xs:Array Value=>xs.extract 0 a++new++xs.extract c xs.size) items).size≤sizeLine+1:=by
  simp only[Array.size_append,Array.size_extract]
  omega
 unfold setItem
 try with_reducible refine wpAny_holding ?_
 first|refine wpAny_bind (wpAny_pure ?_)|skip
 refine wpAny_bind (wpAny_sequenceKey hl.typeIs (by decide) ?_)
 refine wpAny_bind (wpAny_callSpecial?_slot (name:=Str.ofString "__setitem__") hl.typeIs slot_list_setitem
  (wpAny_call_entry slot_list_setitem hl.typeIs entry_list_setitem ?_ (args_list_setitem _ _ _)))
 show wpAny _ _ (Builtin.List.listSubscript? (.ref sl) >>= _) _ _ s
 refine wpAny_bind ?_
 unfold Builtin.List.listSubscript?
 refine wpAny_bind (wpAny_specialOf JF slice_no_index ?_)
 simp only[Option.isNone_none,if_true]
 refine wpAny_pure ?_
 show wpAny _ _ (typeOf (.ref sl) >>= _) _ _ s
 refine wpAny_bind (wpAny_typeOf JF ?_)
 first
  | rw[if_neg (by decide)]
  | refine PySem.W.KFB.if_not (by decide) ?_
 rw[listSliceParts_eq]
 refine wpAny_bind (wpAny_bind (wpAny_field PX RC (x:=.none) rfl (wpAny_bind (wpAny_listPart .none ?_))))
 rw[if_neg oq]
 refine wpAny_bind (wpAny_field PX RC (x:=vl) rfl (wpAny_bind (wpAny_listPart pl ?_)))
 refine wpAny_bind (wpAny_field PX RC (x:=vu) rfl (wpAny_bind (wpAny_listPart pu (wpAny_pure ?_))))
 first
  | simp only[B6,Bool.false_eq_true,if_false]
  | refine PySem.W.KFB.if_not B6 ?_
  | (dsimp only
     rw[if_neg (by rw[B6];exact Bool.false_ne_true)])
 refine wpAny_bind (m:=Builtin.List.listAllItems (.ref b) "must assign iterable to extended slice") ?_
 unfold Builtin.List.listAllItems
 refine wpAny_bind (wpAny_typeOf hb.typeIs ?_)
 first
  | refine PySem.W.KFB.if_so (by decide) ?_
  | rw[if_pos (by decide)]
  | simp only[beq_self_eq_true,Bool.true_or,if_true]
 unfold Builtin.List.listItems
 refine wpAny_bind (wpAny_seqItems e2 rfl (wpAny_pure ?_))
 refine wpAny_bind (wpAny_bind (wpAny_seqItems e rfl (wpAny_pure ?_)))
 refine wpAny_bind (wpAny_of_eq ((sliceIndices_raw (some (a:Int)) (some (c:Int)) none items.size (by simp)).trans (congrArg (pure:Int×Int×Int→Sem (Int×Int×Int)) (xp PV hc))) ?_)
 show wpAny _ _ (if ((1:Int) == 1)=true then _ else _) _ _ s
 rw[if_pos (by decide)]
 refine wpAny_bind (wpAny_rule ?_)
 first
  | simp only[oo hsz,Bool.false_eq_true,if_false]
  | refine PySem.W.KFB.if_not (oo hsz) ?_
 first|refine wpAny_bind (wpAny_pure ?_)|skip
 show wpAny _ _ (updateSeq l (fun xs=>xs.extract 0 ((a:Int)).toNat++new++xs.extract (max (a:Int) (c:Int)).toNat xs.size) >>= _) _ _ s
 rw[RD,Int.toNat_natCast]
 refine wpAny_bind (wpAny_updateSeq (hz:=Nat.le_trans (Nat.le_add_right _ _) hsz) (_hz':=B7) e rfl ?_)
 refine wpAny_bind (wpAny_letGo ?_)
 first
  | exact wpAny_bind (wpAny_pure (wpAny_pure ⟨.none,rfl,wpAny_pure h⟩))
  | exact wpAny_pure ⟨.none,rfl,wpAny_pure h⟩
end
section
variable {X:Cx}
end
end L2
namespace Att
open PySem PySem.W PySem.Calls PyProof.Rows
theorem nH {P:Params}{h:Heap}:∀(ns:List Int) (vs:List Value),WellAll P h vs (ns.map WData.int)→IntsAre vs ns:=by
 intro ns
 induction ns with
 | nil =>
  intro vs w
  rw[List.map_nil] at w
  cases w
  exact .nil
 | cons n ns ih =>
  intro vs w
  rw[List.map_cons] at w
  cases w with
  | cons a b =>
   cases a
   exact .cons _ _ (ih _ b)
theorem An {l:OpenLaw}{n:Nat}(hn:l.most=some n) {P:Params}{h:Heap}{args:List WData}{vals:List Value}
  (FN:l.row.toRowW.claim.pre args=true) (JH:WellAll P h vals args) :
  ∃a vs ns,vals=[Value.ref a]∧args=[WData.list (ns.map WData.int)]∧h.get? a=some { cls:=.type "list",data:=.seq vs.toArray }∧IntsAre vs ns∧ns.length≤n:=by
 have hsh:WShape.hasAll [] args [.list .int]=true:=(pre_splitW FN).1
 have hc:l.pre.holds [] { args:=args }=true:=(pre_splitW FN).2
 obtain⟨d,r,rfl,h1,h2⟩:=hasAllW_cons hsh
 obtain rfl:=hasAllW_nil h2
 obtain⟨xs,rfl,h3⟩:=hasW_list h1
 obtain⟨ns,rfl⟩:=items_int h3
 have hlen:ns.length≤n:=by
  unfold OpenLaw.pre at hc
  have h4:(WTm.not (.lt (.lit (.int (n:Int))) (.len (.arg 0)))).holds [] { args:=[.list (ns.map .int)] }=true:=by
   have h4:=(holds_andW hc).1
   rw[hn] at h4
   exact h4
  have h5:=condW_of h4 (w_not (w_lt w_lit (w_len_list (w_arg rfl))))
  rw[length_map] at h5
  refine Nat.le_of_not_lt fun q=>?_
  have q':(n:Int)<((ns.length:Nat):Int):=by omega
  first
   | (rw[decide_eq_true q'] at h5;exact absurd h5 (by decide))
   | (simp at h5;omega)
 cases JH with
 | cons w1 w2 =>
  cases w2
  cases w1 with
  | list ho JI=>exact⟨_,_,ns,rfl,rfl,ho,nH ns _ JI,hlen⟩
theorem Ao (l:OpenLaw) (args:List WData):l.row.toRowW.claim.post args (.bool true) args=true :=
 postW_of (r:=l.row.toRowW) (X:=(true == true))
  (show WShape.has [] (.bool true) .bool=true by first|rfl|decide|simp[WShape.has,WShape.arms,WShape.armsAll])
  (show (WTm.eq .res (.lit (.bool true))).value [] { args:=args,res:=some (.bool true),after:=args }=some (.bool (true == true)) from w_eq_bool (w_res rfl) w_lit) rfl
theorem vd {l:OpenLaw}{n:Nat}{q:Program}{loose:List Str}{XP:(Str→Option Value)→Heap→Prop}{YP:World→Heap→Prop}{d:DefRec}
  (hn:l.most=some n) (MU:d.params.defaults=[])
  (call:∀(w:World) (s₀ s₁:Shared) (mg mb:Str→Option Value) (fa:Addr) (o:Obj) (pm cd doc:Value) (a:Addr) (vs:List Value) (ns:List Int),
   Ground q loose [] XP w s₀ mg mb s₁.heap→YP w s₁.heap →
   s₁.heap.get? fa=some o→o.data = .func (docDef d.name d.params d.body d.scope pm cd doc)→s₁.heap.CodeRec cd d.name→mg d.name=some (.ref fa) →
   s₁.heap.get? a=some { cls:=.type "list",data:=.seq vs.toArray }→IntsAre vs ns→ns.length≤n→s₁.gens=#[] →
   codeAny (model l.prog w) callerA (.call (.ref fa) ⟨[.ref a],[]⟩) (fun r s'=>r = .ok (.ret (.bool true))∧OldK s₁.heap s'.heap∧s'.os=s₁.os∧AllBare s'.gens) s₁) :
  WalkO q loose XP YP l.row.toRowW d [] (fun f vs=>PySem.call f vs):=by
 intro w s₀ s₁ mg mb G Y fa o pm cd doc dV kV ho hd wQ hD MV hg args vals as FN hlay hrd JH sI
 obtain rfl:dV = .none:=Dflts.none hD MU
 obtain rfl:kV = .none:=Dflts.noKw hD
 obtain⟨a,vs,ns,rfl,rfl,JJ,hints,hlen⟩:=An hn FN JH
 refine enter_call (codeAny_mono (call w s₀ s₁ mg mb fa o pm cd doc a vs ns G Y ho (fd_plain hd) wQ MV JJ hints hlen hg) fun r s' hq=>?_)
 obtain⟨rfl,h2,h3,h4⟩:=hq
 exact⟨.inl ⟨.bool true,.bool true,[],rfl,fun _=>rfl,.bool true,Ao l _,fun _=>⟨List.Pairwise.nil,fun _ hm=>(nomatch hm)⟩⟩,h2,h3,h4⟩
section
variable {prog:Program}{w:World}{A:Around}{E:Value→Shared→Prop}{s:Shared}{K:Frag}
noncomputable def RE (h:Heap):Heap:={ h with objs:=#[] }
noncomputable def ledger (h:Heap) (L d:Addr):List (Addr×Obj):=(List.range h.objs.size).filterMap fun a=>if a=L∨a=d then none else (h.get? a).map fun o=>(a,o)
end
end Att
namespace L2
open PySem PySem.Spec PyProof.Rows
theorem rp:∀{vs:List Value}{ns:List Int},IntsAre vs ns→Vals (ns.map V.int) vs
 | _,_,.nil=>.nil
 | _,_,.cons n t h=>.cons ⟨t,rfl⟩ (rp h)
noncomputable def JK (H:Hp):Prop:=∀b,H b=none∨∃o xs,H b=some (.uS o (.lst xs))
theorem B8 {P:Program}{w:World}{K:Frag}{mg mb:Str→Option Value}{CX:yJ}{k:Nat}{fa a:Addr}{fd:FuncData}{x:Str}{sp:Sp}{s₁:Shared}{vs:List Value}{ns:List Int}
  (KX:K.In s₁.heap) (hns:s₁.heap.Ns mainGlobals mg) (hb:s₁.heap.Ns builtinsNs mb) (hbb:∀x:Str,x≠"__name__"→mb x=bootBuiltins x) (RF:s₁.heap.NoLimit) (hg:s₁.gens=#[])
  (ha:s₁.heap.get? a=some { cls:=.type "list",data:=.seq vs.toArray }) (hi:IntsAre vs ns) (hl:ns.length≤sizeLine) (hr:bK k callerA)
  (F:∀base:Heap,K.In base→base.Ns mainGlobals mg→fj P w K mg base CX k fa fd [x] sp) (MW:∀(s:Shared) (u:Value),BindsTo s fd ⟨[u],[]⟩ [(x,u)])
  (ET:∀H:Hp,JK H→cC K H a (ns.map V.int)→sp [.ref a] H (fun v _=>v = .bl true) fun _ _ _=>False)
  (RG:∀H e s',CX [] H s₁ (fun _ _ _=>False) e s'→False) :
  codeAny (model P w) callerA (.call (.ref fa) ⟨[.ref a],[]⟩) (fun r s'=>r = .ok (.ret (.bool true))∧OldK s₁.heap s'.heap∧s'.os=s₁.os∧AllBare s'.gens) s₁:=by
 have rv:=rp hi
 have RH:=hi.length
 have core:∀H:Hp,JK H→cC K H a (ns.map V.int)→gW P w H s₁.heap→(∀b,H b≠none→b=a)→(H a≠none→K.lookup a=none) →
   codeAny (model P w) callerA (.call (.ref fa) ⟨[.ref a],[]⟩) (fun r s'=>r = .ok (.ret (.bool true))∧OldK s₁.heap s'.heap∧s'.os=s₁.os∧AllBare s'.gens) s₁:=by
  intro H hO hS aR hA hK
  have yO:∀{b:Addr}{o:Obj},s₁.heap.get? b=some o→H b=none→(so s₁.heap H).get? b=some o:=fun e n=>BC e n
  have MM:∀{b:Addr}{o:Obj}{es:Array DictEntry}{ep:Nat},s₁.heap.get? b=some o→o.data = .dict es ep→H b=none:=fun {b o es ep} e d=>by
   cases q:H b with
   | none=>rfl
   | some u =>
    have e':b=a:=hA b (by rw[q];simp)
    subst e'
    rw[ha] at e;cases e
    have d':Data.seq vs.toArray _=Data.dict es ep:=d
    cases d'
  have PY:∀{b:Addr}{m:Str→Option Value},s₁.heap.Ns b m→(so s₁.heap H).Ns b m:=fun {b m} ⟨o,es,ep,e,d,r⟩=>⟨o,es,ep,yO e (MM e d),d,r⟩
  have hKb:K.In (so s₁.heap H):=fun b o e=>yO (KX b o e) (by
   cases q:H b with
   | none=>rfl
   | some u =>
    have e':b=a:=hA b (by rw[q];simp)
    subst e'
    rw[hK (by rw[q];simp)] at e;cases e)
  have hM:Mod K mg (so s₁.heap H):=⟨hKb,PY hns,⟨mb,PY hb,hbb⟩,let ⟨mc,h1,h2⟩:=RF;⟨mc,PY h1,h2⟩⟩
  have e0:qz P w K mg (so s₁.heap H) callerA [] s₁ H:=⟨rfl,hM,fun b o e=>Fh e,Nat.le_of_eq (Ab _ _),trivial,fun b hb=>absurd (show b∈([]:List Addr) from hb) (by simp),aR,.of_eq hg⟩
  refine codeAny_mono ((F _ hKb (PY hns)).run callerA [] s₁ H ⟨[.ref a],[]⟩ [.ref a] [.ref a] _ _ hr e0 (MW s₁ (.ref a)) (.cons rfl .nil) (ET H hO hS)) fun r s' h=>?_
  cases r with
  | error e=>exact(RG H e s' h).elim
  | ok fl =>
   cases fl with
   | next=>exact False.elim h
   | brk=>exact False.elim h
   | cont=>exact False.elim h
   | ret u =>
    obtain⟨v,H',os,bare,un,B9,r',q⟩:=h
    have q':v = .bl true:=q
    subst q'
    obtain rfl:u=Value.bool true:=r'
    refine⟨rfl,OldK.of_keep fun b o e=>?_,os,bare⟩
    cases q:H b with
    | none=>exact un.keep b o e q (by intro z;exact absurd (show b∈([]:List Addr) from z) (by simp)) (by simp)
    | some u =>
     rcases hO b with z|⟨ob,xs,z⟩
     ·rw[q] at z;cases z
     ·have z2:=un.kz b ob _ z
      obtain⟨e1,_⟩:=aR b _ z
      obtain⟨e2,_⟩:=B9 b _ z2
      rw[e] at e1;cases e1
      exact e2
 cases hk:K.lookup a with
 | some o =>
  have e:=KX a o hk
  rw[ha] at e
  cases e
  refine core (fun _=>none) (fun _=>.inl rfl) (.inr ⟨_,vs.toArray,_,hk,rfl,rfl,rfl,by rw[List.size_toArray,RH];exact hl,by simpa using rv⟩) (fun b u z=>by have z':(none:Option HO)=some u:=z;cases z') (fun b z=>absurd rfl z) fun z=>absurd rfl z
 | none =>
  refine core (fun b=>if b=a then some (.uS { cls:=.type "list",data:=.seq vs.toArray } (.lst (ns.map V.int))) else none) (fun b=>?_) (.inl (.inr ⟨{ cls:=.type "list",data:=.seq vs.toArray },if_pos rfl⟩)) (fun b u z=>?_) (fun b z=>?_) fun _=>hk
  ·by_cases hb:b=a
   ·exact .inr ⟨_,_,if_pos hb⟩
   ·exact .inl (if_neg hb)
  ·by_cases hb:b=a
   ·have z':=(if_pos hb).symm.trans z
    cases z'
    subst hb
    exact⟨ha,by rw[length_map];exact hl,vs,_,rv,ha⟩
   ·have z':=(if_neg hb).symm.trans z
    cases z'
  ·by_cases hb:b=a
   ·exact hb
   ·exact absurd (if_neg hb) z
noncomputable abbrev KOf {K:Frag}{h:Heap}(_:K.In h):Frag:=K
theorem FO {l:PySem.W.OpenLaw}{n k:Nat}{q:Program}{loose:List Str}{XP:(Str→Option Value)→Heap→Prop}{YP:World→Heap→Prop}{d:DefRec}{K:Params→Frag}{CX:World→yJ}{sp:World→Sp}{x:Str}
  (hn:l.most=some n) (PM:n≤sizeLine) (MU:d.params.defaults=[]) (hr:bK k callerA)
  (hY:∀(w:World) (h:Heap),YP w h→(K w.params).In h)
  (F:∀(w:World) (mg:Str→Option Value) (fa:Addr) (h:Heap),(K w.params).In h→h.Ns mainGlobals mg→mg d.name=some (.ref fa) →
   ∃fd:FuncData,(∀(s:Shared) (u:Value),BindsTo s fd ⟨[u],[]⟩ [(x,u)]) ∧
    ∀base:Heap,(K w.params).In base→base.Ns mainGlobals mg→fj l.prog w (K w.params) mg base (CX w) k fa fd [x] (sp w))
  (ET:∀(w:World) (H:Hp) (a:Addr) (ns:List Int),ns.length≤n→JK H→cC (K w.params) H a (ns.map V.int)→sp w [.ref a] H (fun v _=>v = .bl true) fun _ _ _=>False)
  (RG:∀(w:World) (H:Hp) (s:Shared) (e:Value) (s':Shared),CX w [] H s (fun _ _ _=>False) e s'→False) :
  PySem.W.WalkO q loose XP YP l.row.toRowW d [] (fun f vs=>PySem.call f vs):=by
 refine Att.vd hn MU fun w s₀ s₁ mg mb fa o pm cd doc a vs ns G Y ho hd wQ MV JJ hints hlen hg=>?_
 have KX:=hY w _ Y
 obtain⟨fd,hb,hF⟩:=F w mg fa _ KX G.T.g MV
 exact B8 KX G.T.g G.T.b G.T.builtins G.T.nolimit hg JJ hints (Nat.le_trans hlen PM) hr hF hb (fun H hO hS=>ET w H a ns hlen hO hS) fun H e s'=>RG w H s₁ e s'
end L2
/- THE LAST THEOREM (shape;LID,My.* are yours):
  My.Adr: a structure of the addresses that your layer names (classes,functions);My.Txt K t: a structure (Prop) of the equations over K;
  My.txt_mk:{K}{implicit addresses ..}(e1:nsIn K mainGlobals "law"=some (some (.ref f))) (e2:K.lookup f=some ⟨oc,od,.func (fnOf "law" "law" params body scope dV kV doc pm an cdv ct),sl⟩) (e3:codeIn K cdv "law"=true) ..:∃t,My.Txt K t
set_option maxRecDepth 100000 in
set_option maxHeartbeats 0 in
theorem PySem.Challenge.cw_LID_holds : PySem.Challenge.rw_LID.Holds := by
 w_on;o_law;k_head;(case hw=>w_witness2)
 k_fill
 refine L2.walk_of (l:=PySem.Challenge.rw_LID) (n:=63) (k:=40) (x:="script") (CX:=fun w=>..) (sp:=fun _=>My.sp_law) rfl (by decide) rfl ⟨rfl,by decide,by decide⟩ (fun w h Y=>PySem.W.kIn_of Y) ?F ?S ?C
 case F =>
  intro w mg fa h KX G hmg
  have T:∃t,My.Txt (L2.KOf KX) t:=by
   dsimp only [L2.KOf]                          -- K must stand as «<heap const> w.params» for k_is
   refine' My.txt_mk ?e1 ?e2 ?e3 ..
   (case e1=>PySem.W.k_is)                    -- in the order: a name -> its address -> its object -> its parts
   (case e2=>PySem.W.k_is)
   ..
  obtain⟨t,T⟩:=T
  have e0:=hmg.symm.trans (PySem.W.mg_of KX G T.law)
  cases e0                                       -- fa is the law's own address
  exact⟨_,fun s u=>.of_eq rfl,fun base kb nb=>My.law_fn T kb nb⟩     -- if «.of_eq rfl» comes too early: refine' ⟨_,?b,fun base kb nb=>My.law_fn T kb nb⟩;exact fun s u=>.of_eq rfl
 case S=>exact fun w H a ns hl hO hS=>..
 case C=>exact ..
(the tactic k_is has no namespace: write k_is) -/
namespace L2
open PySem PySem.Spec PyProof.Rows
noncomputable def inClass (s:Stmt) (j:Nat):Stmt:=match s with
 | .ClassDef _ _ _ body _ _ _ _ _ _ _=>body.getD j (.Pass ⟨0,0,0,0⟩)
 | _=>.Pass ⟨0,0,0,0⟩
noncomputable def ax (s:Stmt):Arguments:=match s with
 | .FunctionDef _ a _ _ _ _ _ _ _ _=>a
 | _=>{ posonlyargs:=[],args:=[],vararg:=none,kwonlyargs:=[],kw_defaults:=[],kwarg:=none,defaults:=[] }
noncomputable def aw (s:Stmt):List Stmt:=match s with
 | .FunctionDef _ _ b _ _ _ _ _ _ _=>b
 | _=>[]
noncomputable def af (s:Stmt):Scope:=match s with
 | .FunctionDef _ _ _ _ _ _ sc _ _ _=>sc
 | _=>{ kind:=.function,names:=[],isGenerator:=false,isCoroutine:=false }
noncomputable abbrev bu:yJ:=fun _ _ _ _ _ _=>False
noncomputable abbrev E0:XK:=fun _ _ _=>False
theorem yP {X:Cx}:Passes bu X E0:=fun _ _ _ _ _ _ _ h=>h.elim
structure Bu (K:Frag) (x qual:Str) (st:Stmt) (f:Addr) (fd:FuncData):Prop where
 ex:∃(oc:Value) (od:Option Addr) (kV doc pm:Value) (an:Option Addr) (bf ct:Value) (oh:Array (Option Value)),
  fd=fnOf x qual (ax st) (aw st) (af st) .none kV doc pm an bf ct∧K.lookup f=some ⟨oc,od,.func fd,oh⟩∧codeIn K bf qual=true
 kp:keepIn K (.ref f)=true
section
variable {P:Program}{w:World}{K:Frag}{mg:Str→Option Value}{base:Heap}
theorem Bu.ok {x qual:Str}{st:Stmt}{f:Addr}{fd:FuncData}{N ps:List Str}{k:Nat}{sp:Sp}(F:Bu K x qual st f fd) (S:az N ps (af st)) (len:∀vs H Q E,sp vs H Q E→vs.length=ps.length)
  (fV:∀(bf:Value) (A:Around) (outer:List Env) (s:Shared) (H:Hp) (vs:List V) (Q:VK) (E:XK),bK k (A.deeper (envOfC qual (af st) s.heap.objs.size f bf))→sp vs H Q E →
   ∃t,nQ (kS bu P w K mg base N qual (af st) f bf A outer s H E).wU (aw st) t∧t { nx:=fun _ H'=>Q .cK H',rt:=Q } (start N vs) H):fj P w K mg base bu (k+1) f fd ps sp:=by
 obtain⟨oc,od,kV,doc,pm,an,bf,ct,oh,rfl,lk,wQ⟩:=F.ex
 refine Ie lk wQ S len fun A outer s H vs Q E hr ET=>?_
 obtain⟨t,h,q⟩:=fV bf A outer s H vs Q E hr ET
 exact⟨t,h.wU,q⟩
theorem Bu.binds {x qual:Str}{st:Stmt}{f:Addr}{fd:FuncData}{ps:List Str}(F:Bu K x qual st f fd)
  (h:∀(kV doc pm:Value) (an:Option Addr) (bf ct:Value) (us:List Value),us.length=ps.length→bindArgs (fnOf x qual (ax st) (aw st) (af st) .none kV doc pm an bf ct) ⟨us,[]⟩=pure (ps.zip us)):Binds K fd ps []:=by
 obtain⟨oc,od,kV,doc,pm,an,bf,ct,oh,rfl,lk,wQ⟩:=F.ex
 exact .all (h kV doc pm an bf ct)
theorem ot {x qual:Str}{st:Stmt}{f:Addr}{oc:Value}{od an:Option Addr}{oh:Array (Option Value)}{kV doc pm bf ct:Value}(l:K.lookup f=some ⟨oc,od,.func (fnOf x qual (ax st) (aw st) (af st) .none kV doc pm an bf ct),oh⟩)
  (c:codeIn K bf qual=true) (k:keepIn K (.ref f)=true):Bu K x qual st f (fnOf x qual (ax st) (aw st) (af st) .none kV doc pm an bf ct):=⟨⟨oc,od,kV,doc,pm,an,bf,ct,oh,rfl,l,c⟩,k⟩
end
section
variable {X:Cx}
theorem pv (i:Nat) {x:Str}{pos:Pos}(hN:X.N[i]?=some x:=by rfl) (hv:Q3 X.env.scope x:=by first|exact Or.inl rfl|exact Or.inr (Or.inl rfl)|exact Or.inr (Or.inr rfl)) (hd:(x == ("__debug__":Str))=false:=by decide)
  (wQ:(x == ("__classdict__":Str))=false:=by decide):PE X (.Name x pos) (Mj i):=Jn hN hv hd wQ
end
theorem fW {A B:Prop}(h:B):if false=true then A else B:=by
 rw[if_neg Bool.false_ne_true]
 exact h
theorem xq {A B:Prop}(h:A):if true=true then A else B:=by
 rw[if_pos rfl]
 exact h
theorem ve {c A B:Prop}[Decidable c] (h1:c→A) (h2:¬c→B):if c then A else B:=by
 by_cases h:c
 ·rw[if_pos h]
  exact h1 h
 ·rw[if_neg h]
  exact h2 h
noncomputable def ao (H H':Hp):Prop:=∀b o,H b=some o→H' b=some o
theorem ao.refl (H:Hp):ao H H:=fun _ _ h=>h
theorem ao.trans {H H1 H2:Hp}(a:ao H H1) (b:ao H1 H2):ao H H2:=fun c o h=>b c o (a c o h)
theorem ao.free {H H':Hp}(e:ao H H') {l:Addr}(h:H' l=Option.none):H l=Option.none:=by
 cases q:H l with
 | none=>rfl
 | some o =>
  rw[e l o q] at h
  cases h
theorem ao.seq {K:Frag}{H H':Hp}{a:Addr}{xs:List V}(e:ao H H') (h:cC K H a xs):cC K H' a xs:=by
 rcases h with(h|⟨o,h⟩)|h
 ·exact .inl (.inl (e _ _ h))
 ·exact .inl (.inr ⟨o,e _ _ h⟩)
 ·exact .inr h
noncomputable def bw (names:List (Str×NameKind)) (cells:List (Str×Addr)):List (Str×Addr)→List (Str×Addr) :=
 fun acc=>names.foldl (fun a y=>if y.2 == NameKind.free then (match cells.lookup y.1 with|some c=>(y.1,c)::a|none=>a) else a) acc
theorem ou (env:Env):∀(names:List (Str×NameKind)) (acc:List (Str×Addr)),(∀y∈names,y.2 = .free→∃c,env.cells.lookup y.1=some c) →
  (forIn names acc fun(x:Str×NameKind) (r:List (Str×Addr))=>(match x with
   | (name,kind)=>if (kind == NameKind.free)=true then (do let c ←cellOf env name;pure (ForInStep.yield ((name,c)::r))) else pure (ForInStep.yield r):Sem (ForInStep (List (Str×Addr)))))=(pure (bw names env.cells acc):Sem _)
 | [],acc,_=>rfl
 | (n,k)::r,acc,h=>by
  have ih:=fun a=>ou env r a fun y hy=>h y (mem_cons_of_mem _ hy)
  rw[List.forIn_cons]
  by_cases hk:(k == NameKind.free)=true
  ·obtain⟨c,hc⟩:=h (n,k) mem_cons_self (by simpa using hk)
   have e1:cellOf env n=pure c:=by unfold cellOf;simp only at hc;rw[hc]
   simp only[hk,if_true,e1]
   have e2:bw ((n,k)::r) env.cells acc=bw r env.cells ((n,c)::acc):=by
    unfold bw;rw[List.foldl_cons];simp only[hk,if_true];simp only at hc;rw[hc]
   rw[e2,←ih];rfl
  ·have e2:bw ((n,k)::r) env.cells acc=bw r env.cells acc:=by
    unfold bw;rw[List.foldl_cons];simp only[hk];rfl
   simp only[hk]
   rw[e2,←ih];rfl
theorem kU {scope:Scope}{env:Env}(h:∀y∈scope.names,y.2 = .free→∃c,env.cells.lookup y.1=some c):closureFor scope env=pure (bw scope.names env.cells []):=by
 unfold closureFor
 have e:=ou env scope.names [] h
 first
  | (rw[e];rfl)
  | (simp only[e];rfl)
  | (show (forIn _ _ _ >>= _)=_;erw [e];rfl)
theorem fX {cells:List (Str×Addr)}:∀(names:List (Str×NameKind)) (acc:List (Str×Addr)) {p:Str×Addr},p∈bw names cells acc→p∈acc∨(cells.lookup p.1=some p.2∧(p.1,NameKind.free)∈names)
 | [],_,_,h=>.inl h
 | (n,k)::r,acc,p,h=>by
  unfold bw at h
  rw[List.foldl_cons] at h
  by_cases hk:(k == NameKind.free)=true
  ·simp only[hk,if_true] at h
   have EV:k = .free:=by simpa using hk
   cases hc:cells.lookup n with
   | none =>
    rw[hc] at h
    rcases fX r acc h with z|⟨z,z'⟩
    ·exact .inl z
    ·exact .inr ⟨z,mem_cons_of_mem _ z'⟩
   | some c =>
    rw[hc] at h
    rcases fX r ((n,c)::acc) h with z|⟨z,z'⟩
    ·rcases List.mem_cons.mp z with z|z
     ·subst z;exact .inr ⟨hc,by rw[EV];exact mem_cons_self⟩
     ·exact .inl z
    ·exact .inr ⟨z,mem_cons_of_mem _ z'⟩
  ·simp only[hk] at h
   rcases fX r acc h with z|⟨z,z'⟩
   ·exact .inl z
   ·exact .inr ⟨z,mem_cons_of_mem _ z'⟩
theorem gz {cells:List (Str×Addr)}:∀(names:List (Str×NameKind)) (acc:List (Str×Addr)) {p:Str×Addr},p∈acc→p∈bw names cells acc
 | [],_,_,h=>h
 | (n,k)::r,acc,p,h=>by
  unfold bw
  rw[List.foldl_cons]
  by_cases hk:(k == NameKind.free)=true
  ·simp only[hk,if_true]
   cases hc:cells.lookup n with
   | none=>exact gz r acc h
   | some c=>exact gz r ((n,c)::acc) (mem_cons_of_mem _ h)
  ·simp only[hk];exact gz r acc h
theorem dO {cells:List (Str×Addr)}:∀(names:List (Str×NameKind)) (acc:List (Str×Addr)) {y:Str}{c:Addr},(y,NameKind.free)∈names→cells.lookup y=some c→(y,c)∈bw names cells acc
 | (n,k)::r,acc,y,c,h,hc=>by
  unfold bw
  rw[List.foldl_cons]
  rcases List.mem_cons.mp h with z|z
  ·cases z
   simp only[beq_self_eq_true,if_true,hc]
   exact gz r _ mem_cons_self
  ·by_cases hk:(k == NameKind.free)=true
   ·simp only[hk,if_true]
    cases hn:cells.lookup n with
    | none=>exact dO r acc z hc
    | some d=>exact dO r _ z hc
   ·simp only[hk];exact dO r acc z hc
theorem aP {α:Type}:∀{l:List (Str×α)}{x:Str}{c:α},l.lookup x=some c→(x,c)∈l
 | [],_,_,h=>by simp at h
 | (n,d)::r,x,c,h=>by
  rw[List.lookup_cons] at h
  cases hx:x == n with
  | true =>
   rw[hx] at h
   have e:x=n:=by simpa using hx
   have e2:d=c:=by simpa using h
   rw[e,e2];exact mem_cons_self
  | false=>rw[hx] at h;exact mem_cons_of_mem _ (aP h)
theorem df {α:Type}:∀{l:List (Str×α)}{x:Str}{c:α},(x,c)∈l→∃d,l.lookup x=some d
 | (n,d)::r,x,c,h=>by
  rw[List.lookup_cons]
  cases hx:x == n with
  | true=>exact⟨d,rfl⟩
  | false =>
   rcases List.mem_cons.mp h with z|z
   ·have:x=n:=congrArg Prod.fst z
    rw[this] at hx;simp at hx
   ·exact df z
theorem bL {env:Env}:∀{names:List (Str×NameKind)}{x:Str}{k:NameKind},(∀y∈names,y.2≠.cell) →
  (names.map fun(n,k)=>if (k == NameKind.free&&env.scope.kind == .function&&env.kindOf n == some .cell) then (n,NameKind.cell) else (n,k)).lookup x=some k →
  names.lookup x=some k∨(names.lookup x=some .free∧k = .cell)
 | [],_,_,_,h=>by simp at h
 | (n,k')::r,x,k,hc,h=>by
  have ih:=@bL env r x k fun y hy=>hc y (mem_cons_of_mem _ hy)
  rw[List.map_cons] at h
  by_cases xr:(k' == NameKind.free&&env.scope.kind == .function&&env.kindOf n == some .cell)=true
  ·simp only[xr,if_true] at h
   rw[List.lookup_cons] at h ⊢
   cases hx:x == n with
   | true =>
    rw[hx] at h
    have EV:k' = .free:=by
     have:=(Bool.and_eq_true_iff.mp (Bool.and_eq_true_iff.mp xr).1).1
     simpa using this
    have:NameKind.cell=k:=by simpa using h
    exact .inr ⟨by rw[EV],this.symm⟩
   | false=>rw[hx] at h;exact ih h
  ·simp only[xr] at h
   rw[show (if false=true then (n,NameKind.cell) else (n,k'))=(n,k') from rfl] at h
   rw[List.lookup_cons] at h ⊢
   cases hx:x == n with
   | true=>rw[hx] at h;exact .inl h
   | false=>rw[hx] at h;exact ih h
structure jf (N N':List Str) (x:Str) (sc osc:Scope):Prop where
 kind:sc.kind = .function
 dP:∀y∈sc.names,y.2≠.cell
 own:∀y∈sc.names,y.2 = .local→y.1=x∨y.1=".0"
 has:sc.names.lookup x=some .local
 names:∀y∈sc.names,y.2 = .local→sc.names.lookup y.1=some .local
 wU:x∉N'
 PZ:(".0":Str)∉N'
 nd:N'.Nodup
 len:N'.length=N.length
 sub:∀p∈N.zip N',p.1=p.2∨sc.names.lookup p.2=none
 free:∀y∈sc.names,y.2 = .free→osc.names.lookup y.1=some .cell∨osc.names.lookup y.1=some .free
noncomputable def JL (N N':List Str) (x:Str) (sc osc:Scope):Bool :=
 decide (sc.kind = .function)&&decide (∀y∈sc.names,y.2≠.cell)&&decide (∀y∈sc.names,y.2 = .local→y.1=x∨y.1=".0")&&decide (sc.names.lookup x=some .local) &&
  decide (∀y∈sc.names,y.2 = .local→sc.names.lookup y.1=some .local)&&decide (x∉N')&&decide ((".0":Str)∉N')&&decide N'.Nodup&&decide (N'.length=N.length)&&decide (∀p∈N.zip N',p.1=p.2∨sc.names.lookup p.2=none)&&decide (∀y∈sc.names,y.2 = .free→osc.names.lookup y.1=some .cell∨osc.names.lookup y.1=some .free)
theorem csH {N N':List Str}{x:Str}{sc osc:Scope}(h:JL N N' x sc osc=true):jf N N' x sc osc:=by
 unfold JL at h
 simp only[Bool.and_eq_true,decide_eq_true_eq] at h
 obtain⟨⟨⟨⟨⟨⟨⟨⟨⟨⟨h1,h2⟩,h3⟩,h4⟩,h5⟩,h6⟩,h7⟩,h9⟩,RI⟩,RJ⟩,h8⟩:=h
 exact⟨h1,h2,h3,h4,h5,h6,h7,h9,RI,RJ,h8⟩
theorem cs {N:List Str}{x:Str}{sc osc:Scope}(h:JL N N x sc osc=true):jf N N x sc osc:=csH h
noncomputable def nI (X:Cx) (N':List Str) (x:Str) (sc:Scope) (C:Addr) (s2:Shared) (H2:Hp) (fp:List Addr):Cx :=
 { X with N:=x::N',s₀:=s2,H₀:=H2,env:=compEnvC sc (bw sc.names X.env.cells []) C X.env,outer:=X.stack,stack:=X.stack,ex:=fp,fn:=fun _=>false,pn:=[],xe:=fun _ _=>False }
section
variable {X:Cx}{pins:List (Addr×Obj)}{σ:St}{H H2:Hp}{s s2:Shared}{x:Str}{sc:Scope}{C:Addr}{fp:List Addr}{N':List Str}
theorem dS (S:jf X.N N' x sc X.env.scope) {y:Str}{c:Addr}(h:(bw sc.names X.env.cells []).lookup y=some c):X.env.cells.lookup y=some c∧(y,NameKind.free)∈sc.names:=by
 rcases fX _ _ (aP h) with z|z
 ·simp at z
 ·exact z
theorem JM (I:Inv X pins σ H2 s2) (S:jf X.N N' x sc X.env.scope) (hC:s2.heap.objs.size≤C) (hf:∀b∈fp,g8 X pins H2 b) (qC:∀b∈fp,∃o,s2.heap.get? b=some o∧∀v,o.data≠.cell v):(nI X N' x sc C s2 H2 fp).Ok where
 mod:=I.ok.mod
 kind:=S.kind
 glob:=I.ok.glob
 blt:=I.ok.blt
 above:=hC
 inj:=fun y z c h1 h2=>I.ok.inj y z c (dS S h1).1 (dS S h2).1
 has:=fun y h=>by
  have key:∀k,(relabel sc X.env).names.lookup y=some k→(k = .cell∨k = .free)→∃c,(bw sc.names X.env.cells []).lookup y=some c:=fun k hk Ca=>by
   have iO:sc.names.lookup y=some .free:=by
    rcases bL (env:=X.env) S.dP hk with z|⟨z,_⟩
    ·rcases Ca with e|e
     ·rw[e] at z;exact absurd rfl (S.dP _ (aP z))
     ·rw[e] at z;exact z
    ·exact z
   have hm:=aP iO
   obtain⟨c,hc⟩:=I.ok.has y (S.free _ hm rfl)
   exact df (dO sc.names [] hm hc)
  rcases h with h|h
  ·exact key _ h (.inl rfl)
  ·exact key _ h (.inr rfl)
 Fj:=fun y c h=>by cases h
 hd:=fun h=>I.ok.hd h
 frames:=I.ok.frames
 HS:=.inl rfl
 LM:=fun b hb=>by
  obtain⟨o,ho,hd⟩:=qC b hb
  refine⟨Nat.ne_of_lt (Nat.lt_of_lt_of_le (Heap.lt_size ho) hC),fun y c h=>(hf b hb).2.2.2.2.1 y c (dS S h).1⟩
 bs:=I.bs
 uT:=Nat.le_trans I.ok.uT I.sz
 qx:=fun b o h hb=>by
  have h1:=(hf b hb).2.2.2.1
  rcases h1 with z|z
  ·exact I.ok.qx b o h z
  ·exact absurd (Nat.lt_of_lt_of_le (Heap.lt_size h) (Nat.le_trans I.ok.uT z)) (Nat.lt_irrefl _)
 uU:=fun b hb h=>by
  rcases List.mem_cons.mp (I.i0 b h) with e|z
  ·exact(hf b hb).2.1 e
  ·exact(hf b hb).2.2.1 z
 iZ:=I.stack
 Bq:=I.nP
theorem Ap {h4:Heap}{t4:Nat}(I:Inv X pins σ H2 s2) (S:jf X.N N' x sc X.env.scope) (hf:∀b∈fp,g8 X pins H2 b) (qC:∀b∈fp,∃o,s2.heap.get? b=some o∧∀v,o.data≠.cell v)
  (hC:s2.heap.objs.size≤C) (hn:h4.Ns C fun _=>none) (hk:∀b o,s2.heap.get? b=some o→h4.get? b=some o) {q:List (Addr×Obj)}(hq:∀p∈q,h4.get? p.1=some p.2∧H2 p.1=none∧p.1≠C∧p.1∉my X.stack∧∀v,p.2.data≠.cell v) :
  Inv (nI X N' x sc C s2 H2 fp) q (none::σ) H2 { s2 with heap:=h4,toks:=t4 } where
 ok:=JM I S hC hf qC
 os:=rfl
 bare:=I.bare
 base:=Un.kept hk
 loc:=by
  refine⟨fun _=>none,hn,fun i y v e1 e2 e3=>?_⟩
  cases i with
  | zero=>simp at e2
  | succ i =>
   have JN:N'[i]?=some y:=by simpa[nI] using e1
   have RK:σ[i]?=some (some v):=by simpa using e2
   have hm:y∈N':=mem_of_getElem? JN
   have RL:X.N[i]?=some y:=by
    have hi:i<X.N.length:=by rw[←S.len];exact(List.getElem?_eq_some_iff.mp JN).1
    have hz:(X.N[i],y)∈X.N.zip N':=by
     refine mem_of_getElem? (i:=i) ?_
     rw[List.getElem?_zip_eq_some]
     exact⟨getElem?_eq_getElem hi,JN⟩
    rcases S.sub _ hz with z|z
    ·rw[getElem?_eq_getElem hi];exact congrArg some z
    ·exfalso
     have no:∀k,(relabel sc X.env).names.lookup y≠some k:=fun k hk=>by
      rcases bL (env:=X.env) S.dP hk with w|⟨w,_⟩
      ·rw[show sc.names.lookup y=none from z] at w;cases w
      ·rw[show sc.names.lookup y=none from z] at w;cases w
     rcases e3 with w|w|w
     ·exact no _ w
     ·exact no _ w
     ·exact no _ w
   have iO:sc.names.lookup y=some .free:=by
    have case:∀k,(relabel sc X.env).names.lookup y=some k→(k = .local ∨ k = .cell∨k = .free)→sc.names.lookup y=some .free:=fun k hk Ca=>by
     rcases bL (env:=X.env) S.dP hk with z|⟨z,_⟩
     ·rcases Ca with e|e|e
      ·rw[e] at z
       rcases S.own _ (aP z) rfl with w|w
       ·exact absurd (w▸hm) S.wU
       ·exact absurd (w▸hm) S.PZ
      ·rw[e] at z;exact absurd rfl (S.dP _ (aP z))
      ·rw[e] at z;exact z
     ·exact z
    rcases e3 with z|z|z
    ·exact case _ z (.inl rfl)
    ·exact case _ z (.inr (.inl rfl))
    ·exact case _ z (.inr (.inr rfl))
   have ow:=aP iO
   have kd:X.env.kindOf y=some .cell∨X.env.kindOf y=some .free:=S.free _ ow rfl
   obtain⟨m,Cb,hl⟩:=I.loc
   obtain⟨u,r,lk⟩:=hl i y v RL RK (by rcases kd with z|z;exact .inr (.inl z);exact .inr (.inr z))
   obtain⟨c,hc,qX⟩:∃c,X.env.cells.lookup y=some c∧s2.heap.IsCell c (some u):=by
    rcases lk with⟨z,_⟩|⟨_,z⟩
    ·rcases kd with w|w
     ·rw[w] at z;cases z
     ·rw[w] at z;cases z
    ·exact z
   refine⟨u,r,.inr ⟨?_,c,?_,?_⟩⟩
   ·rcases e3 with z|z|z
    ·exfalso
     rcases bL (env:=X.env) S.dP z with q|⟨_,q⟩
     ·rw[iO] at q;cases q
     ·cases q
    ·exact .inl z
    ·exact .inr z
   ·obtain⟨d,hd⟩:=df (dO sc.names [] ow hc)
    have:=(dS S hd).1
    rw[hc] at this;cases this
    exact hd
   ·obtain⟨o,ho,hd⟩:=qX
    exact⟨o,hk _ _ ho,hd⟩
 cell:=fun y c e=>by
  obtain⟨v,o,ho,hd⟩:=I.cell y c (dS S e).1
  exact⟨v,o,hk _ _ ho,hd⟩
 free:=I.aR.fresh hC
 dC:=fun y c e=>I.dC y c (dS S e).1
 pin:=fun p hp=>by
  have EW:p∈q:=by simpa[nI] using hp
  exact hq p EW
 aR:=I.aR.kept hk
 len:=by show (none::σ).length=(x::N').length;simp[I.len,S.len]
end
theorem lH {prog:Program}{w:World}{A:Around}{R:Result→Shared→Prop}{s:Shared}{elt target iter:Expr}{ifs:List Expr}{scope:Scope}{pos:Pos}{it acc:Value}{env:Env}(I:Nat→Shared→Prop)
  (turn:∀n s,I n s→wpAny (model prog w) A (pyNext it) (fun r s₁=>match r with
   | none=>R (.ok .next) s₁
   | some v=>wpAny (model prog w) A (letOwnedTupleGo target it v) (fun _ s₁'=>wpAny (model prog w) A (assign target env v) (fun _ s₂ =>
     wpAny (model prog w) A (forIn ifs true fun c r=>if r=true then do let ok ←isTrue c env (eval c env);pure (ForInStep.yield ok) else pure (ForInStep.yield r)) (fun ok s₃ =>
      if ok=true then wpAny (model prog w) A (eval elt env) (fun x s₄ =>
       wpAny (model prog w) A (call (.builtin "list.append") [acc,x]) (fun _ s₅=>∃m,m<n∧I m s₅) (fun _ _=>False) s₄) (fun _ _=>False) s₃
      else ∃m,m<n∧I m s₃) (fun _ _=>False) s₂) (fun _ _=>False) s₁') (fun _ _=>False) s₁) (fun _ _=>False) s)
  (n:Nat) (h:I n s) :
  codeAny (model prog w) A (.compLoop (.ListComp elt [⟨target,iter,ifs,0⟩] scope pos) 0 it acc env) R s:=by
 refine codeAny_loop rfl I (fun n s hI=>?_) n h
 show wpAny _ A ((compTurn (.ListComp elt [⟨target,iter,ifs,0⟩] scope pos) 0 it acc env).onRaise (fun x=>do noteFrame x env;theTreesLotGoes x)) _ _ s
 refine wpAny_noted ?_
 rw[compTurn_list]
 refine wpAny_bind (wpAny_standAt (wpAny_bind (wpAny_mono (turn n s hI) (fun r s₁ h₁=>?_) fun _ _ h'=>h'.elim)))
 cases r with
 | none=>exact wpAny_pure h₁
 | some v =>
  refine wpAny_bind (wpAny_mono h₁ (fun _ s₁' h₁'=>?_) fun _ _ h'=>h'.elim)
  refine wpAny_bind (wpAny_mono h₁' (fun _ s₂ h₂=>wpAny_bind (wpAny_mono h₂ (fun ok s₃ h₃=>?_) fun _ _ h'=>h'.elim)) fun _ _ h'=>h'.elim)
  cases ok with
  | false=>exact wpAny_pure ⟨rfl,h₃⟩
  | true =>
   exact wpAny_bind (wpAny_bind (wpAny_mono h₃ (fun x s₄ h₄=>wpAny_bind (wpAny_mono h₄ (fun _ s₅ h₅=>wpAny_pure (wpAny_pure ⟨rfl,h₅⟩)) fun _ _ h'=>h'.elim)) fun _ _ h'=>h'.elim))
noncomputable def vf (X:Cx) (ifs:List Expr) (t:TT):Prop :=
 ∀(pins:List (Addr×Obj)) (s:Shared) (σ:St) (H:Hp) (Q:Bool→Hp→Prop),Inv X pins σ H s→t σ H Q →
  wpAny (model X.prog X.w) X.A (forIn ifs true fun c r=>if r=true then do let ok ←isTrue c X.env (eval c X.env);pure (ForInStep.yield ok) else pure (ForInStep.yield r)) (TP X pins σ Q) X.xe s
noncomputable def xt:TT:=fun _ H Q=>Q true H
theorem fk {X:Cx}:vf X [] xt:=fun _ _ _ H _ I h=>wpAny_tests_nil ⟨H,I,h⟩
theorem lI {X:Cx}{c:Expr}{t:TT}(hc:PT X c t):vf X [c] t:=fun pins s σ H Q I h=>wpAny_tests_one (hc pins s σ H Q I h)
theorem gW.kF {P:Program}{w:World}{H:Hp}{h:Heap}{a:Addr}{o:HO}(x:gW P w H h) (hn:H a=none) (new:aX P w (upd H a o) h a o):gW P w (upd H a o) h:=fun b u e=>by
 by_cases hb:b=a
 ·subst hb;rw[ah] at e;cases e;exact new
 ·rw[av hb] at e
  exact(x b u e).iY (fun c v _ q=>q) (fun c q=>by rw[av (aE q hn)];exact q) fun c xs q=>by rw[av (aE q hn)];exact q
theorem Un.kF {fs ex:List Addr}{H H1:Hp}{h h1:Heap}{a:Addr}{o:HO}(u:Un fs ex H H1 h h1) (hn:H1 a=none) (hf:h.get? a=none):Un fs ex H (upd H1 a o) h h1 where
 keep:=u.keep
 slot:=u.slot
 free:=fun b ob q n hx=>by
  rw[av (by rintro rfl;rw[hf] at q;cases q)]
  exact u.free b ob q n hx
 there:=u.there
 kL:=fun b xs q=>by have:=u.kL b xs q;rw[av (aE this hn)];exact this
 kz:=fun b ob y q=>by have:=u.kz b ob y q;rw[av (aE this hn)];exact this
 kO:=fun b ps q=>by
  obtain⟨m,e⟩:=u.kO b ps q
  exact⟨m,by rw[av (aE e hn)];exact e⟩
noncomputable def oy (J:It) (tt:TT) (te:TE) (σ:St) (Q:VK) (W:Nat→Nat→List V→Hp→Prop):Prop:=∀i m ys H,W i m ys H →
 (J.stop i H∧ys.length≤sizeLine∧∀p,H p=none→Q (.ref p) (upd H p (.lst ys))) ∨
 (J.go i H∧ys.length<sizeLine∧∀x H',J.HV i H x H'→tt (some x::σ) H' fun b H3=>if b=true then te (some x::σ) H3 fun y H4=>∃m',m'<m∧W (i+1) m' (ys++[y]) H4 else ∃m',m'<m∧W (i+1) m' ys H3)
noncomputable def Ig (wi:TI) (tt:TT) (te:TE):TE:=fun σ H Q=>wi σ H fun J H1=>∃W:Nat→Nat→List V→Hp→Prop,(∃m,W 0 m [] H1)∧oy J tt te σ Q W
section
variable {X:Cx}{pins:List (Addr×Obj)}{σ:St}{x:Str}{sc:Scope}{N':List Str}
theorem rq {s2:Shared}{H2:Hp}{elt iter:Expr}{ifs:List Expr}{px pos:Pos}{tt:TT}{te:TE}{Q:VK}{RR:Value→Addr→Result→Shared→Prop}{E:Value→Shared→Prop}
  (hc:X.calm=true) (hN:X.N.Nodup) (S:jf X.N N' x sc X.env.scope)
  (ht:∀C s2 H2 fp,vf (nI X N' x sc C s2 H2 fp) ifs tt) (he:∀C s2 H2 fp,PE (nI X N' x sc C s2 H2 fp) elt te)
  (I2:Inv X pins σ H2 s2) {it:Addr}{fp:List Addr}{tn:Nat→Heap→Prop}{J:It}(T:Turn X.prog X.w X.K (.Name x px) J fp it tn) (wX:tn 0 s2.heap) (f2:∀b∈fp,g8 X pins H2 b)
  (W:Nat→Nat→List V→Hp→Prop) (w0:∃m,W 0 m [] H2)
  (turn:oy J tt te σ Q W)
  (RM:∀D C s' H',Inv X pins σ H' s'→g8 X pins H' C→(∃m,s'.heap.Ns C m)→Q (.ref D) H'→RR (.ref D) C (.ok .next) s') :
  wpAny (model X.prog X.w) X.A (newList []) (fun acc s₃=>wpAny (model X.prog X.w) X.A (newFunctionEnv sc X.env.globals (bw sc.names X.env.cells []) [] X.env.qual none .none (some X.env)) (fun Cc s₄ =>
   codeAny (model X.prog X.w) X.A (.compStart (.ListComp elt [⟨.Name x px,iter,ifs,0⟩] sc pos) 0 (.ref it) acc { Cc with scope:=relabel sc X.env }) (RR acc Cc.locals) s₄) E s₃) E s2:=by
 have qC:=T.obj _ _ wX
 refine wpAny_newObj_type (wpAny_newFunctionEnv S.dP (by intro y hy;simp at hy) (fun h₁ hns₁ hsb₁=>?_) S.kind)
 dsimp only at hns₁ hsb₁ ⊢
 generalize JO:s2.heap.push { cls:=.type "list",dict:=none,data:=.seq ([]:List Value).toArray }=HP at hns₁ hsb₁ ⊢
 have hC:HP.objs.size=s2.heap.objs.size+1:=by rw[←JO,Heap.size_push]
 have Cd:s2.heap.objs.size≠HP.objs.size:=by rw[hC];exact Nat.ne_of_lt (Nat.lt_succ_self _)
 have xu:s2.heap.objs.size≤HP.objs.size:=by rw[hC];exact Nat.le_succ _
 have below:∀b,b<s2.heap.objs.size→b≠HP.objs.size∧b≠s2.heap.objs.size:=fun b hb=>⟨by rw[hC];exact Nat.ne_of_lt (Nat.lt_succ_of_lt hb),Nat.ne_of_lt hb⟩
 have old:∀b o,s2.heap.get? b=some o→h₁.get? b=some o:=fun b o e=>hsb₁.extBut b o (below b (Heap.lt_size e)).1 (Heap.get?_push_of_some _ (JO▸Heap.get?_push_of_some _ e))
 have Ce:h₁.get? s2.heap.objs.size=some { cls:=.type "list",dict:=none,data:=.seq ([]:List Value).toArray }:=hsb₁.extBut _ _ Cd (Heap.get?_push_of_some _ (JO▸Heap.get?_push_size _ rfl))
 have RN:H2 s2.heap.objs.size=none:=I2.aR.fresh (Nat.le_refl _)
 have Cf:s2.heap.objs.size∉my X.stack:=fun hb=>by
  obtain⟨_,o,ho,_⟩:=I2.stack.mem hb
  exact absurd (Heap.lt_size ho) (Nat.lt_irrefl _)
 have Cg:s2.heap.objs.size∉fp:=fun hb=>by
  obtain⟨o,ho,_⟩:=qC _ hb
  exact absurd (Heap.lt_size ho) (Nat.lt_irrefl _)
 have JP:HP.objs.size∉fp:=fun hb=>by
  obtain⟨o,ho,_⟩:=qC _ hb
  exact absurd (Nat.lt_of_lt_of_le (Heap.lt_size ho) xu) (Nat.lt_irrefl _)
 obtain⟨m0,w0⟩:=w0
 have oa:∀{H':Hp}{o:Obj},(∀b∈fp,H' b=none)→∀b∈fp,g8 (nI X N' x sc HP.objs.size s2 H2 fp) [(s2.heap.objs.size,o)] H' b:=fun {H' o} hn b hb=>by
  obtain⟨f0,f1,RO,f3,f4,f5⟩:=f2 b hb
  refine⟨hn b hb,fun e=>JP (by rw[←show b=HP.objs.size from e];exact hb),fun z=>?_,.inl hb,fun y c e=>f4 y c (dS S e).1,fun p hp=>?_⟩
  ·rcases List.mem_cons.mp (I2.i0 b z) with e|z
   ·exact f1 e
   ·exact RO z
  ·have:p=(s2.heap.objs.size,o):=by simpa[nI] using hp
   subst this
   rintro rfl
   exact Cg hb
 let Iv:Nat→Shared→Prop:=fun n s'=>∃i ys its k σx H',Inv (nI X N' x sc HP.objs.size s2 H2 fp) [(s2.heap.objs.size,{ cls:=.type "list",data:=.seq (List.toArray its) k })] (σx::σ) H' s' ∧
  Vals ys its∧tn i s'.heap∧(∀b∈fp,H' b=none)∧W i n ys H'
 have I4:Inv (nI X N' x sc HP.objs.size s2 H2 fp) [(s2.heap.objs.size,{ cls:=.type "list",data:=.seq (List.toArray []) 0 })] (none::σ) H2 { s2 with heap:=h₁,toks:=s2.toks+([]:List (Str×Value)).length }:=by
  refine Ap I2 S f2 qC xu (by simpa using hns₁) old fun p hp=>?_
  have e:p=(s2.heap.objs.size,{ cls:=.type "list",data:=.seq (List.toArray []) 0 }):=by simpa using hp
  subst e
  exact⟨Ce,RN,Cd,Cf,fun v=>by intro z;cases z⟩
 have loop:∀s₃:Shared,s₃={ s2 with heap:=h₁,toks:=s2.toks+([]:List (Str×Value)).length } →
   codeAny (model X.prog X.w) X.A (.compLoop (.ListComp elt [⟨.Name x px,iter,ifs,0⟩] sc pos) 0 (.ref it) (.ref s2.heap.objs.size) (compEnvC sc (bw sc.names X.env.cells []) HP.objs.size X.env))
    (RR (.ref s2.heap.objs.size) HP.objs.size) s₃:=by
  rintro s₃ rfl
  refine lH Iv ?_ m0 ⟨0,[],[],0,none,H2,I4,.nil,T.keep _ _ _ wX fun b _ o e=>old b o e,fun b hb=>(f2 b hb).1,w0⟩
  rintro n s3 ⟨i,ys,its,k,σx,H3,I3,rv,HX,HY,w3⟩
  have hy:=rv.length
  rcases turn i n ys H3 w3 with⟨stop,hz,q⟩|⟨go,hz,step⟩
  ·refine bG (T.done (nI X N' x sc HP.objs.size s2 H2 fp) rfl rfl rfl hc i _ s3 _ H3 _ I3 (oa HY) HX stop) fun r s4 ⟨hr,I4⟩=>?_
   subst hr
   have pD:=I4.pin (s2.heap.objs.size,{ cls:=.type "list",data:=.seq (List.toArray its) k }) (by simp[nI])
   have new:aX X.prog X.w (upd H3 s2.heap.objs.size (.lst ys)) s4.heap s2.heap.objs.size (.lst ys):=⟨hz,its,k,rv,pD.1⟩
   have B9:=I4.aR.kF (o:=.lst ys) pD.2.1 new
   have RP:Un (my X.stack) fp H2 (upd H3 s2.heap.objs.size (.lst ys)) s2.heap s4.heap:=I4.base.kF pD.2.1 (Heap.get?_none_of_le (Nat.le_refl _))
   have IX:Inv X pins σ (upd H3 s2.heap.objs.size (.lst ys)) s4:=I2.BG I4.os RP B9 I4.bare fun b hb=>⟨(f2 b hb).2.2.2.1,(f2 b hb).2.1,(f2 b hb).2.2.2.2.1,(f2 b hb).2.2.2.2.2⟩
   obtain⟨m,Cb,_⟩:=I4.loc
   refine RM _ _ s4 _ IX ?_ ⟨m,Cb⟩ (q _ pD.2.1)
   exact I2.uZ xu (by rw[av (Ne.symm Cd)];exact I4.free)
  ·refine bG (T.item (nI X N' x sc HP.objs.size s2 H2 fp) rfl rfl rfl hc i _ s3 _ H3 _ I3 (oa HY) HX go) fun r s4 ⟨u,hr,h4⟩=>?_
   subst hr
   refine bG h4 fun _ s5 ⟨y,H5,I5,r5,y5,BL,Mz⟩=>?_
   have MA:=I5.pinned (oa Mz) (T.obj _ _ BL)
   have Ci:=step y H5 y5
   have JQ:Inv (nI X N' x sc HP.objs.size s2 H2 fp) ([(s2.heap.objs.size,{ cls:=.type "list",data:=.seq (List.toArray its) k })]++i5 fp s5.heap) (none::σ) H5 s5:=MA.weak rfl fun j v e=>by
    cases j with
    | zero=>simp at e
    | succ j=>simpa using e
   have lx:(relabel sc X.env).names.lookup x=some .local:=lookup_relabel_local S.has
   have RQ:PG (nI X N' x sc HP.objs.size s2 H2 fp) (.Name x px) (aU 0):=aH (i:=0) (List.nodup_cons.mpr ⟨S.wU,S.nd⟩) rfl (Or.inl lx) (Or.inr lx)
   refine bG (RQ _ s5 (none::σ) H5 y u (fun σ6 H6=>σ6=some y::σ∧tt (some y::σ) H6 fun b H3=>if b=true then te (some y::σ) H3 fun y H4=>∃m',m'<n∧W (i+1) m' (ys++[y]) H4 else ∃m',m'<n∧W (i+1) m' ys H3) JQ r5 ⟨rfl,Ci⟩) fun _ s6 ⟨σ6,H6,I6,e6,q6⟩=>?_
   subst e6
   refine bG (ht _ s2 H2 fp _ s6 _ H6 _ I6 q6) fun b s7 ⟨H7,I7,q7⟩=>?_
   have vg:∀{H8:Hp}{s8:Shared},Inv (nI X N' x sc HP.objs.size s2 H2 fp) ([(s2.heap.objs.size,{ cls:=.type "list",data:=.seq (List.toArray its) k })]++i5 fp s5.heap) (some y::σ) H8 s8 →
     tn (i+1) s8.heap∧(∀b∈fp,H8 b=none):=fun {H8 s8} I8=>by
    refine⟨T.keep _ _ _ BL fun b hb o e=>(I8.pin (b,o) (mem_append_right _ (mem_append_right _ (eC hb e)))).1,fun b hb=>?_⟩
    obtain⟨o,e,d⟩:=T.obj _ _ BL b hb
    exact(I8.pin (b,o) (mem_append_right _ (mem_append_right _ (eC hb e)))).2.1
   cases b with
   | false =>
    obtain⟨m',hm,w7⟩:=q7
    obtain⟨t7,f7⟩:=vg I7
    exact⟨m',hm,i+1,ys,its,k,some y,H7,I7.i6,rv,t7,f7,w7⟩
   | true =>
    refine bG (he _ s2 H2 fp _ s7 _ H7 _ I7 q7) fun z s8 ⟨yv,H8,I8,r8,m',hm,w8⟩=>?_
    obtain⟨t8,f8⟩:=vg I8
    have pD:=I8.pin (s2.heap.objs.size,{ cls:=.type "list",data:=.seq (List.toArray its) k }) (by simp[nI])
    refine call_meets F.slot_list_append ⟨_,pD.1,rfl⟩ F.entry_list_append (F.args_list_append_2 _ _) (PySem.list_append s2.heap.objs.size its.toArray k z (by rw[List.size_toArray];omega)) ⟨pD.1,?_⟩
    have e9:=PySem.IsL.update pD.1 (fun a=>a.push z)
    rw[show its.toArray.push z=(its++[z]).toArray by simp] at e9
    obtain⟨k',e9⟩:∃k',(s8.heap.update s2.heap.objs.size (Obj.mapSeq fun a=>a.push z)).get? s2.heap.objs.size=some { cls:=.type "list",data:=.seq (its++[z]).toArray k' }:=⟨_,e9⟩
    have other:∀b,b≠s2.heap.objs.size→(s8.heap.update s2.heap.objs.size (Obj.mapSeq fun a=>a.push z)).get? b=s8.heap.get? b:=fun b hb=>Heap.get?_update_other _ _ (Ne.symm hb)
    have RS:Inv (nI X N' x sc HP.objs.size s2 H2 fp) [] (some y::σ) H8 s8:=I8.j5 fun p hp=>nomatch hp
    have I9:Inv (nI X N' x sc HP.objs.size s2 H2 fp) [] (some y::σ) H8 { s8 with heap:=s8.heap.update s2.heap.objs.size (Obj.mapSeq fun a=>a.push z) }:=by
     refine RS.turned (it:=s2.heap.objs.size) (fun b o hb e=>(other b hb).trans e) pD.2.1 Cd (.inr (Nat.le_refl _)) (fun y c e=>?_) fun p hp=>?_
     ·intro LN
      obtain⟨v,o,ho,_⟩:=I2.cell y c (dS S e).1
      exact absurd (Heap.lt_size ho) (by rw[LN];exact Nat.lt_irrefl _)
     ·simp[nI] at hp
    have RT:Inv (nI X N' x sc HP.objs.size s2 H2 fp) [(s2.heap.objs.size,{ cls:=.type "list",data:=.seq (List.toArray (its++[z])) k' })] (some y::σ) H8 { s8 with heap:=s8.heap.update s2.heap.objs.size (Obj.mapSeq fun a=>a.push z) }:=I9.j5 fun p hp=>by
     have e:=mem_singleton.mp hp
     subst e
     exact⟨e9,pD.2.1,Cd,Cf,fun v=>by intro z;cases z⟩
    have t9:tn (i+1) (s8.heap.update s2.heap.objs.size (Obj.mapSeq fun a=>a.push z)):=T.keep _ _ _ t8 fun b hb o e=>by
     rw[other b (by rintro rfl;exact Cg hb)];exact e
    exact⟨m',hm,i+1,ys++[yv],its++[z],k',some y,H8,RT,rv.append (.cons r8 .nil),t9,f8,w8⟩
 exact codeAny_compStart_list (loop _ rfl) (T.self X.A 0 _ _ _ (T.keep _ _ _ wX fun b _ o e=>old b o e) (loop _ rfl))
theorem gA {iter elt:Expr}{ifs:List Expr}{px pos:Pos}{wi:TI}{tt:TT}{te:TE}(hc:X.calm=true) (hN:X.N.Nodup) (S:jf X.N N' x sc X.env.scope) (hi:PI X (.Name x px) iter wi)
  (ht:∀C s2 H2 fp,vf (nI X N' x sc C s2 H2 fp) ifs tt) (he:∀C s2 H2 fp,PE (nI X N' x sc C s2 H2 fp) elt te) (hs:∀v,foldedSetIterable iter X.env v=pure v:=by intro _;rfl) :
  PE X (.ListComp elt [⟨.Name x px,iter,ifs,0⟩] sc pos) (Ig wi tt te):=by
 intro pins s σ H Q I h
 have vh:closureFor sc X.env=pure (bw sc.names X.env.cells []):=kU fun y hy hk=>I.ok.has _ (S.free y hy hk)
 rw[eval_ListComp]
 refine wpAny_comprehension_free (use:=none) rfl hs vh S.kind S.names (bG (hi pins s σ H _ I h) fun v s1 h1=>bG h1 fun Mt s2 h2=>?_)
 obtain⟨it,fp,tn,J,H2,e,I2,T,wX,f2,W,w0,turn⟩:=h2
 subst e
 refine rq (RR:=fun acc C=>compPost (model X.prog X.w) X.A X.xe none (EP X pins σ Q) acc C) hc hN S ht he I2 T wX f2 W w0 turn fun D C s' H' I' fC hn q=>?_
 obtain⟨m,hn⟩:=hn
 refine⟨m,hn,fun h' FP=>⟨.ref D,H',?_,rfl,q⟩⟩
 exact I'.turned (t':=s'.toks) (fun b o hb e=>(FP.2 b hb).trans e) fC.1 fC.2.1 fC.2.2.2.1 fC.2.2.2.2.1 fC.2.2.2.2.2
theorem sJ {i:Nat}{y:Str}{py MX:Pos}{iter elt:Expr}{ifs:List Expr}{px pos:Pos}{wi:TI}{tt:TT}{te:TE}(hc:X.calm=true) (hN:X.N.Nodup) (hyi:X.N[i]?=some y) (hy:X.env.scope.names.lookup y=some .local)
  (S:jf X.N N' x sc X.env.scope) (hi:PI X (.Name x px) iter wi)
  (ht:∀C s2 H2 fp,vf (nI X N' x sc C s2 H2 fp) ifs tt) (he:∀C s2 H2 fp,PE (nI X N' x sc C s2 H2 fp) elt te) (hs:∀v,foldedSetIterable iter X.env v=pure v:=by intro _;rfl)
  (hsw:swapsWith (.ListComp elt [⟨.Name x px,iter,ifs,0⟩] sc pos) (some (.Name y py)) MX.line X.env=pure true:=by rfl) :
  PS X (.Assign [.Name y py] (.ListComp elt [⟨.Name x px,iter,ifs,0⟩] sc pos) MX) (BK (Ig wi tt te) (aU i)):=by
 intro pins s σ H D I h
 have vh:closureFor sc X.env=pure (bw sc.names X.env.cells []):=kU fun y hy hk=>I.ok.has _ (S.free y hy hk)
 rw[exec_Assign_Name_used _ _ _ _ hsw]
 refine wpAny_bind (wpAny_standAt (wpAny_bind ?_))
 show wpAny _ X.A (do let _ ←comprehension (.ListComp elt [⟨.Name x px,iter,ifs,0⟩] sc pos) sc X.env _ (newList []) false (eval iter X.env) (some (assign (.Name y py) X.env))) _ _ s
 refine wpAny_bind (wpAny_mono (wpAny_comprehension_free (use:=some (assign (.Name y py) X.env)) (Q:=fun _ s'=>SP X pins D .next s') rfl hs vh S.kind S.names
  (bG (hi pins s σ H _ I h) fun v s1 h1=>bG h1 fun Mt s2 h2=>?_)) (fun _ s' hq=>wpAny_pure (wpAny_pure hq)) fun _ _ e=>e)
 obtain⟨it,fp,tn,J,H2,e,I2,T,wX,f2,W,w0,turn⟩:=h2
 subst e
 refine rq (RR:=fun acc C=>compPost (model X.prog X.w) X.A X.xe (some (assign (.Name y py) X.env)) (fun _ s'=>SP X pins D .next s') acc C) hc hN S ht he I2 T wX f2 W w0 turn fun Da C s' H' I' fC hn q=>?_
 obtain⟨m,hn⟩:=hn
 show wpAny _ X.A (assign (.Name y py) X.env (.ref Da)) _ _ _
 refine wpAny_assign_Name (qW I' hN hyi (Or.inl hy) (v:=.ref Da) rfl (fun ML I'' ⟨a,hsb,ha⟩=>?_) (Or.inr hy))
 have hCa:C≠a:=by
  rintro rfl
  rcases ha with z|z
  ·exact fC.2.1 z
  ·exact fC.2.2.2.2.1 _ _ z rfl
 refine⟨m,hn.sameBut hsb hCa,fun h' FP=>⟨_,H',?_,q⟩⟩
 exact I''.turned (t':=ML.toks) (fun b o hb e=>(FP.2 b hb).trans e) fC.1 fC.2.1 fC.2.2.2.1 fC.2.2.2.2.1 fC.2.2.2.2.2
end
theorem sL (o:Obj) (f:Array Value→Array Value):(o.mapFields f).dict=o.dict:=by unfold Obj.mapFields;split<;>rfl
noncomputable def sM (ap:Addr→Prop) (H:Hp) (h:Heap) (e:Addr) (cls:Value) (od:Option Addr):Prop :=
 H e=none∧ap e∧∃oe vs,h.get? e=some oe∧oe.cls=cls∧oe.dict=od∧oe.data = .fields vs∧1<vs.size∧vs[2]?=some .none ∧
  (vs[1]?=some .none∨∃T oT ts,vs[1]?=some (.ref T)∧T≠e∧H T=none∧ap T∧h.get? T=some oT∧oT.data = .fields ts∧ts[3]?=some .none)
theorem sM.weak {ap ap':Addr→Prop}{H:Hp}{h:Heap}{e:Addr}{cls:Value}{od:Option Addr}(x:sM ap H h e cls od) (ha:∀b,ap b→ap' b):sM ap' H h e cls od:=by
 obtain⟨x2,x3,oe,vs,x4,x5,xd,x6,x7,x9,x8⟩:=x
 refine⟨x2,ha e x3,oe,vs,x4,x5,xd,x6,x7,x9,?_⟩
 rcases x8 with z|⟨T,oT,ts,z1,z3,z4,z5,z6⟩
 ·exact .inl z
 ·exact .inr ⟨T,oT,ts,z1,z3,z4,ha T z5,z6⟩
theorem aX.there {P:Program}{w:World}{H:Hp}{h:Heap}{a:Addr}{o:HO}(x:aX P w H h a o):∃ob,h.get? a=some ob:=by
 cases o with
 | lst xs=>obtain⟨_,_,_,_,e⟩:=x;exact⟨_,e⟩
 | tup xs=>obtain⟨_,_,_,⟨o,e,_⟩⟩:=x;exact⟨_,e⟩
 | dK ar=>obtain⟨_,_,_,_,o,_,_,e,_⟩:=x;exact⟨_,e⟩
 | dT ar=>obtain⟨_,_,_,_,o,_,_,e,_⟩:=x;exact⟨_,e⟩
 | set S n=>obtain⟨o,_,_,_,e,_⟩:=x;exact⟨_,e⟩
 | ins C dx fs=>obtain⟨_,_,_,e,_⟩:=x;exact⟨_,e⟩
 | own y=>exact x
 | xd fs=>obtain⟨_,⟨_,_,_,e,_⟩,_⟩:=x;exact⟨_,e⟩
 | Py lo hi=>obtain⟨_,_,_,e⟩:=x;exact⟨_,e⟩
 | uS ob u=>obtain⟨e,_⟩:=x;exact⟨_,e⟩
 | ER ps=>exact⟨_,x⟩
 | met f y=>exact⟨_,x⟩
 | ext φ=>obtain⟨_,e,_⟩:=x;exact e
section
variable {M:Model}{A:Around}{E:Value→Shared→Prop}{s:Shared}
theorem yQ {base:Heap}{env:Env}{outer:List Env}{L e:Addr}{oe:Obj}{vs:Array Value}{head:Value}{FQ:Bool}{Q:Unit→Shared→Prop}
  (xv:A.frames=some (env::outer)) (hl:s.heap.FunFrames base (env::outer)) (hf:env.frame=some L) (he:s.heap.get? e=some oe) (hd:oe.data = .fields vs) (hsz:1<vs.size)
  (h:∀h' T oT ts,(∀b o,b≠e→b∉my (env::outer)→s.heap.get? b=some o→h'.get? b=some o)→(∀b o,b≠e→s.heap.get? b=some o→∃sl,h'.get? b=some { o with slots:=sl }) →
   h'.get? e=some (oe.mapFields (·.setIfInBounds 1 (.ref T)))→s.heap.objs.size≤T→h'.get? T=some oT→oT.data = .fields ts→ts[3]?=some .none→Q () { s with heap:=h' }) :
  wpAny M A (do let a ←frameOf env;let pl ←entryPlaceOf L FQ;let b ←EntryCells.newEntry head a .none (rawInt L) .none pl;setField (.ref e) 1 b) (fun _ s'=>wpAny M A (setFlight (.ref e) none) Q E s') E s:=by
 have RU:e∉(env::outer).filterMap (·.frame):=fun hm=>by
  obtain⟨_,o,ho,JR⟩:=hl.mem hm
  rw[he] at ho;injection ho with ho;subst ho;exact JR vs hd
 refine wpAny_bind (wpAny_frameOf_fun xv hl hf fun h1 Bv=>?_)
 refine wpAny_bind (wpAny_entryPlaceOf fun pl lG=>?_)
 unfold EntryCells.newEntry newFields
 refine wpAny_bind (wpAny_newObj_type ?_ (lG.sizeOk5 _ _ _ _ _))
 generalize P1:({ cls:=.type "traceback",dict:=none,data:=.fields ([head,.ref L,.none,rawInt L,.none]++(if pl.isEmpty then List.replicate 6 Value.none else pl)).toArray }:Obj)=ob
 have FR:ob.data = .fields ([head,.ref L,.none,rawInt L,.none]++(if pl.isEmpty then List.replicate 6 Value.none else pl)).toArray:=by rw[←P1]
 have RV:ob.isFreed=false:=Obj.isFreed_of_fields FR
 have he1:h1.get? e=some oe:=(Bv.2.1 e RU).trans he
 have P5:=Heap.get?_push_of_some (h:=h1) ob he1
 refine wpAny_setField P5 hd hsz ?_
 have hTe:h1.objs.size≠e:=Nat.ne_of_gt (Heap.lt_size he1)
 have hd3:=Obj.data_mapFields hd (·.setIfInBounds 1 (Value.ref h1.objs.size))
 have he3:=Heap.get?_update_self (Obj.mapFields (·.setIfInBounds 1 (Value.ref h1.objs.size))) P5 (Obj.isFreed_of_fields hd3)
 have hT3:=(Heap.get?_update_other (h1.push ob) (Obj.mapFields (·.setIfInBounds 1 (Value.ref h1.objs.size))) (Ne.symm hTe)).trans (Heap.get?_push_size h1 RV)
 unfold setFlight
 refine wpAny_bind (wpAny_field he3 hd3 (x:=.ref h1.objs.size) (by simp[hsz]) ?_)
 rw[if_pos (show (Value.ref h1.objs.size != Value.none)=true from by simp)]
 have MY:3<([head,.ref L,.none,rawInt L,.none]++(if pl.isEmpty then List.replicate 6 Value.none else pl)).toArray.size:=by
  simp only[List.size_toArray,length_append,List.length_cons,List.length_nil];omega
 refine wpAny_setField hT3 FR MY ?_
 have keep:∀b o,b≠e→h1.get? b=some o→((((h1.push ob).update e (Obj.mapFields (·.setIfInBounds 1 (Value.ref h1.objs.size)))).update h1.objs.size
   (Obj.mapFields (·.setIfInBounds 3 ((none:Option Addr).elim Value.none fun f=>rawInt f)))).get? b=some o):=fun b o Aa hb=>by
  have Ih:h1.objs.size≠b:=Nat.ne_of_gt (Heap.lt_size hb)
  rw[Heap.get?_update_other _ _ Ih,Heap.get?_update_other _ _ (Ne.symm Aa)]
  exact Heap.get?_push_of_some _ hb
 refine h _ h1.objs.size _ _ (fun b o Aa hbf hb=>keep b o Aa ((Bv.2.1 b hbf).trans hb)) (fun b o Aa hb=>?_) ?_ (Nat.le_of_eq Bv.1.symm)
  (Heap.get?_update_self _ hT3 (Obj.isFreed_of_fields (Obj.data_mapFields FR _))) (Obj.data_mapFields FR _) ?_
 ·obtain⟨sl,q⟩:=Bv.2.2 b o hb
  exact⟨sl,keep b _ Aa q⟩
 ·rw[Heap.get?_update_other _ _ hTe];exact he3
 ·rw[Array.getElem?_setIfInBounds_self_of_lt MY];rfl
theorem yR {base:Heap}{env:Env}{outer:List Env}{L e:Addr}{cls:Value}{od:Option Addr}{ap:Addr→Prop}{H:Hp}{Q:Unit→Shared→Prop}
  (xv:A.frames=some (env::outer)) (hl:s.heap.FunFrames base (env::outer)) (hf:env.frame=some L) (x:sM ap H s.heap e cls od) (sN:∀b,s.heap.objs.size≤b→H b=none∧ap b)
  (h:∀h',(∀b o,¬(H b=none∧ap b∧∃vs,o.data = .fields vs)→b∉my (env::outer)→s.heap.get? b=some o→h'.get? b=some o) →
   (∀b o,b∈my (env::outer)→s.heap.get? b=some o→∃sl,h'.get? b=some { o with slots:=sl })→(∀b o,s.heap.get? b=some o→∃o',h'.get? b=some o')→sM ap H h' e cls od→Q () { s with heap:=h' }) :
  wpAny M A (noteFrame (.ref e) env) (fun _ s'=>wpAny M A (setFlight (.ref e) none) Q E s') E s:=by
 obtain⟨x2,x3,oe,vs,x4,x5,xd,x6,x7,x9,x8⟩:=x
 have JS:∀b o vs,s.heap.get? b=some o→o.data = .fields vs→b∉my (env::outer):=fun b o vs ho hd hb=>by
  obtain⟨_,o',iU,JR⟩:=hl.mem hb
  rw[ho] at iU;cases iU;exact JR vs hd
 unfold noteFrame
 simp only[hf]
 rcases x8 with z|⟨T,oT,ts,z1,z3,z4,z5,z6,z7,z8⟩
 ·refine wpAny_bind (wpAny_field x4 x6 z ?_)
  rw[if_neg (by decide)]
  refine yQ xv hl hf x4 x6 x7 fun h' T oT ts k1 k2 k3 k4 k5 k6 k7=>h h' (fun b o n hb e=>?_) (fun b o hb e=>k2 b o (fun q=>JS _ _ _ x4 x6 (q▸hb)) e) (fun b o q=>?_) ?_
  ·refine k1 b o (fun q=>n ?_) hb e
   subst q
   rw[x4] at e;cases e
   exact⟨x2,x3,vs,x6⟩
  ·by_cases hb:b=e
   ·subst hb;exact⟨_,k3⟩
   ·obtain⟨sl,q'⟩:=k2 b o hb q;exact⟨_,q'⟩
  ·refine⟨x2,x3,_,_,k3,(Obj.cls_mapFields _ _).trans x5,(sL _ _).trans xd,Obj.data_mapFields x6 _,by simpa using x7,by rw[Array.getElem?_setIfInBounds_ne (by decide)];exact x9,.inr ⟨T,oT,ts,by simp[x7],?_,(sN T k4).1,(sN T k4).2,k5,k6,k7⟩⟩
   exact Nat.ne_of_gt (Nat.lt_of_lt_of_le (Heap.lt_size x4) k4)
 ·refine wpAny_bind (wpAny_field x4 x6 z1 ?_)
  rw[if_pos (show (Value.ref T != Value.none)=true from by simp)]
  refine wpAny_bind (wpAny_field z6 z7 z8 ?_)
  rw[if_neg (show ¬((Value.none == rawInt L)=true) from by simp[rawInt])]
  refine wpAny_bind (wpAny_setField z6 z7 (Array.getElem?_eq_some_iff.mp z8).1 ?_)
  have other:∀b,b≠T→(s.heap.update T (Obj.mapFields (·.setIfInBounds 3 Value.none))).get? b=s.heap.get? b:=fun b hb=>Heap.get?_update_other _ _ (Ne.symm hb)
  have JF:=Heap.get?_update_self (Obj.mapFields (·.setIfInBounds 3 Value.none)) z6 (Obj.isFreed_of_fields (Obj.data_mapFields z7 _))
  have hTd:=Obj.data_mapFields z7 (·.setIfInBounds 3 Value.none)
  have hsz:(s.heap.update T (Obj.mapFields (·.setIfInBounds 3 Value.none))).objs.size=s.heap.objs.size:=Heap.size_after_update ..
  refine yQ (s:={ s with heap:=s.heap.update T (Obj.mapFields (·.setIfInBounds 3 Value.none)) }) xv (hl.of_keeps fun b o hb JR=>⟨o,(other b fun q=>JR ts (by rw[q,z6] at hb;cases hb;exact z7)).trans hb,rfl⟩) hf ((other e (Ne.symm z3)).trans x4) x6 x7
   fun h' T' oT' Cj k1 k2 k3 k4 k5 k6 k7=>h h' (fun b o n hb e=>?_) (fun b o hb q=>?_) (fun b o q=>?_) ?_
  ·have Ih:b≠T:=fun q=>n (by subst q;rw[z6] at e;cases e;exact⟨z4,z5,ts,z7⟩)
   refine k1 b o (fun q=>n ?_) hb ((other b Ih).trans e)
   subst q
   rw[x4] at e;cases e
   exact⟨x2,x3,vs,x6⟩
  ·have Ih:b≠T:=fun q'=>JS _ _ _ z6 z7 (q'▸hb)
   exact k2 b o (fun q'=>JS _ _ _ x4 x6 (q'▸hb)) ((other b Ih).trans q)
  ·by_cases hb:b=e
   ·subst hb;exact⟨_,k3⟩
   ·by_cases Ih:b=T
    ·subst Ih
     obtain⟨sl,q'⟩:=k2 b _ hb JF;exact⟨_,q'⟩
    ·obtain⟨sl,q'⟩:=k2 b o hb ((other b Ih).trans q);exact⟨_,q'⟩
  ·have RW:s.heap.objs.size≤T':=by rw[←hsz];exact k4
   refine⟨x2,x3,_,_,k3,(Obj.cls_mapFields _ _).trans x5,(sL _ _).trans xd,Obj.data_mapFields x6 _,by simpa using x7,by rw[Array.getElem?_setIfInBounds_ne (by decide)];exact x9,.inr ⟨T',oT',Cj,by simp[x7],?_,(sN T' RW).1,(sN T' RW).2,k5,k6,k7⟩⟩
   exact Nat.ne_of_gt (Nat.lt_of_lt_of_le (Heap.lt_size x4) RW)
end
noncomputable abbrev XS:=Value→Option Addr→St→Hp→Prop
noncomputable def apart (X:Cx) (pins:List (Addr×Obj)) (b:Addr):Prop:=X.s₀.heap.get? b=none∧∀p∈X.pn++pins,p.1≠b
noncomputable def Rs (X:Cx) (E:XS):Prop:=∀(pins:List (Addr×Obj)) (σ:St) (H:Hp) (s:Shared) (e:Addr) (cls:Value) (od:Option Addr),Inv X pins σ H s→sM (apart X pins) H s.heap e cls od→E cls od σ H→X.xe (.ref e) s
noncomputable def FT (P:Program) (w:World):yJ:=fun outer H s E e s'=>∃a cls od H',e = .ref a∧s'.os=s.os∧AllBare s'.gens∧Un (my outer) [] H H' s.heap s'.heap∧gW P w H' s'.heap∧sM (fun b=>s.heap.get? b=none) H' s'.heap a cls od∧E cls od H'
section
variable {X:Cx}{pins:List (Addr×Obj)}{σ:St}{H H':Hp}{s s':Shared}{h':Heap}{e:Addr}{cls:Value}{od:Option Addr}
theorem Inv.young (I:Inv X pins σ H s):∀b,s.heap.objs.size≤b→H b=none∧apart X pins b:=fun b hb=>⟨I.aR.fresh hb,Heap.get?_none_of_le (Nat.le_trans I.sz hb),fun p hp z=>absurd (Nat.lt_of_lt_of_le (Heap.lt_size (I.pin p hp).1) (by rw[z];exact hb)) (Nat.lt_irrefl _)⟩
theorem Inv.rA {g':Array GenState}{t':Nat}{d':Drawn}{ch:List Addr}(I:Inv X pins σ H s)
  (wH:∀b∈ch,(b∈X.ex∨X.s₀.heap.get? b=none)∧b≠X.env.locals∧(∀x c,X.env.cells.lookup x=some c→c≠b)∧∀p∈X.pn++pins,p.1≠b)
  (keep:∀b o,b≠X.env.locals→b∉X.fs→b∉ch→s.heap.get? b=some o→H b=none→h'.get? b=some o)
  (slot:∀b o,b≠X.env.locals→b∈X.fs→b∉ch→s.heap.get? b=some o→H b=none→∃sl,h'.get? b=some { o with slots:=sl }) (free:∀b o,b∉ch→s.heap.get? b=some o→H b=none→H' b=none)
  (there:∀b o,b∉ch→s.heap.get? b=some o→∃o',h'.get? b=some o')
  (kL:∀b xs,H b=some (.tup xs)→H' b=some (.tup xs)) (kz:∀b o u,H b=some (.uS o u)→H' b=some (.uS o u)) (kO:∀b ps,H b=some (.ER ps)→∃more,H' b=some (.ER (ps++more)))
  (ns:∀m,s.heap.Ns X.env.locals m→h'.Ns X.env.locals m) (aR:gW X.prog X.w H' h') (hg:AllBare g') :
  Inv X pins σ H' { s with heap:=h',gens:=g',drawn:=d',toks:=t' }:=by
 have Mh:∀b o,X.s₀.heap.get? b=some o→b≠X.env.locals:=fun b o e=>Nat.ne_of_lt (Nat.lt_of_lt_of_le (Heap.lt_size e) I.ok.above)
 have Fl:∀b o,X.s₀.heap.get? b=some o→b∉X.ex→b∉ch:=fun b o e hx hb=>by
  rcases(wH b hb).1 with z|z
  ·exact hx z
  ·rw[z] at e;cases e
 have cellK:∀x c,X.env.cells.lookup x=some c→∀v,s.heap.IsCell c v→h'.IsCell c v:=fun x c e v ⟨o,ho,hd⟩=>by
  have BE:c∉ch:=fun z=>(wH c z).2.2.1 x c e rfl
  by_cases hc:c∈X.fs
  ·obtain⟨sl,q⟩:=slot c o (I.Ac x c e) hc BE ho (I.dC x c e)
   exact⟨_,q,hd⟩
  ·exact⟨o,keep c o (I.Ac x c e) hc BE ho (I.dC x c e),hd⟩
 have bs:Un X.fs X.ex X.H₀ H' X.s₀.heap h':=by
  refine⟨fun b o e n hb hx=>?_,fun b o e n hb hx=>?_,fun b o e n hx=>?_,fun b o e hx=>?_,fun b xs e=>kL b xs (I.base.kL b xs e),fun b o xs e=>kz b o xs (I.base.kz b o xs e),fun b ps e=>?_⟩
  ·exact keep b o (Mh b o e) hb (Fl b o e hx) (I.base.keep b o e n hb hx) (I.base.free b o e n hx)
  ·obtain⟨sl,e1⟩:=I.base.slot b o e n hb hx
   exact(slot b _ (Mh b o e) hb (Fl b o e hx) e1 (I.base.free b o e n hx)).elim fun Jm e2=>⟨Jm,e2⟩
  ·obtain⟨o',e1⟩:=I.base.there b o e hx
   exact free b o' (Fl b o e hx) e1 (I.base.free b o e n hx)
  ·obtain⟨o',e1⟩:=I.base.there b o e hx
   exact there b o' (Fl b o e hx) e1
  ·obtain⟨m1,e1⟩:=I.base.kO b ps e
   obtain⟨m2,e2⟩:=kO b _ e1
   exact⟨m1++m2,by rw[e2,Array.append_assoc]⟩
 refine⟨I.ok,I.os,hg,bs,?_,fun x c e=>?_,?_,fun x c e=>?_,fun p hp=>?_,aR,I.len⟩
 ·obtain⟨m,hn,hl⟩:=I.loc
  refine⟨m,ns m hn,fun i x v e1 e2 e3=>?_⟩
  obtain⟨u,r,l⟩:=hl i x v e1 e2 e3
  refine⟨u,r,?_⟩
  rcases l with l|⟨k,c,e,z⟩
  ·exact .inl l
  ·exact .inr ⟨k,c,e,cellK x c e _ z⟩
 ·obtain⟨v,z⟩:=I.cell x c e
  exact⟨v,cellK x c e v z⟩
 ·obtain⟨m,⟨o,_,_,ho,_⟩,_⟩:=I.loc
  exact free _ o (fun z=>(wH _ z).2.1 rfl) ho I.free
 ·obtain⟨v,o,ho,hd⟩:=I.cell x c e
  exact free c o (fun z=>(wH c z).2.2.1 x c e rfl) ho (I.dC x c e)
 ·obtain⟨e,n,ne,nf,d⟩:=I.pin p hp
  have BE:p.1∉ch:=fun z=>(wH p.1 z).2.2.2 p hp rfl
  exact⟨keep p.1 p.2 ne nf BE e n,free p.1 p.2 BE e n,ne,nf,d⟩
theorem FU {E:XS}{v:Value}(R:Rs X E) (hex:X.ex=[]) (I:Inv X pins σ H s) (h:FT X.prog X.w X.stack H s (fun c od H'=>E c od σ H') v s'):X.xe v s':=by
 obtain⟨a,cls,od,H',rfl,os,bare,un,aR,x,q⟩:=h
 have I':Inv X pins σ H' s':=I.BG (ch:=[]) os un aR bare (fun b z=>absurd z (by simp))
 refine R pins σ H' s' a cls od I' (x.weak fun b hb=>⟨?_,fun p hp z=>?_⟩) q
 ·cases g:X.s₀.heap.get? b with
  | none=>rfl
  | some o =>
   obtain⟨o',e⟩:=I.base.there b o g (by rw[hex];simp)
   rw[hb] at e;cases e
 ·have e:=(I.pin p hp).1
  rw[z,hb] at e;cases e
theorem gW.oz (I:Inv X pins σ H s) (k1:∀b o,¬(H b=none∧apart X pins b∧∃vs,o.data = .fields vs)→b∉my X.stack→s.heap.get? b=some o→h'.get? b=some o):gW X.prog X.w H h':=fun a o q=>by
 refine(I.aR a o q).iY (fun b u hb e=>k1 b u ?_ (fun z=>?_) e) (fun _ z=>z) fun _ _ z=>z
 ·rintro⟨n,_⟩
  rcases hb with rfl|hb
  ·rw[q] at n;cases n
  ·rw[hb] at n;cases n
 ·have n:=I.nP b z
  rcases hb with rfl|hb
  ·rw[q] at n;cases n
  ·rw[hb] at n;cases n
theorem MZ {P:Program}{w:World}{K:Frag}{mg:Str→Option Value}{base:Heap}{N:List Str}{qual:Str}{scope:Scope}{f:Addr}{cd:Value}{A:Around}{outer:List Env}{s0:Shared}{H0:Hp}{E:XK} :
  Rs (kS (FT P w) P w K mg base N qual scope f cd A outer s0 H0 E) (fun c od _ H'=>E c od H'):=by
 intro pins σ H s e cls od I x q
 show wpAny _ _ (leaving _ (.ref e)) _ _ s
 unfold leaving
 refine wpAny_bind (yR (L:=s0.heap.objs.size) I.ok.frames I.stack rfl x I.young fun h' k1 k2 k3 x'=>?_)
 refine⟨e,cls,od,H,rfl,I.os,I.bare,⟨fun b o e1 n hb hx=>?_,fun b o e1 n hb hx=>?_,I.base.free,fun b o e1 hx=>?_,I.base.kL,I.base.kz,I.base.kO⟩,gW.oz I k1,x'.weak fun b hb=>hb.1,q⟩
 ·refine k1 b o (fun z=>by have q0:=z.2.1.1;exact absurd (q0.symm.trans (show s0.heap.get? b=some o from e1)) (by simp)) (fun z=>?_) (I.base.keep b o e1 n hb hx)
  rcases List.mem_cons.mp (I.i0 b z) with y|y
  ·exact absurd (Nat.lt_of_lt_of_le (Heap.lt_size e1) (by rw[y];exact I.ok.above)) (Nat.lt_irrefl _)
  ·exact hb y
 ·obtain⟨sl,e2⟩:=I.base.slot b o e1 n hb hx
  obtain⟨Jm,e3⟩:=k2 b _ (mem_cons_of_mem _ hb) e2
  exact⟨Jm,e3⟩
 ·obtain⟨o',e2⟩:=I.base.there b o e1 hx
  exact k3 b o' e2
theorem Inv.oz (I:Inv X pins σ H s) (xv:X.stack=X.env::X.outer∧X.env.frame=some X.env.locals)
  (k1:∀b o,¬(H b=none∧apart X pins b∧∃vs,o.data = .fields vs)→b∉my X.stack→s.heap.get? b=some o→h'.get? b=some o)
  (k2:∀b o,b∈my X.stack→s.heap.get? b=some o→∃sl,h'.get? b=some { o with slots:=sl }) (k3:∀b o,s.heap.get? b=some o→∃o',h'.get? b=some o') {t':Nat}:Inv X pins σ H { s with heap:=h',toks:=t' }:=by
 classical
 have inL:∀b,b=X.env.locals∨b∈X.fs→b∈my X.stack:=fun b hb=>by
  rw[xv.1];unfold my;rw[List.filterMap_cons,xv.2]
  exact List.mem_cons.mpr hb
 let ch:List Addr:=(List.range s.heap.objs.size).filter fun b=>decide (H b=none∧apart X pins b∧∃o vs,s.heap.get? b=some o∧o.data = .fields vs)
 have RX:∀b o,b∉ch→s.heap.get? b=some o→¬(H b=none∧apart X pins b∧∃vs,o.data = .fields vs):=fun b o hb e z =>
  hb (mem_filter.mpr ⟨mem_range.mpr (Heap.lt_size e),decide_eq_true ⟨z.1,z.2.1,o,z.2.2.choose,e,z.2.2.choose_spec⟩⟩)
 have M0:∀b∈ch,H b=none∧apart X pins b∧∃o vs,s.heap.get? b=some o∧o.data = .fields vs:=fun b hb=>of_decide_eq_true (mem_filter.mp hb).2
 have fdata:∀b∈ch,∀o,s.heap.get? b=some o→∃vs,o.data = .fields vs:=fun b hb o e=>by
  obtain⟨_,_,o',vs,e',d⟩:=M0 b hb
  rw[e] at e';cases e';exact⟨vs,d⟩
 refine I.rA (g':=s.gens) (d':=s.drawn) (ch:=ch) (fun b hb=>?_) (fun b o hL hb hc e n=>?_) (fun b o hL hb hc e n=>?_) (fun b o hc e n=>n) (fun b o hc e=>k3 b o e) (fun _ _ e=>e) (fun _ _ _ e=>e) (fun b ps e=>⟨#[],by rw[e];simp⟩) (fun m hm=>?_) (gW.oz I k1) I.bare
 ·obtain⟨z2,z3,o,vs,e,d⟩:=M0 b hb
  refine⟨.inr z3.1,fun z=>?_,fun x c hc z=>?_,z3.2⟩
  ·obtain⟨m,⟨o',es,ep,iU,j4,_⟩,_⟩:=I.loc
   rw[z,iU] at e;cases e;rw[j4] at d;cases d
  ·obtain⟨v,o',iU,j4⟩:=I.cell x c hc
   rw[z,e] at iU;cases iU;rw[j4] at d;cases d
 ·refine k1 b o (RX b o hc e) (fun z=>?_) e
  rcases List.mem_cons.mp (I.i0 b z) with y|y
  ·exact hL y
  ·exact hb y
 ·exact k2 b o (inL b (.inr hb)) e
 ·obtain⟨o,es,ep,ho,r⟩:=hm
  obtain⟨sl,e⟩:=k2 _ o (inL _ (.inl rfl)) ho
  exact⟨_,es,ep,e,r⟩
theorem JT {M:Model}{A:Around}{E:Value→Shared→Prop}{ap:Addr→Prop}{Q:Unit→Shared→Prop}(x:sM ap H s.heap e cls od)
  (h:∀h',(∀b o,¬(H b=none∧ap b∧∃vs,o.data = .fields vs)→s.heap.get? b=some o→h'.get? b=some o)→(∀b o,s.heap.get? b=some o→∃sl,(¬∃vs,o.data = .fields vs)→h'.get? b=some { o with slots:=sl }) →
   (∀b o,s.heap.get? b=some o→∃o',h'.get? b=some o')→sM ap H h' e cls od→Q () { s with heap:=h' }):wpAny M A (setFlight (.ref e) none) Q E s:=by
 have x':=x
 obtain⟨x2,x3,oe,vs,x4,x5,xd,x6,x7,x9,x8⟩:=x
 unfold setFlight
 rcases x8 with z|⟨T,oT,ts,z1,z3,z4,z5,z6,z7,z8⟩
 ·refine wpAny_bind (wpAny_field x4 x6 z ?_)
  rw[if_neg (by decide)]
  exact wpAny_pure (h s.heap (fun _ _ _ q=>q) (fun b o q=>⟨o.slots,fun _=>q⟩) (fun b o q=>⟨o,q⟩) x')
 ·refine wpAny_bind (wpAny_field x4 x6 z1 ?_)
  rw[if_pos (show (Value.ref T != Value.none)=true from by simp)]
  have h3:3<ts.size:=(Array.getElem?_eq_some_iff.mp z8).1
  refine wpAny_setField z6 z7 h3 ?_
  have other:∀b,b≠T→(s.heap.update T (Obj.mapFields (·.setIfInBounds 3 ((none:Option Addr).elim Value.none fun f=>rawInt f)))).get? b=s.heap.get? b:=fun b hb=>Heap.get?_update_other _ _ (Ne.symm hb)
  have JF:=Heap.get?_update_self (Obj.mapFields (·.setIfInBounds 3 ((none:Option Addr).elim Value.none fun f=>rawInt f))) z6 (Obj.isFreed_of_fields (Obj.data_mapFields z7 _))
  refine h _ (fun b o n q=>(other b fun y=>n ?_).trans q) (fun b o q=>⟨o.slots,fun n=>(other b fun y=>n ?_).trans q⟩) (fun b o q=>?_) ?_
  ·subst y;rw[z6] at q;cases q;exact⟨z4,z5,ts,z7⟩
  ·subst y;rw[z6] at q;cases q;exact⟨ts,z7⟩
  ·by_cases hb:b=T
   ·subst hb;exact⟨_,JF⟩
   ·exact⟨o,(other b hb).trans q⟩
  ·exact⟨x2,x3,oe,vs,(other e (Ne.symm z3)).trans x4,x5,xd,x6,x7,x9,.inr ⟨T,_,_,z1,z3,z4,z5,JF,Obj.data_mapFields z7 _,by rw[Array.getElem?_setIfInBounds_self_of_lt h3];rfl⟩⟩
end
noncomputable def RY (sp:Sp) (mx:List V) (E:XS) (t:TA):TE:=fun σ H Q=>t σ H fun vs H1=>sp (vs++mx) H1 Q (fun c od H'=>E c od σ H')
section
variable {X:Cx}{k:Nat}{f C:Addr}{fd:FuncData}{ps:List Str}{sp:Sp}{mx:List V}{ds:List Value}{E:XS}{x m:Str}{p pos apos:Pos}{e o:Expr}{es:List Expr}{ta:TE}{t:TA}
theorem FV {pins:List (Addr×Obj)}{σ:St}{H:Hp}{s:Shared}{Q:VK}{us:List Value}{vs:List V}(F:fj X.prog X.w X.K X.mg X.base (FT X.prog X.w) k f fd ps sp) (hr:bK k X.A) (hb:Binds X.K fd ps ds) (hd:Vals mx ds) (hx:Rs X E) (hex:X.ex=[])
  (I:Inv X pins σ H s) (r:Vals vs us) (h:sp (vs++mx) H Q (fun c od H'=>E c od σ H')):wpAny (model X.prog X.w) X.A (call (.ref f) us) (EP X pins σ Q) X.xe s:=by
 have r2:Vals (vs++mx) (us++ds):=r.append hd
 have hl:(us++ds).length=ps.length:=by rw[←r2.length];exact F.len _ _ _ _ h
 refine wpAny_call (codeAny_mono (F.run X.A X.stack s H ⟨us,[]⟩ (us++ds) (vs++mx) Q _ hr I.Ak (hb s us I.iR hl) r2 h) fun r s' hq=>?_)
 cases r with
 | error v=>exact FU hx hex I hq
 | ok fl =>
  cases fl with
  | ret u=>exact I.after hq
  | next=>exact False.elim hq
  | brk=>exact False.elim hq
  | cont=>exact False.elim hq
end
section
variable {P:Program}{w:World}{K:Frag}{mg:Str→Option Value}{base:Heap}
theorem Bu.RZ {x qual:Str}{st:Stmt}{f:Addr}{fd:FuncData}{N ps:List Str}{k:Nat}{sp:Sp}(F:Bu K x qual st f fd) (S:az N ps (af st)) (len:∀vs H Q E,sp vs H Q E→vs.length=ps.length)
  (fV:∀(bf:Value) (A:Around) (outer:List Env) (s:Shared) (H:Hp) (vs:List V) (Q:VK) (E:XK),bK k (A.deeper (envOfC qual (af st) s.heap.objs.size f bf))→sp vs H Q E →
   Rs (kS (FT P w) P w K mg base N qual (af st) f bf A outer s H E) (fun c od _ H'=>E c od H') →
   ∃t,nQ (kS (FT P w) P w K mg base N qual (af st) f bf A outer s H E) (aw st) t∧t { nx:=fun _ H'=>Q .cK H',rt:=Q } (start N vs) H):fj P w K mg base (FT P w) (k+1) f fd ps sp:=by
 obtain⟨oc,od,kV,doc,pm,an,bf,ct,oh,rfl,lk,wQ⟩:=F.ex
 exact Ie lk wQ S len fun A outer s H vs Q E hr ET=>fV bf A outer s H vs Q E hr ET MZ
end
abbrev FW:List Value:=[.type "ValueError",.type "Exception",.type "BaseException",.type "object"]
noncomputable def R7 (C:Addr) (E:XS) (t:TA):TS:=fun _ σ H=>t σ H fun vs H1=>vs.length≤sizeLine∧E (.ref C) none σ H1
section
variable {X:Cx}{C:Addr}{x:Str}{np dc pos:Pos}{e:Expr}{es:List Expr}{t:TA}{E:XS}
theorem Inv.vi {pins:List (Addr×Obj)}{σ:St}{H:Hp}{s:Shared}(I:Inv X pins σ H s) (hex:X.ex=[]) {b:Addr}(hb:s.heap.get? b=none):H b=none∧apart X pins b:=by
 refine⟨?_,?_,fun p hp z=>?_⟩
 ·cases hH:H b with
  | none=>rfl
  | some o =>
   obtain⟨ob,e⟩:=(I.aR b o hH).there
   rw[hb] at e;cases e
 ·cases g:X.s₀.heap.get? b with
  | none=>rfl
  | some o =>
   obtain⟨o',e⟩:=I.base.there b o g (by rw[hex];simp)
   rw[hb] at e;cases e
 ·have e:=(I.pin p hp).1
  rw[z,hb] at e;cases e
end
noncomputable def kB (a:Addr) (cls:Value) (od:Option Addr:=none):HO:=.ext fun h=>∃o vs,h.get? a=some o∧o.cls=cls∧o.dict=od∧o.data = .fields vs∧vs[2]?=some .none
noncomputable def R9 (K:Frag) (C:Addr) (i:Nat) (tb:XS→TS) (th:Addr→TS):TS:=fun D σ H =>
 tb (fun cls od σ' H'=>PySem.W.exmOne K cls (.ref C)=some true∧∀a,H' a=none→th a { nx:=fun σ2 H2=>D.nx (σ2.set i none) H2,rt:=D.rt,bk:=fun σ2 H2=>D.bk (σ2.set i none) H2,ct:=fun σ2 H2=>D.ct (σ2.set i none) H2 } (σ'.set i (some (.ref a))) (upd H' a (kB a cls od))) D σ H
noncomputable def uL (X:Cx) (e:Addr):Cx:={ X with A:=X.A.mark (some (.ref e)),calm:=false,xe:=fun _ _=>False }
section
variable {X:Cx}{pins:List (Addr×Obj)}{σ:St}{H:Hp}{s:Shared}
theorem Inv.uL (I:Inv X pins σ H s) (e:Addr):Inv (L2.uL X e) pins σ H s :=
 ⟨⟨I.ok.mod,I.ok.kind,I.ok.glob,I.ok.blt,I.ok.above,I.ok.inj,I.ok.has,I.ok.Fj,fun h=>(by cases h),I.ok.frames,I.ok.HS,I.ok.LM,I.ok.bs,I.ok.uT,I.ok.qx,I.ok.uU,I.ok.iZ,I.ok.Bq⟩,I.os,I.bare,I.base,I.loc,I.cell,I.free,I.dC,I.pin,I.aR,I.len⟩
theorem Inv.M3 {X0:Cx}(aR:X0.Ok) {e:Addr}(I:Inv (L2.uL X0 e) pins σ H s):Inv X0 pins σ H s:=⟨aR,I.os,I.bare,I.base,I.loc,I.cell,I.free,I.dC,I.pin,I.aR,I.len⟩
noncomputable abbrev Cx.fH (X:Cx) (pn:List (Addr×Obj)) (E:Value→Shared→Prop):Cx:={ X with pn:=pn,xe:=E }
theorem Inv.fH (I:Inv X pins σ H s) (E:Value→Shared→Prop):Inv (X.fH (X.pn++pins) E) [] σ H s :=
 ⟨⟨I.ok.mod,I.ok.kind,I.ok.glob,I.ok.blt,I.ok.above,I.ok.inj,I.ok.has,I.ok.Fj,I.ok.hd,I.ok.frames,I.ok.HS,I.ok.LM,I.ok.bs,I.ok.uT,I.ok.qx,I.ok.uU,I.ok.iZ,I.ok.Bq⟩,I.os,I.bare,I.base,I.loc,I.cell,I.free,I.dC,fun p hp=>I.pin p (by simpa using hp),I.aR,I.len⟩
theorem Inv.fL {E:Value→Shared→Prop}{q:List (Addr×Obj)}(ok:X.Ok) (I:Inv (X.fH (X.pn++pins) E) q σ H s):Inv X pins σ H s :=
 ⟨ok,I.os,I.bare,I.base,I.loc,I.cell,I.free,I.dC,fun p hp=>I.pin p (mem_append_left _ hp),I.aR,I.len⟩
theorem Inv.drop {i:Nat}{n:Str}{h':Heap}{t':Nat}{v:Option Value}(I:Inv X pins σ H s) (hN:X.N.Nodup) (hi:X.N[i]?=some n) (hk:X.env.scope.names.lookup n=some .local)
  (hn:∀m,s.heap.Ns X.env.locals m→∃v,h'.Ns X.env.locals fun x=>if x=n then v else m x) (hs:Heap.SameBut X.env.locals s.heap h'):Inv X pins (σ.set i none) H { s with heap:=h',toks:=t' }:=by
 obtain⟨m,hm,hl⟩:=id I.loc
 obtain⟨v,BF⟩:=hn m hm
 have Ac:=I.Ac
 have up:∀b o,X.s₀.heap.get? b=some o→b≠X.env.locals:=fun b o e=>Nat.ne_of_lt (Nat.lt_of_lt_of_le (Heap.lt_size e) I.ok.above)
 refine⟨I.ok,I.os,I.bare,⟨fun b o e n hb hx=>(hs.2 b (up b o e)).trans (I.base.keep b o e n hb hx),fun b o e n hb hx=>?_,I.base.free,fun b o e hx=>?_,I.base.kL,I.base.kz,I.base.kO⟩,⟨_,BF,fun j y v' e1 e2 e3=>?_⟩,fun y c e=>?_,I.free,I.dC,fun p hp=>?_,fun b ob e=>?_,by simpa using I.len⟩
 ·obtain⟨sl,e1⟩:=I.base.slot b o e n hb hx
  exact⟨sl,(hs.2 b (up b o e)).trans e1⟩
 ·obtain⟨o',e1⟩:=I.base.there b o e hx
  exact⟨o',(hs.2 b (up b o e)).trans e1⟩
 ·by_cases hj:j=i
  ·subst hj
   rw[List.getElem?_set_self' ] at e2
   cases hq:σ[j]? with
   | none=>rw[hq] at e2;cases e2
   | some w'=>rw[hq] at e2;cases e2
  ·rw[List.getElem?_set_ne (Ne.symm hj)] at e2
   obtain⟨u',r',q⟩:=hl j y v' e1 e2 e3
   refine⟨u',r',?_⟩
   rcases q with⟨k,e⟩|⟨k,c,e,z⟩
   ·refine .inl ⟨k,?_⟩
    have:y≠n:=fun e=>hj (n8 hN e1 (e▸hi))
    simp[this,e]
   ·exact .inr ⟨k,c,e,z.sameBut hs (Ac y c e)⟩
 ·obtain⟨w',z⟩:=I.cell y c e
  exact⟨w',z.sameBut hs (Ac y c e)⟩
 ·obtain⟨e,n,ne,nf,d⟩:=I.pin p hp
  exact⟨(hs.2 p.1 ne).trans e,n,ne,nf,d⟩
 ·refine(I.aR b ob e).iY (fun c w' hc q=>(hs.2 c ?_).trans q) (fun _ q=>q) fun _ _ q=>q
  rintro rfl
  have f:=I.free
  rcases hc with rfl|hc
  ·rw[f] at e;cases e
  ·rw[f] at hc;cases hc
theorem JU {C:Addr}{x n:Str}{i:Nat}{np JV pos:Pos}{body:List Stmt}{b₀:Stmt}{Cp:List Stmt}{tb:XS→TS}{th:Addr→TS}(hex:X.ex=[]) (xv:X.stack=X.env::X.outer∧X.env.frame=some X.env.locals) (hN:X.N.Nodup)
  (hi:X.N[i]?=some n) (hk:X.env.scope.names.lookup n=some .local) (hg:Gl X x) (hm:X.mg x=some (.ref C)) (hb:∀pn xe E,Rs (X.fH pn xe) E→nQ (X.fH pn xe) body (tb E)) (hh:∀e,nQ (uL X e) (b₀::Cp) (th e))
  (og:(x == ("__debug__":Str))=false:=by decide):PS X (.Try body [.ExceptHandler (some (.Name x np)) (some n) (b₀::Cp) JV] [] [] pos) (R9 X.K C i tb th):=by
 intro pins s σ H D I h
 have ok:=I.ok
 have hkc:(X.env.scope.kind == .class||(X.env.scope.kind == .module&&X.env.locals != X.env.globals))=false:=by rw[I.ok.kind];rfl
 have FX:∀{σ2:St}{H2:Hp}{s2:Shared}{Q:Unit→Shared→Prop}{A:Around}{E:Value→Shared→Prop}{e:Addr},Inv (uL X e) pins σ2 H2 s2→(∀s3,Inv X pins (σ2.set i none) H2 s3→Q () s3) →
   wpAny (model X.prog X.w) A (do bindName X.env n .none;unbindBehindTheSuite X.env n JV) Q E s2:=fun {σ2 H2 s2 Q A E e} I2 q=>by
  have I2':=I2.M3 ok
  obtain⟨m,Cb,_⟩:=I2'.loc
  refine wpAny_nameGoes_keeps hk Cb hkc fun h' v BF FP=>?_
  refine q _ (I2'.drop (v:=v) hN hi hk (fun m' yS=>⟨v,?_⟩) FP)
  obtain⟨o,es,ep,ho,hd,Ca,Sa⟩:=BF
  obtain⟨o1,es1,ep1,JW,P6,hk1,hm1⟩:=Cb
  obtain⟨o2,es2,ep2,ho2,hd2,hk2,Sb⟩:=yS
  rw[JW] at ho2;cases ho2
  rw[P6] at hd2;cases hd2
  exact⟨o,es,ep,ho,hd,Ca,fun y=>by rw[Sa y];by_cases hy:y=n<;>simp[hy,←hm1,←Sb]⟩
 let M4:Value→Shared→Prop:=fun e s₁=>wpAny (model X.prog X.w) X.A (noteFrame e X.env) (fun _ s₂=>wpAny (model X.prog X.w) X.A (setFlight e none) (fun _ s₃=>wpAny (model X.prog X.w) X.A (handleBy e X.env [.ExceptHandler (some (.Name x np)) (some n) (b₀::Cp) JV]) (SP X pins D) X.xe s₃) X.xe s₂) X.xe s₁
 have R:Rs (X.fH (X.pn++pins) M4) (fun cls od σ' H'=>PySem.W.exmOne X.K cls (.ref C)=some true∧∀a,H' a=none→th a { nx:=fun σ2 H2=>D.nx (σ2.set i none) H2,rt:=D.rt,bk:=fun σ2 H2=>D.bk (σ2.set i none) H2,ct:=fun σ2 H2=>D.ct (σ2.set i none) H2 } (σ'.set i (some (.ref a))) (upd H' a (kB a cls od))):=by
  intro uV σ' H' s' e cls od I' x' ⟨q1,q2⟩
  show wpAny _ _ _ _ _ s'
  refine yR (L:=X.env.locals) (env:=X.env) (outer:=X.outer) (by rw[←xv.1];exact I.ok.frames) (by rw[←xv.1];exact I'.stack) xv.2 x' I'.young fun h1 k1 k2 k3 x1=>?_
  have I1:Inv (X.fH (X.pn++pins) M4) uV σ' H' { s' with heap:=h1 }:=I'.oz (t':=s'.toks) xv (fun b o n nb=>k1 b o n (by rw[←xv.1];exact nb)) (fun b o hb=>k2 b o (by rw[←xv.1];exact hb)) k3
  have J1:Inv X pins σ' H' { s' with heap:=h1 }:=I1.fL ok
  refine wpAny_handleBy_cons (codeAny_handlers_test ?_) (by intro z;cases z)
  refine gw (X:=uL X e) (J1.uL e) hg hm ?_ og
  have LT:PySem.W.Looks (model X.prog X.w) h1 (typeOf (.ref e)) cls:=by
   obtain⟨_,_,oe,_,y4,y5,_⟩:=x1
   exact y5▸(PySem.W.Looks.ld y4).andThen .now
  refine(PySem.W.exm_one (M:=model X.prog X.w) J1.iR LT q1).here ?_
  refine codeAny_handlers_suite_as ?_
  refine JT x1 fun h2 m1 m2 m3 x2=>?_
  have I2:Inv (X.fH (X.pn++pins) M4) uV σ' H' { s' with heap:=h2 }:=I1.oz (s:={ s' with heap:=h1 }) (t':=s'.toks) xv (fun b o n nb e=>m1 b o n e) (fun b o hb e=>by
   obtain⟨sl,z⟩:=m2 b o e
   refine⟨sl,z ?_⟩
   rintro⟨vs,hv⟩
   obtain⟨_,o',iU,JR⟩:=I1.stack.mem hb
   rw[e] at iU;cases iU;exact JR vs hv) m3
  have J2:Inv X pins σ' H' { s' with heap:=h2 }:=I2.fL ok
  have new:aX X.prog X.w (upd H' e (kB e cls od)) h2 e (kB e cls od):=by
   obtain⟨_,_,oe,vs,y4,y5,yd,y6,_,y7,_⟩:=x2
   exact⟨⟨oe,vs,y4,y5,yd,y6,y7⟩,⟨oe,y4⟩,fun ha hb ⟨o,vs,z1,z2,zd,z3,z4⟩ k=>⟨o,vs,k o z1,z2,zd,z3,z4⟩⟩
  have J3:Inv X pins σ' (upd H' e (kB e cls od)) { s' with heap:=h2 }:=J2.rA (s:={ s' with heap:=h2 }) (h':=h2) (g':=s'.gens) (d':=s'.drawn) (t':=s'.toks) (ch:=[e]) (fun b hb=>?_) (fun b o _ _ _ q _=>q) (fun b o _ _ _ q _=>⟨o.slots,q⟩) (fun b o hb q n=>?_)
   (fun b o _ q=>⟨o,q⟩) (fun b xs q=>by rw[av (aE q x2.1)];exact q) (fun b o u q=>by rw[av (aE q x2.1)];exact q) (fun b ps q=>⟨#[],by rw[av (aE q x2.1),q];simp⟩) (fun m hm=>hm) (J2.aR.kF x2.1 new) J2.bare
  ·refine n9 (X:=uL X e) (i:=i) (J3.uL e) hN hi (Or.inl hk) (v:=.ref e) rfl (fun s4 I4=>?_) (Or.inr hk)
   refine wpAny_mono (hh e pins s4 _ _ _ I4 (q2 e x2.1)) (fun f s5 q5=>?_) fun _ _ z=>z.elim
   cases f with
   | next=>obtain⟨σ5,H5,I5,q5⟩:=q5;exact FX I5 fun s6 I6=>⟨_,H5,I6,q5⟩
   | brk=>obtain⟨σ5,H5,I5,q5⟩:=q5;exact FX I5 fun s6 I6=>⟨_,H5,I6,q5⟩
   | cont=>obtain⟨σ5,H5,I5,q5⟩:=q5;exact FX I5 fun s6 I6=>⟨_,H5,I6,q5⟩
   | ret u=>obtain⟨v,σ5,H5,I5,r5,q5⟩:=q5;exact FX I5 fun s6 I6=>⟨v,_,H5,I6,r5,q5⟩
  ·have z:=mem_singleton.mp hb
   subst z
   obtain⟨y1,y2,oe,vs,y4,y5,_,y6,_⟩:=x2
   refine⟨.inr y2.1,fun z=>?_,fun y c hc z=>?_,fun p hp=>y2.2 p ?_⟩
   ·obtain⟨m,⟨o',es,ep,iU,j4,_⟩,_⟩:=J2.loc
    rw[z] at y4
    rw[show h2.get? X.env.locals=some o' from iU] at y4;cases y4;rw[j4] at y6;cases y6
   ·obtain⟨v,o',iU,j4⟩:=J2.cell y c hc
    rw[z] at iU
    rw[show h2.get? _=some o' from iU] at y4;cases y4;rw[j4] at y6;cases y6
   ·exact mem_append_left _ hp
  ·rw[av (by intro z;exact hb (by simp[z]))];exact n
 refine wpAny_Try_except (wpAny_mono (hb (X.pn++pins) M4 _ R [] s σ H D (I.fH M4) h) (fun f s1 q=>?_) fun _ _ q=>q)
 cases f with
 | next=>obtain⟨σ5,H5,I5,q5⟩:=q;exact wpAny_execs_nil ⟨σ5,H5,I5.fL ok,q5⟩
 | brk=>obtain⟨σ5,H5,I5,q5⟩:=q;exact⟨σ5,H5,I5.fL ok,q5⟩
 | cont=>obtain⟨σ5,H5,I5,q5⟩:=q;exact⟨σ5,H5,I5.fL ok,q5⟩
 | ret u=>obtain⟨v,σ5,H5,I5,r5,q5⟩:=q;exact⟨v,σ5,H5,I5.fL ok,r5,q5⟩
end
section
variable {prog:Program}{w:World}{A:Around}{E:Value→Shared→Prop}{h:Heap}{g:Array GenState}{d:Drawn}{t:Nat}{os:OsState}{a C:Addr}{o:Obj}{K:Frag}
structure lJ (K:Frag) (C:Addr):Prop where
 ga:PySem.W.findIn K (.ref C) "__getattribute__"=some (some (.builtin "BaseException.__getattribute__"))
 gt:PySem.W.findIn K (.ref C) "__getattr__"=some none
 cl:PySem.W.findIn K (.ref C) "__class__"=some (some (.builtin "object.__class__"))
 be:PySem.W.subIn K (.ref C) (.type "BaseException")=some true
 ob:PySem.W.subIn K (.ref C) (.type "object")=some true
 is:(PySem.W.clsIn K C).isSome=true
theorem JX {R:Result→Shared→Prop}(X:K.In h) (c:lJ K C) (hx:h.get? a=some o) (hc:o.cls = .ref C) (hq:R (.ok (.ret (.ref C))) ⟨h,g,d,t,os⟩) :
  codeAny (model prog w) A (.call (.builtin "getset_descriptor.__get__") ⟨[.builtin "object.__class__",.ref a,.ref C],[]⟩) R ⟨h,g,d,t,os⟩:=by
 have LQ:(⟨h,g,d,t,os⟩:Shared).TypeIs (.builtin "object.__class__") "getset_descriptor":=F.typeOf_object_class
 have hs:PySem.W.Looks (model prog w) h (isSubtype (.ref C) (.type (".".intercalate ("object.__class__".cutAt '.').dropLast))) true:=by
  rw[F.owner_object_class];exact PySem.W.looks_subIn X c.ob
 refine codeAny_call_builtin F.slot_gs_get.plain F.entry_gs_get (F.slot_gs_get.check _ _ _ _ _ _ _ _ LQ (F.args_gs_get _ _ _) ?_)
 repeat (any_goals (first|assumption|(with_reducible refine wpAny_loadPart_at hx ?_;rw[hc])|with_reducible refine hs.at ?_|wp_step))
 refine⟨Code.quiet_builtin _ (by decide +kernel),codeAny_builtin F.entry_object_class ?_⟩
 repeat (any_goals (first|assumption|(with_reducible refine wpAny_loadPart_at hx ?_;rw[hc])|wp_step))
theorem Cq {tk:Tok}{Q:Fin→Shared→Prop}(X:K.In h) (c:lJ K C) (hx:h.get? a=some o) (hc:o.cls = .ref C) (hq:Q (.done (.ret (.ref C))) ⟨h,g,d,t,os⟩) :
  wpAny (model prog w) A (Builtin.«object.__getattribute__» ⟨[.ref a,.str "__class__" tk],[]⟩) Q E ⟨h,g,d,t,os⟩:=by
 have LQ:(⟨h,g,d,t,os⟩:Shared).TypeIs (.builtin "object.__class__") "getset_descriptor":=F.typeOf_object_class
 have hl:PySem.W.Looks (model prog w) h (typeLookup (.ref C) "__class__") (some (.builtin "object.__class__")):=PySem.W.looks_findIn X c.cl
 have f5:=F.typeOf_object_class
 have f6:=F.slot_gs_get.lookup
 have f7:=F.slot_gs_set.lookup
 repeat (any_goals (first|assumption|(with_reducible refine wpAny_loadPart_at hx ?_;rw[hc])|with_reducible refine hl.at ?_|wp_step))
 refine JX X c hx hc ?_
 repeat (any_goals (first|assumption|wp_step))
theorem vj {M:Model}{Ii:Value}{Q:Unit→Shared→Prop}(X:K.In h) (c:lJ K C) (hx:h.get? a=some o) (hc:o.cls = .ref C) (hq:Q () ⟨h,g,d,t,os⟩) :
  wpAny M A (checkBuiltinCall "BaseException.__getattribute__" ⟨[.ref a,Ii],[]⟩) Q E ⟨h,g,d,t,os⟩:=by
 have hk:builtinKind "BaseException.__getattribute__"=some .slot:=by decide +kernel
 have JY:splitId "BaseException.__getattribute__"=some ("BaseException","__getattribute__"):=by decide +kernel
 have hs:PySem.W.Looks M h (isSubtype (.ref C) (.type "BaseException")) true:=PySem.W.looks_subIn X c.be
 have ha:=F.args_bexc_ga (.ref a) Ii
 simp only[checkBuiltinCall,hk,JY]
 refine wpAny_bind ?_
 unfold isInstance
 repeat (first|(with_reducible refine wpAny_loadPart_at hx ?_;rw[hc])|with_reducible refine hs.at ?_|wp_step)
 exact hq
theorem FY {tk:Tok}{R:Result→Shared→Prop}(X:K.In h) (c:lJ K C) (hx:h.get? a=some o) (hc:o.cls = .ref C) (hq:R (.ok (.ret (.ref C))) ⟨h,g,d,t,os⟩) :
  codeAny (model prog w) A (.call (.builtin "BaseException.__getattribute__") ⟨[.ref a,.str "__class__" tk],[]⟩) R ⟨h,g,d,t,os⟩ :=
 codeAny_call_builtin F.attr_ValueError.ga.plain F.entry_bexc_ga (vj X c hx hc (Cq X c hx hc hq))
theorem M5 {tk:Tok}{Q:Value→Shared→Prop}(X:K.In h) (c:lJ K C) (hx:h.get? a=some o) (hc:o.cls = .ref C) (hq:Q (.ref C) ⟨h,g,d,t,os⟩) :
  wpAny (model prog w) A (getAttrBy (.ref a) (.str "__class__" tk) false) Q E ⟨h,g,d,t,os⟩:=by
 have f3:=F.attr_ValueError.ga.bind (.ref a)
 have P7:(false&&onTheHeap (Value.builtin "BaseException.__getattribute__"))=false:=rfl
 have Sd:(Value.builtin "BaseException.__getattribute__" == Value.builtin "object.__getattribute__")=false:=by decide +kernel
 have hx1:(onTheHeap (Value.ref C)&&Value.builtin "BaseException.__getattribute__" == Value.builtin "object.__getattribute__")=false:=by rw[Sd];rfl
 have l1:PySem.W.Looks (model prog w) h (typeLookup (.ref C) "__getattribute__") (some (.builtin "BaseException.__getattribute__")):=PySem.W.looks_findIn X c.ga
 have l2:PySem.W.Looks (model prog w) h (typeLookup (.ref C) "__getattr__") none:=PySem.W.looks_findIn X c.gt
 repeat (any_goals (first|assumption|(with_reducible refine wpAny_loadPart_at hx ?_;rw[hc])|with_reducible refine l1.at ?_|with_reducible refine l2.at ?_|wp_step))
 refine FY X c hx hc ?_
 repeat (any_goals (first|assumption|wp_step))
theorem FZ {Q:Option Value→Shared→Prop}(X:K.In h) (c:lJ K C) (hx:h.get? a=some o) (hc:o.cls = .ref C) (hq:Q (some (.ref C)) ⟨h,g,d,t+1,os⟩):wpAny (model prog w) A (getAttr? (.ref a) "__class__") Q E ⟨h,g,d,t,os⟩:=by
 unfold getAttr? getAttrBy?
 repeat (any_goals (first|assumption|with_reducible apply M5 X c hx hc|wp_step))
theorem Cr {od:Option Addr}(c:lJ K C):PySem.W.KitX K (.ref a) (.ref C) (fun h=>∃o vs,h.get? a=some o∧o.cls = .ref C∧o.dict=od∧o.data = .fields vs∧vs[2]?=some .none) where
 ty:=fun _ _ _ ⟨o,vs,h1,h2,_⟩=>h2▸(PySem.W.Looks.ld h1).andThen .now
 it:=fun _ _ X _=>by
  have BS:=c.is
  unfold PySem.W.clsIn at BS
  split at BS
  ·rename_i c' d' cd' Jm ho
   intro A' Q' E' s' k q
   unfold isType loadHead
   exact wpAny_bind (wpAny_loadPart (k _ _ (X _ _ ho)) (wpAny_pure q))
  ·cases BS
 ne:=fun h tp dd its n sl X htp=>by
  have BS:=c.is
  refine Bool.eq_false_iff.mpr fun q=>?_
  have e:C=tp:=Value.ref.inj (beq_iff_eq.mp q)
  subst e
  unfold PySem.W.clsIn at BS
  split at BS
  ·rename_i c' d' cd' Jm ho
   have z:=(X _ _ ho).symm.trans htp
   cases z
  ·cases BS
 ca:=fun {_ _ _ _ _ s} X ⟨o,vs,h1,h2,_⟩ k=>by
  obtain⟨h,g,d,t,os⟩:=s
  exact FZ X c h1 h2 k
end
section
variable {X:Cx}
inductive M6 (K:Frag) (H:Hp):V→Value→Prop where
 | of {x:V}{t:Value}(h:mD K H x t):M6 K H x t
 | exc {a C:Addr}{od:Option Addr}(e:H a=some (kB a (.ref C) od)) (c:lJ K C):M6 K H (.ref a) (.ref C)
noncomputable def Se:V→Option Value
 | .ref a=>some (.ref a)
 | .ty n=>some (.type n)
 | _=>none
noncomputable def M7 (K:Frag):List V→Hp→VK→Prop:=fun xs H Q=>∃x c t cv b,xs=[x,c]∧Se c=some cv∧M6 K H x t∧PySem.W.kitOne K t cv=some b∧Q (.bl b) H
theorem Cs:fF X (.builtin "isinstance") (M7 X.K):=by
 intro pins s σ H xs us Q I r h
 obtain⟨x,c,t,cv,b,rfl,rc,ty,kt,q⟩:=h
 obtain⟨u,w',rfl,ru,yN⟩:=vals2 r
 have ecv:w'=cv:=by
  cases c with
  | ref a=>cases yN;exact Option.some.inj rc
  | ty n=>cases yN;exact Option.some.inj rc
  | cK=>cases rc
  | bl _=>cases rc
  | int _=>cases rc
  | str _=>cases rc
  | wG _=>cases rc
  | Fd _=>cases rc
 subst ecv
 cases ty with
 | of ty=>exact Aj I ru ty kt fun tk=>⟨.bl b,H,I.tok tk,rfl,q⟩
 | @exc a C od e c =>
  cases (show u=Value.ref a from ru)
  obtain⟨p,_,_⟩:=(show aX X.prog X.w H s.heap a (kB a (.ref C) od) from I.aR a _ e)
  exact PySem.W.kia_one (Cr c) I.iR p kt (fun z=>nomatch z) fun tk=>⟨.bl b,H,I.tok tk,rfl,q⟩
noncomputable def Aq:List V→List V→Bool
 | [],[]=>true
 | x::xs,y::ys=>Bt x y&&Aq xs ys
 | _,_=>false
theorem Ar:∀(xs ys:List V),Aq xs ys=(xs.length == ys.length&&(List.range xs.length).all fun j=>match xs[j]?,ys[j]? with|some x,some y=>Bt x y|_,_=>true)
 | [],[]=>rfl
 | [],_::_=>rfl
 | _::_,[]=>rfl
 | x::xs,y::ys=>by
  rw[Aq,Ar xs ys]
  simp only[List.length_cons,List.range_succ_eq_map,List.all_cons,List.all_map]
  have h1:(xs.length+1 == ys.length+1)=(xs.length == ys.length):=by
   by_cases h:xs.length=ys.length
   ·simp[h]
   ·have:¬xs.length+1=ys.length+1:=by omega
    simp[h]
  rw[h1]
  simp only[List.getElem?_cons_zero,Function.comp_def,List.getElem?_cons_succ]
  cases Bt x y<;>cases (xs.length == ys.length)<;>simp
noncomputable def rEqSq (K:Frag) (neg:Bool):R2:=fun x y H Q=>∃p q xs ys,x = .ref p∧y = .ref q∧((cC K H p xs∧cC K H q ys)∨(fh K H p xs∧fh K H q ys))∧xs.all gy=true∧ys.all gy=true∧Q (.bl (if neg then !Aq xs ys else Aq xs ys)) H
noncomputable def Ij (i j:Int):Prop:=j≠0∧j.natAbs<2^4000
theorem log2_small {n:Nat}(h:n<2^4000):n.log2<9000:=by
 by_cases hn:n=0
 ·subst hn;decide
 ·have:=(Nat.log2_lt hn).mpr h
  omega
theorem cM:kQ X (binaryOp .FloorDiv) (rI Ij fun i j=>.int (i.fdiv j)):=LO fun _ _ _ _ _ _ _ hc q=>floordiv_int hc.1 q (.inl (PyProof.noPylong_of_log2 (log2_small hc.2)))
noncomputable def M8 (i j:Int):Prop:=i.natAbs<2^4000∧j.natAbs<2^4000
theorem bM:kQ X (binaryOp .Mult) (rI M8 fun i j=>.int (i*j)):=LO fun _ _ _ _ _ _ _ hc q=>mul_int q (IntMulOk.of_le (PySem.intBits_le_iff.mpr hc.1) (PySem.intBits_le_iff.mpr hc.2) (by decide))
end
structure Def (K:Frag) (mg:Str→Option Value) (x:Str) (st:Stmt) (ps:List Str):Prop where
 ex:∃(f:Addr) (fd:FuncData),Bu K x x st f fd∧mg x=some (.ref f)∧Binds K fd ps []
structure bR (P:Program) (w:World) (K:Frag) (mg:Str→Option Value) (base:Heap) (CX:yJ) (k:Nat) (x:Str) (ps:List Str) (sp:Sp):Prop where
 ex:∃(f:Addr) (fd:FuncData),fj P w K mg base CX k f fd ps sp∧mg x=some (.ref f)∧keepIn K (.ref f)=true∧Binds K fd ps []
section
variable {P:Program}{w:World}{K:Frag}{mg:Str→Option Value}{base:Heap}{x:Str}{st:Stmt}{ps N:List Str}{sp:Sp}{k:Nat}
theorem Def.ok (D:Def K mg x st ps) (S:az N ps (af st)) (len:∀vs H Q E,sp vs H Q E→vs.length=ps.length)
  (fV:∀(f:Addr) (bf:Value) (A:Around) (outer:List Env) (s:Shared) (H:Hp) (vs:List V) (Q:VK) (E:XK),bK k (A.deeper (envOfC x (af st) s.heap.objs.size f bf))→sp vs H Q E →
   ∃t,nQ (kS bu P w K mg base N x (af st) f bf A outer s H E).wU (aw st) t∧t { nx:=fun _ H'=>Q .cK H',rt:=Q } (start N vs) H):bR P w K mg base bu (k+1) x ps sp:=by
 obtain⟨f,fd,F,hm,hb⟩:=D.ex
 exact⟨f,fd,F.ok S len (fun bf A outer s H vs Q E hr h=>fV f bf A outer s H vs Q E hr h),hm,F.kp,hb⟩
theorem aT {h:Heap}{f:Addr}{oc:Value}{od an:Option Addr}{oh:Array (Option Value)}{kV doc pm bf ct:Value}(X:K.In h) (G:h.Ns mainGlobals mg) (a:nsIn K mainGlobals x=some (some (.ref f)))
  (l:K.lookup f=some ⟨oc,od,.func (fnOf x x (ax st) (aw st) (af st) .none kV doc pm an bf ct),oh⟩) (c:codeIn K bf x=true) (kp:keepIn K (.ref f)=true)
  (hb:∀(kV doc pm:Value) (an:Option Addr) (bf ct:Value) (us:List Value),us.length=ps.length→bindArgs (fnOf x x (ax st) (aw st) (af st) .none kV doc pm an bf ct) ⟨us,[]⟩=pure (ps.zip us)):Def K mg x st ps:=by
 have F:=ot (st:=st) l c kp
 exact⟨f,_,F,PySem.W.mg_of X G a,F.binds hb⟩
end
section
variable {X:Cx}{k:Nat}{x:Str}{ps:List Str}{sp:Sp}{p pos:Pos}{e:Expr}{es:List Expr}{t:TA}
theorem aC (C:bR X.prog X.w X.K X.mg X.base bu k x ps sp) (hr:bK k X.A) (ha:PA X (e::es) t) (hg:Gl X x:=by rfl) (og:(x == ("__debug__":Str))=false:=by decide)
  (he:starEach (e::es) X.env=(false,eval e X.env)::starEach es X.env:=by rfl) (lG:(backTo pos (starEach es X.env)).any (·.1)=false:=by rfl) :
  PE X (.Call (.Name x p) (e::es) [] pos) (Ib sp [] E0 t):=by
 obtain⟨f,fd,F,hm,kp,hb⟩:=C.ex
 exact Fx F hr hg hm kp hb .nil yP ha og he lG
end
theorem bK.sub {j k:Nat}{A:Around}(r:bK k A) (h:j≤k:=by decide):bK j A:=r.mono h
theorem ao.new {H:Hp}{p:Addr}{o:HO}(h:H p=none):ao H (upd H p o):=fun b u e=>by rw[av (aE e h)];exact e
theorem ao.upd {H H':Hp}{p:Addr}{o:HO}(s:ao H H') (h:H p=none):ao H (L2.upd H' p o):=fun b u e=>by rw[av (aE e h)];exact s b u e
theorem ao.tup {K:Frag}{H H':Hp}{a:Addr}{xs:List V}(e:ao H H') (h:fh K H a xs):fh K H' a xs:=by
 rcases h with(h|⟨o,h⟩)|h
 ·exact .inl (.inl (e _ _ h))
 ·exact .inl (.inr ⟨o,e _ _ h⟩)
 ·exact .inr h
noncomputable abbrev zV (ns:List Int):List V:=ns.map V.int
theorem M9 {ns:List Int}{i:Nat}{n:Int}(h:ns[i]?=some n):Bs (zV ns) (i:Int)=some (.int n):=sD (by rw[getElem?_map,h];rfl)
theorem dI:(1000000:Nat)≤sizeLine:=by rw[sizeLine_eq];decide
theorem xw {K:Frag}{a:Addr}{xs:List V}{tt:TT}{te:TE}{σ:St}{H:Hp}{Q:VK}(c:V→Bool) (f:V→V) (hl:cC K H a xs) (hz:xs.length≤sizeLine)
  (ht:∀(i:Nat) x H' Q',xs[i]?=some x→ao H H'→(∀nj,ao H' nj→Q' (c x) nj)→tt (some x::σ) H' Q')
  (he:∀(i:Nat) x H' Q',xs[i]?=some x→c x=true→ao H H'→(∀nj,ao H' nj→Q' (f x) nj)→te (some x::σ) H' Q')
  (hd:∀p H',ao H H'→H p=none→H' p=some (.lst ((xs.filter c).map f))→Q (.ref p) H'):∃W,(∃m,W 0 m [] H)∧oy (Jt K a) tt te σ Q W:=by
 refine⟨fun i m ys H'=>m=xs.length-i∧i≤xs.length∧ys=((xs.take i).filter c).map f∧ao H H',⟨xs.length,by simp,Nat.zero_le _,by simp,.refl H⟩,?_⟩
 rintro i m ys H' ⟨rfl,hi,rfl,s⟩
 have q:=s.seq hl
 have hlen:(((xs.take i).filter c).map f).length≤i:=by
  rw[length_map];exact Nat.le_trans (List.length_filter_le _ _) (by rw[length_take];omega)
 by_cases bZ:i<xs.length
 ·refine .inr ⟨⟨xs,xs[i],q,by simp[bZ]⟩,by omega,fun x H2 y=>?_⟩
  obtain⟨e,y⟩:=y
  subst e
  have hx:=y xs q
  refine ht i x _ _ hx s fun H3 s3=>?_
  cases hc:c x with
  | true =>
   rw[if_pos rfl]
   refine he i x _ _ hx hc (s.trans s3) fun nj s'=>⟨xs.length-(i+1),by omega,rfl,bZ,?_,(s.trans s3).trans s'⟩
   rw[take_add_one,hx];simp[hc]
  | false =>
   rw[if_neg (by decide)]
   refine⟨xs.length-(i+1),by omega,rfl,bZ,?_,s.trans s3⟩
   rw[take_add_one,hx];simp[hc]
 ·have e:i=xs.length:=by omega
  subst e
  refine .inl ⟨⟨xs,q,Nat.le_refl _⟩,by omega,fun p hp=>hd p _ (s.upd (s.free hp)) (s.free hp) ?_⟩
  rw[ah,take_length]
theorem nr {n:Nat}{tt:TT}{te:TE}{σ:St}{H:Hp}{Q:VK}(c:Nat→Bool) (f:Nat→V) (hz:n≤sizeLine)
  (ht:∀i H' Q',i<n→ao H H'→(∀nj,ao H' nj→Q' (c i) nj)→tt (some (.int (0+(i:Int)))::σ) H' Q')
  (he:∀i H' Q',i<n→c i=true→ao H H'→(∀nj,ao H' nj→Q' (f i) nj)→te (some (.int (0+(i:Int)))::σ) H' Q')
  (hd:∀p H',ao H H'→H p=none→H' p=some (.lst (((List.range n).filter c).map f))→Q (.ref p) H'):∃W,(∃m,W 0 m [] H)∧oy (Fq 0 n) tt te σ Q W:=by
 refine⟨fun i m ys H'=>m=n-i∧i≤n∧ys=((List.range i).filter c).map f∧ao H H',⟨n,by simp,Nat.zero_le _,by simp,.refl H⟩,?_⟩
 rintro i m ys H' ⟨rfl,hi,rfl,s⟩
 have hlen:(((List.range i).filter c).map f).length≤i:=by
  rw[length_map];exact Nat.le_trans (List.length_filter_le _ _) (by rw[length_range];omega)
 by_cases bZ:i<n
 ·refine .inr ⟨bZ,by omega,fun x H2 y=>?_⟩
  obtain⟨e,y⟩:=y
  subst e y
  refine ht i _ _ bZ s fun H3 s3=>?_
  cases hc:c i with
  | true =>
   rw[if_pos rfl]
   refine he i _ _ bZ hc (s.trans s3) fun nj s'=>⟨n-(i+1),by omega,rfl,bZ,?_,(s.trans s3).trans s'⟩
   rw[List.range_succ];simp[hc]
  | false =>
   rw[if_neg (by decide)]
   refine⟨n-(i+1),by omega,rfl,bZ,?_,s.trans s3⟩
   rw[List.range_succ];simp[hc]
 ·have e:i=n:=by omega
  subst e
  refine .inl ⟨Nat.le_refl _,by omega,fun p hp=>hd p _ (s.upd (s.free hp)) (s.free hp) ?_⟩
  rw[ah]
theorem kW:bootBuiltins "len"=some (.builtin "len"):=by decide +kernel
theorem aG:bootBuiltins "isinstance"=some (.builtin "isinstance"):=by decide +kernel
theorem JZ:bootBuiltins "any"=some (.builtin "any"):=by decide +kernel
theorem J0:bootBuiltins "all"=some (.builtin "all"):=by decide +kernel
theorem J5:bootBuiltins "int"=some (.type "int"):=by decide +kernel
theorem yT:bootBuiltins "bool"=some (.type "bool"):=by decide +kernel
theorem nS:bootBuiltins "list"=some (.type "list"):=by decide +kernel
theorem Cu:bootBuiltins "tuple"=some (.type "tuple"):=by decide +kernel
theorem qD:bootBuiltins "ValueError"=some (.type "ValueError"):=by decide +kernel
section
variable {X:Cx}{x:Str}{pos:Pos}
theorem hW {a:Addr}(hm:X.mg x=some (.ref a)) (hg:Gl X x:=by rfl) (hd:(x == ("__debug__":Str))=false:=by decide):PE X (.Name x pos) (tC (.ref a)):=yB hg hm rfl hd
theorem yU {i:Int}(hm:∃t,X.mg x=some (.int i t)) (hg:Gl X x:=by rfl) (hd:(x == ("__debug__":Str))=false:=by decide):PE X (.Name x pos) (tC (.int i)):=by
 obtain⟨t,hm⟩:=hm
 exact yB hg hm ⟨_,rfl⟩ hd
theorem rB {T:String}(hm:X.mg x=none) (hv:bootBuiltins x=some (.type T)) (hg:Gl X x:=by rfl) (hn:x≠"__name__":=by decide) (hd:(x == ("__debug__":Str))=false:=by decide):PE X (.Name x pos) (tC (.ty T)):=Fm hg hm hv rfl hn hd
noncomputable def oA:V→Bool
 | .int i=>i != 0
 | .bl b=>b
 | _=>false
noncomputable def oB (ys:List V) (i:Nat):Bool:=match ys[i]? with|some y=>oA y|none=>false
noncomputable def plainT:V→Bool
 | .int _=>true
 | .bl _=>true
 | _=>false
theorem J6 {prog:Program}{w:World}{A:Around}{s:Shared}{Q:Bool→Shared→Prop}{E:Value→Shared→Prop}{y:V}{v:Value}(r:RelV y v) (p:plainT y=true) (h:Q (oA y) s):wpAny (model prog w) A (truthy v) Q E s:=by
 cases y with
 | int i=>obtain⟨t,rfl⟩:=r;exact PyProof.Rows.truthy_int h
 | bl b=>cases r;exact wpAny_truthy_bool h
 | cK=>cases p
 | str _=>cases p
 | wG _=>cases p
 | Fd _=>cases p
 | ref _=>cases p
 | ty _=>cases p
theorem Cv {prog:Program}{w:World}{A:Around}{ys:List V}{its:List Value}(r:Vals ys its) (p:ys.all plainT=true) :
  TruthOf prog w A (fun i v=>its.toArray[i]?=some v) (oB ys):=by
 intro i v s Q E hv hq
 have l:=r.length
 have ES:its[i]?=some v:=by simpa using hv
 have hi:=(List.getElem?_eq_some_iff.mp ES).1
 have e:ys[i]?=some ys[i]:=getElem?_eq_getElem (by omega)
 obtain⟨u,hu,ru⟩:=r.get e
 rw[ES] at hu;cases hu
 have wJ:Q (oB ys i) s:=hq
 rw[oB,e] at wJ
 exact J6 ru (all_eq_true.mp p _ (List.getElem_mem _)) wJ
theorem Cw:∀(ys:List V),(List.range ys.length).any (oB ys)=ys.any oA
 | []=>rfl
 | y::ys=>by
  rw[List.length_cons,List.range_succ_eq_map,List.any_cons,List.any_map,List.any_cons,←Cw ys]
  rfl
theorem Cy:∀(ys:List V),(List.range ys.length).all (oB ys)=ys.all oA
 | []=>rfl
 | y::ys=>by
  rw[List.length_cons,List.range_succ_eq_map,List.all_cons,List.all_map,List.all_cons,←Cy ys]
  rfl
theorem Cz (hc:X.calm=true):fF X (.builtin "any") (fun xs H Q=>∃p ys,xs=[.ref p]∧cC X.K H p ys∧ys.all plainT=true∧Q (.bl (ys.any oA)) H):=by
 intro pins s σ H xs us Q I r h
 obtain⟨p,ys,rfl,hq,hp,q⟩:=h
 obtain⟨u,rfl,rx⟩:=vals1 r
 cases rx
 obtain⟨its,r',pl,hz⟩:=I.list hq
 have hl:=pl.isList
 have bZ:p<s.heap.objs.size:=by obtain⟨o,ho,_⟩:=hl;exact Heap.lt_size ho
 refine call_any_walk (wpAny_pyIter_list hl ?_)
 refine⟨_,_,_,its.toArray.size,_,_,_,rfl,Walks.list (show X.A.in1.handled=none from I.ok.hd hc) s.heap.objs.size p (Nat.ne_of_lt bZ) its.toArray,⟨⟨_,Heap.get?_push_size _ rfl,rfl,rfl⟩,hl.at fun o e=>Heap.get?_push_of_some _ e⟩,Cv r' hp,fun h' tk k=>?_⟩
 have e:(List.range its.toArray.size).any (oB ys)=ys.any oA:=by rw[List.size_toArray,←r'.length];exact Cw ys
 rw[e]
 exact⟨.bl _,H,I.kept (t':=tk) fun b o eb=>k b o (fun z=>absurd (Heap.lt_size eb) (by rw[mem_singleton.mp z];exact Nat.lt_irrefl _)) (Heap.get?_push_of_some _ eb),rfl,q⟩
theorem CB (hc:X.calm=true):fF X (.builtin "all") (fun xs H Q=>∃p ys,xs=[.ref p]∧cC X.K H p ys∧ys.all plainT=true∧Q (.bl (ys.all oA)) H):=by
 intro pins s σ H xs us Q I r h
 obtain⟨p,ys,rfl,hq,hp,q⟩:=h
 obtain⟨u,rfl,rx⟩:=vals1 r
 cases rx
 obtain⟨its,r',pl,hz⟩:=I.list hq
 have hl:=pl.isList
 have bZ:p<s.heap.objs.size:=by obtain⟨o,ho,_⟩:=hl;exact Heap.lt_size ho
 refine call_all_walk (wpAny_pyIter_list hl ?_)
 refine⟨_,_,_,its.toArray.size,_,_,_,rfl,Walks.list (show X.A.in1.handled=none from I.ok.hd hc) s.heap.objs.size p (Nat.ne_of_lt bZ) its.toArray,⟨⟨_,Heap.get?_push_size _ rfl,rfl,rfl⟩,hl.at fun o e=>Heap.get?_push_of_some _ e⟩,Cv r' hp,fun h' tk k=>?_⟩
 have e:(List.range its.toArray.size).all (oB ys)=ys.all oA:=by rw[List.size_toArray,←r'.length];exact Cy ys
 rw[e]
 exact⟨.bl _,H,I.kept (t':=tk) fun b o eb=>k b o (fun z=>absurd (Heap.lt_size eb) (by rw[mem_singleton.mp z];exact Nat.lt_irrefl _)) (Heap.get?_push_of_some _ eb),rfl,q⟩
theorem qE:Rt X "int.bit_length" (fun x xs H Q=>∃i:Int,x = .int i∧xs=[]∧Q (.int (Builtin.Int.intBits i)) H):=by
 intro pins s σ H x xs v us Q I rx rv h
 obtain⟨i,rfl,rfl,q⟩:=h
 obtain⟨t,rfl⟩:=rx
 obtain rfl:=rv.zero
 exact PyProof.Rows.call_int_bit_length ⟨.int _,H,I.tok _,⟨_,rfl⟩,q⟩
end
section
variable {X:Cx}{tg:Expr}(K:Frag)
theorem fY (h:X.K=K:=by rfl):JA X (JB K):=h▸FG
theorem au (h:X.K=K:=by rfl):JA X (JC K):=h▸JD
theorem hX (h:X.K=K:=by rfl):fF X (.builtin "len") (fun xs H Q=>∃p ys,xs=[.ref p]∧(cC K H p ys∨fh K H p ys)∧Q (.int ys.length) H):=h▸sG
theorem aV (h:X.K=K:=by rfl):fF X (.builtin "isinstance") (M7 K):=h▸Cs
theorem J7 (h:X.K=K:=by rfl):kQ X (compareOp .In) (rIn K false):=h▸Am
theorem hZ (h:X.K=K:=by rfl):Rr X (MQ K):=h▸FH
theorem kX (h:X.K=K:=by rfl):fF X (.type "list") (fun xs H Q=>∃p ys,xs=[.ref p]∧(cC K H p ys∨fh K H p ys)∧∀l,H l=none→Q (.ref l) (upd H l (.lst ys))):=h▸sH
theorem bU {l:Expr}{tl:TE}(hl:PE X l tl) (h:X.K=K:=by rfl):PI X tg l (HW K tl):=h▸Fs hl
theorem yV {l:Expr}{tl:TE}(hl:PE X l tl) (h:X.K=K:=by rfl):PI X tg l (Mv K tl):=h▸Ju hl
theorem As (hc:X.calm=true:=by rfl) (h:X.K=K:=by rfl):fF X (.builtin "any") (fun xs H Q=>∃p ys,xs=[.ref p]∧cC K H p ys∧ys.all plainT=true∧Q (.bl (ys.any oA)) H):=h▸Cz hc
theorem Au (hc:X.calm=true:=by rfl) (h:X.K=K:=by rfl):fF X (.builtin "all") (fun xs H Q=>∃p ys,xs=[.ref p]∧cC K H p ys∧ys.all plainT=true∧Q (.bl (ys.all oA)) H):=h▸CB hc
end
theorem qF {c A B:Prop}[Decidable c] (hc:c) (h:A):if decide c=true then A else B:=by rw[decide_eq_true hc];exact xq h
theorem nt {c A B:Prop}[Decidable c] (hc:¬c) (h:B):if decide c=true then A else B:=by rw[decide_eq_false hc];exact fW h
theorem lK {b:Bool}{A B:Prop}(hc:b=true) (h:A):if b=true then A else B:=by rw[hc];exact xq h
theorem bV {b:Bool}{A B:Prop}(hc:b=false) (h:B):if b=true then A else B:=by rw[hc];exact fW h
theorem Sf (K:Frag):PySem.W.kitOne K (.type "int") (.type "int")=some true:=rfl
theorem Na (K:Frag):PySem.W.kitOne K (.type "int") (.type "bool")=some false:=by rfl
theorem aI:∀{n:Nat},n≤1000→n≤sizeLine:=fun h=>Nat.le_trans h (by rw[sizeLine_eq];decide)
end L2
namespace L2
open PySem
structure J8 (K:Frag) (C:Addr):Prop where
 cd:∃cd,PySem.W.clsIn K C=some cd
 ty:PySem.W.typeIn K (.ref C)=some (.type "type")
theorem eE {K:Frag}{a C:Addr}{b:Bool}(s0:PySem.W.subIn K (.ref a) (.ref a)=some true) (c:J8 K C) (s:PySem.W.subIn K (.ref a) (.ref C)=some b):PySem.W.kitOne K (.ref a) (.ref C)=some b:=by
 obtain⟨⟨cd,h1⟩,h2⟩:=c
 unfold PySem.W.kitOne
 by_cases h:a=C
 ·subst h
  rw[s0] at s
  rw[if_pos (by simp)]
  exact s
 ·rw[if_neg (by simpa using h)]
  unfold PySem.W.kitCls
  simp only[h1,h2]
  rw[if_pos (by rfl)]
  exact s
theorem J9 {K:Frag}{a:Addr}{T:String}{b:Bool}(m:PySem.W.kitMeta T=true) (s:PySem.W.subIn K (.ref a) (.type T)=some b):PySem.W.kitOne K (.ref a) (.type T)=some b:=by
 unfold PySem.W.kitOne
 rw[if_neg (by simp)]
 unfold PySem.W.kitCls
 simp only[m,if_true]
 exact s
theorem Ka {K:Frag}{a C:Addr}{b:Bool}(s0:PySem.W.subIn K (.ref C) (.type "BaseException")=some true) (c:J8 K C) (s:PySem.W.subIn K (.ref a) (.ref C)=some b):PySem.W.exmOne K (.ref a) (.ref C)=some b:=by
 obtain⟨⟨cd,h1⟩,h2⟩:=c
 unfold PySem.W.exmOne
 rw[s0,if_pos (by rfl)]
 unfold PySem.W.kitCls
 simp only[h1,h2]
 rw[if_pos (by rfl)]
 exact s
end L2
namespace L2
open PySem PySem.Spec PyProof.Rows
section
variable {prog:Program}{w:World}{A:Around}{E:Value→Shared→Prop}{s:Shared}
end
section
variable {X:Cx}(K:Frag)
end
structure gu (mg:Str→Option Value):Prop where
 oC:mg "len"=none
 eV:mg "range"=none
 n_abs:mg "abs"=none
 Nb:mg "any"=none
 Nc:mg "all"=none
 aJ:mg "isinstance"=none
 Nd:mg "int"=none
 CG:mg "bool"=none
 sO:mg "list"=none
 n_str:mg "str"=none
 F0:mg "tuple"=none
 gB:mg "enumerate"=none
 sP:mg "ValueError"=none
theorem Kb {K:Frag}{h:Heap}{mg:Str→Option Value}(X:K.In h) (G:h.Ns mainGlobals mg)
  (z1:nsIn K mainGlobals "len"=some none) (z2:nsIn K mainGlobals "range"=some none) (z3:nsIn K mainGlobals "abs"=some none) (z4:nsIn K mainGlobals "any"=some none) (z5:nsIn K mainGlobals "all"=some none)
  (z6:nsIn K mainGlobals "isinstance"=some none) (z7:nsIn K mainGlobals "int"=some none) (z8:nsIn K mainGlobals "bool"=some none) (z9:nsIn K mainGlobals "list"=some none) (Nf:nsIn K mainGlobals "str"=some none)
  (Ng:nsIn K mainGlobals "tuple"=some none) (Nh:nsIn K mainGlobals "enumerate"=some none) (Ni:nsIn K mainGlobals "ValueError"=some none):gu mg :=
 ⟨PySem.W.mg_none_of X G z1,PySem.W.mg_none_of X G z2,PySem.W.mg_none_of X G z3,PySem.W.mg_none_of X G z4,PySem.W.mg_none_of X G z5,PySem.W.mg_none_of X G z6,PySem.W.mg_none_of X G z7,PySem.W.mg_none_of X G z8,PySem.W.mg_none_of X G z9,
  PySem.W.mg_none_of X G Nf,PySem.W.mg_none_of X G Ng,PySem.W.mg_none_of X G Nh,PySem.W.mg_none_of X G Ni⟩
structure dQ (K:Frag) (mg:Str→Option Value) (x:Str) (C:Addr):Prop where
 m:mg x=some (.ref C)
 cl:J8 K C
theorem cW {K:Frag}{h:Heap}{mg:Str→Option Value}{x:Str}{C:Addr}{cd:ClassData}(X:K.In h) (G:h.Ns mainGlobals mg) (a:nsIn K mainGlobals x=some (some (.ref C))) (b:PySem.W.clsIn K C=some cd) (c:PySem.W.typeIn K (.ref C)=some (.type "type")):dQ K mg x C :=
 ⟨PySem.W.mg_of X G a,⟨_,b⟩,c⟩
structure XCls (K:Frag) (C:Addr):Prop where
 x:PySem.W.excIn K C FW "ValueError.__new__"=true
 c:lJ K C
 self:PySem.W.subIn K (.ref C) (.ref C)=some true
structure Lens (K:Frag) (mg:Str→Option Value) (aL:Addr):Prop where
 m:mg "LENGTHS"=some (.ref aL)
 sq:∀H,fh K H aL (zV [2,4,8,16,32,64])
end L2
namespace L2
end L2
namespace L2
theorem yW {ι:Sort _}{C G:ι→Prop}{A:Prop}(h:(∀i,C i→G i)→A) (k:∀i,C i→G i):A:=h k
end L2
namespace L2
open PySem PySem.Spec PyProof.Rows
section
variable {X:Cx}{pins:List (Addr×Obj)}{σ:St}{H:Hp}{s:Shared}{h':Heap}
theorem Inv.F1 {t':Nat}{e it:Addr}(I:Inv X pins σ H s) (k:∀b o,b≠e→b≠it→s.heap.get? b=some o→h'.get? b=some o) (fe:g8 X pins H e) (fi:g8 X pins H it):Inv X pins σ H { s with heap:=h',toks:=t' }:=by
 have ne:∀b u,H b=some u→b≠e∧b≠it:=fun b u q=>⟨fun z=>(by rw[z,fe.1] at q;cases q),fun z=>(by rw[z,fi.1] at q;cases q)⟩
 refine I.step (g':=s.gens) (d':=s.drawn) (ch:=[e,it]) (fun b hb=>?_) (fun b o _ _ hc q _=>k b o (fun z=>hc (by simp[z])) (fun z=>hc (by simp[z])) q) (fun b o _ _ hc q _=>⟨o.slots,k b o (fun z=>hc (by simp[z])) (fun z=>hc (by simp[z])) q⟩) (fun _ _ _ _ n=>n)
  (fun b o hc q=>⟨o,k b o (fun z=>hc (by simp[z])) (fun z=>hc (by simp[z])) q⟩) (fun _ _ q=>q) (fun _ _ _ q=>q) (fun b ps q=>⟨#[],by rw[q];simp⟩) (fun m hm=>?_) (fun b u q=>?_) I.bare
 ·rcases List.mem_cons.mp hb with rfl|hb
  ·exact⟨fe.2.2.2.1,fe.2.1,fe.2.2.2.2.1,fe.2.2.2.2.2⟩
  ·rcases List.mem_cons.mp hb with rfl|hb
   ·exact⟨fi.2.2.2.1,fi.2.1,fi.2.2.2.2.1,fi.2.2.2.2.2⟩
   ·cases hb
 ·obtain⟨o,es,ep,ho,r⟩:=hm
  exact⟨o,es,ep,k _ o (Ne.symm fe.2.1) (Ne.symm fi.2.1) ho,r⟩
 ·refine(I.aR b u q).iY (fun c v hc q'=>?_) (fun _ q=>q) fun _ _ q=>q
  rcases hc with z|z
  ·rw[z] at q' ⊢;exact k _ v (ne b u q).1 (ne b u q).2 q'
  ·exact k c v (ne c _ z).1 (ne c _ z).2 q'
end
noncomputable def LR (K:Frag) (a:Addr):It :=
 ⟨fun i H=>∃xs x,cC K H a xs∧xs[i]?=some x,fun i H x H'=>∃p v,H p=none∧x = .ref p∧H'=upd H p (.tup [.int i,v])∧∀xs,cC K H a xs→xs[i]?=some v,fun i H=>∃xs,cC K H a xs∧xs.length≤i⟩
theorem lL {X:Cx}{pins:List (Addr×Obj)}{H:Hp}{b p:Addr}{o:HO}(h:g8 X pins H b) (fG:b≠p):g8 X pins (upd H p o) b:=⟨by rw[av fG];exact h.1,h.2⟩
theorem Av {P:Program}{w:World}{K:Frag}{es:List Expr}{k:Nat}{pos:Pos}(a e it:Addr) (hei:e≠it):Turn P w K (.Tuple es k pos) (LR K a) [e,it] e (fun i h=>(∃old,IsEnum h e it i old)∧h.IsListIter it a i) where
 mem:=by simp
 obj:=fun i h st b hb=>by
  obtain⟨⟨old,he⟩,o,e2,c,d⟩:=st
  rcases List.mem_cons.mp hb with rfl|hb
  ·exact⟨_,he,fun v z=>by cases z⟩
  ·rcases List.mem_cons.mp hb with rfl|hb
   ·exact⟨o,e2,fun v z=>by rw[d] at z;cases z⟩
   ·cases hb
 keep:=fun i h h' st k=>by
  obtain⟨⟨old,he⟩,hit⟩:=st
  exact⟨⟨old,k e (by simp) _ he⟩,hit.at fun o q=>k it (by simp) o q⟩
 item:=by
  intro X hP hw hK hc i pins s σ H E I hf st hg
  subst hP hw hK
  obtain⟨xs,x,hq,hx⟩:=hg
  obtain⟨its,rv,p,hz⟩:=I.list hq
  obtain⟨u,hu,ru⟩:=rv.get hx
  obtain⟨⟨old,he⟩,hit⟩:=st
  have fe:=hf e (by simp)
  have fi:=hf it (by simp)
  have hle:e<s.heap.objs.size:=Heap.lt_size he
  have P8:it<s.heap.objs.size:=by obtain⟨_,q,_⟩:=id hit;exact Heap.lt_size q
  refine wpAny_pyNext_enum_item he hit p.isList (x:=u) (by simpa using hu) hei fun h' ho Sg hT hsz hk=>?_
  refine⟨_,rfl,wpAny_letOwnedTupleGo_enum ho fun h2 P5 Br=>?_⟩
  replace Br:Heap.SameBut e h' h2:=Br
  have hn:H s.heap.objs.size=none:=I.aR.fresh (Nat.le_refl _)
  have IT:IsTup (s.heap.push { cls:=.type "tuple",data:=.seq #[.int i s.toks,u] }) s.heap.objs.size [Value.int i s.toks,u].toArray:=⟨_,Heap.get?_push_size s.heap rfl,rfl,0,rfl⟩
  have I1:Inv X pins σ (upd H s.heap.objs.size (.tup [.int i,x])) { s with heap:=s.heap.push { cls:=.type "tuple",data:=.seq #[.int i s.toks,u] },toks:=s.toks } :=
   I.laid (fun b o q=>Heap.get?_push_of_some _ q) (Nat.le_refl _) ⟨by simp only[List.length_cons,List.length_nil];rw[sizeLine_eq];decide,[.int i s.toks,u],.cons ⟨_,rfl⟩ (.cons ru .nil),IT⟩
  have kk:∀b o,b≠e→b≠it→(s.heap.push { cls:=.type "tuple",data:=.seq #[.int i s.toks,u] }).get? b=some o→h2.get? b=some o:=fun b o n1 n2 q=>by
   refine(Br.2 b n1).trans ?_
   rcases Heap.get?_push_cases q with⟨rfl,rfl⟩|q
   ·exact hT
   ·exact hk b o n1 n2 q
  have I2:=I1.F1 (h':=h2) (e:=e) (it:=it) (t':=s.toks+1) kk (lL fe (Nat.ne_of_lt hle)) (lL fi (Nat.ne_of_lt P8))
  refine⟨.ref s.heap.objs.size,_,I2,rfl,⟨_,x,hn,rfl,rfl,fun ys hy=>by rw[I.uW hy hq];exact hx⟩,⟨⟨u,?_⟩,Sg.at fun o q=>(Br.2 it hei.symm).trans q⟩,fun b hb=>?_⟩
  ·have:((i+1:Nat):Int)=(i:Int)+1:=by push_cast;rfl
   rw[this];exact P5
  ·rcases List.mem_cons.mp hb with rfl|hb
   ·exact(lL fe (Nat.ne_of_lt hle)).1
   ·rcases List.mem_cons.mp hb with rfl|hb
    ·exact(lL fi (Nat.ne_of_lt P8)).1
    ·cases hb
 done:=by
  intro X hP hw hK hc i pins s σ H E I hf st hg
  subst hP hw hK
  obtain⟨xs,hq,hx⟩:=hg
  obtain⟨its,rv,p,hz⟩:=I.list hq
  obtain⟨⟨old,he⟩,hit⟩:=st
  obtain⟨f0,f1,f2,f3,f4,f5⟩:=hf it (by simp)
  have hl:=rv.length
  exact wpAny_pyNext_enum_end (I.ok.hd hc) he hit p.isList (by simp;omega) fun h' eb=>⟨rfl,I.turned (t':=s.toks) (fun b o hb q=>eb b o hb q) f0 f1 f3 f4 f5⟩
 self:=fun _ _ _ _ _ st h=>by
  obtain⟨⟨old,he⟩,_⟩:=st
  exact wpAny_pyIter_enum he h
section
variable {X:Cx}
noncomputable def Nj (K:Frag) (ta:TA):TI:=fun σ H R=>ta σ H fun vs H1=>∃a xs,vs=[.ref a]∧cC K H1 a xs∧R (LR K a) H1
theorem sQ:bootBuiltins "enumerate"=some (.type "enumerate"):=by decide +kernel
theorem lM (K:Frag) {es:List Expr}{k:Nat}{p':Pos}{l:Expr}{ta:TA}{p pos:Pos}(hg:Gl X "enumerate") (hm:X.mg "enumerate"=none) (ha:PA X [l] ta) (hs:starEach [l] X.env=[(false,eval l X.env)]:=by rfl) (hK:X.K=K:=by rfl) :
  PI X (.Tuple es k p') (.Call (.Name "enumerate" p) [l] [] pos) (Nj K ta):=by
 subst hK
 intro pins s σ H R I h
 refine Call_ (i3 I hg hm sQ (PyProof.Rows.callWith_type1 (bG (ha pos pins s σ H _ I h) fun us s1 ⟨vs,H1,I1,r1,q1⟩=>?_) hs rfl))
 obtain⟨a,xs,rfl,hq,q⟩:=q1
 cases r1 with
 | cons r rr =>
  cases rr
  cases r
  obtain⟨its,rv,pl,hz⟩:=I1.list hq
  refine call_enumerate_list pl.isList fun h' he hit hsz hk=>?_
  refine wpAny_pyIter_enum he ?_
  have fG:s1.heap.objs.size+1≠s1.heap.objs.size:=Nat.succ_ne_self _
  refine⟨s1.heap.objs.size+1,[s1.heap.objs.size+1,s1.heap.objs.size],_,_,H1,rfl,I1.kept (t':=s1.toks) hk,Av a _ _ fG,⟨⟨_,he⟩,hit⟩,fun b hb=>?_,q⟩
  rcases List.mem_cons.mp hb with rfl|hb
  ·exact I1.uZ (Nat.le_succ _) (I1.aR.fresh (Nat.le_succ _))
  ·rcases List.mem_cons.mp hb with rfl|hb
   ·exact I1.uZ (Nat.le_refl _) (I1.aR.fresh (Nat.le_refl _))
   ·cases hb
end
theorem oF {K:Frag}{a:Addr}{xs:List V}{g:TG}{tb:TS}{D:Ends}{σ:St}{H:Hp}(Pv:Nat→St→Hp→Prop) (h0:Pv 0 σ H) (hl:∀i σ H,i≤xs.length→Pv i σ H→cC K H a xs)
  (hs:∀i x σ H p,xs[i]?=some x→Pv i σ H→H p=none→g (.ref p) σ (upd H p (.tup [.int i,x])) fun σ2 H2=>tb { D with nx:=Pv (i+1),ct:=Pv (i+1),bk:=D.nx } σ2 H2) (hd:∀σ H,Pv xs.length σ H→D.nx σ H) :
  ∃W:Nat→Nat→St→Hp→Prop,(∃m,W 0 m σ H)∧∀i m σ H,W i m σ H →
   ((LR K a).stop i H∧D.nx σ H)∨((LR K a).go i H∧∃N:St→Hp→Prop,(∀σ' H',N σ' H'→∃m',m'<m∧W (i+1) m' σ' H')∧∀x H',(LR K a).HV i H x H'→g x σ H' fun σ2 H2=>tb { D with nx:=N,ct:=N,bk:=D.nx } σ2 H2):=by
 refine⟨fun i m σ H=>m=xs.length-i∧i≤xs.length∧Pv i σ H,⟨xs.length,by simp,Nat.zero_le _,h0⟩,?_⟩
 rintro i m σ H ⟨rfl,hi,p⟩
 have q:=hl i σ H hi p
 by_cases bZ:i<xs.length
 ·refine .inr ⟨⟨xs,xs[i],q,by simp[bZ]⟩,Pv (i+1),fun σ' H' p'=>⟨xs.length-(i+1),by omega,rfl,bZ,p'⟩,fun x H' y=>?_⟩
  obtain⟨pp,v,hn,rfl,rfl,y⟩:=y
  exact hs i v σ _ pp (y xs q) p hn
 ·have e:i=xs.length:=by omega
  subst e
  exact .inl ⟨⟨xs,q,Nat.le_refl _⟩,hd σ H p⟩
end L2
namespace L2
open PySem
theorem d3 {X:Cx}(K:Frag) {es:List Expr}{k:Nat}{pos:Pos}{t:HU}{n:Nat}(hc:X.calm=true) (h:Mr X es t)
  (hn:(assignEach es X.env).length=n:=by rfl) (BJ:(assignEach es X.env).findIdx? (·.1)=none:=by rfl) (hK:X.K=K:=by rfl):PG X (.Tuple es k pos) (Jq K n t):=hK▸Jr hc h hn BJ
theorem Sh (K:Frag):PySem.W.kitOne K (.type "tuple") (.type "tuple")=some true:=rfl
structure Wrds (K:Frag) (mg:Str→Option Value) (x a b c:Str) (aW:Addr):Prop where
 m:mg x=some (.ref aW)
 sq:∀H,fh K H aW [.str a,.str b,.str c]
end L2
namespace L2
open PySem PySem.Spec PyProof.Rows
inductive P9:V→V→Prop where
 | flat {x:V}(h:gy x=true):P9 x x
 | ref (a:Addr):P9 (.ref a) (.ref a)
inductive Qa (K:Frag) (H:Hp):V→V→Prop where
 | of {x y:V}(h:P9 x y):Qa K H x y
 | lst {p q:Addr}{xs ys:List V}(fG:p≠q) (h1:cC K H p xs) (h2:cC K H q ys) (hl:xs.length=ys.length) (h:∀(j:Nat) x y,xs[j]?=some x→ys[j]?=some y→P9 x y):Qa K H (.ref p) (.ref q)
section
variable {X:Cx}
noncomputable def rAlk (K:Frag) (neg:Bool):R2:=fun x y H Q=>∃p q xs ys,x = .ref p∧y = .ref q∧cC K H p xs∧cC K H q ys∧xs.length=ys.length∧(∀(j:Nat) x y,xs[j]?=some x→ys[j]?=some y→Qa K H x y)∧Q (.bl (!neg)) H
end
section
variable {X:Cx}{e:Expr}{te:TE}{pos p1 p2 p3:Pos}{k:Nat}
noncomputable def tRev (K:Frag) (te:TE):TE:=fun σ H Q=>te σ H fun x H1=>∃a xs,x = .ref a∧cC K H1 a xs∧∀p,H1 p=none→Q (.ref p) (upd H1 p (.lst xs.reverse))
end
theorem fZ {K:Frag}{a:Addr}{xs:List V}{te:TE}{σ:St}{H:Hp}{Q:VK}(Pv:Nat→List V→Hp→Prop) (h0:Pv 0 [] H) (hl:∀i ys H',i≤xs.length→Pv i ys H'→cC K H' a xs∧ys.length=i) (hz:xs.length≤sizeLine)
  (he:∀(i:Nat) x ys H' Q',xs[i]?=some x→Pv i ys H'→(∀y H4,Pv (i+1) (ys++[y]) H4→Q' y H4)→te (some x::σ) H' Q')
  (hd:∀ys H' p,Pv xs.length ys H'→H' p=none→Q (.ref p) (upd H' p (.lst ys))):∃W,(∃m,W 0 m [] H)∧oy (Jt K a) xt te σ Q W:=by
 refine⟨fun i m ys H'=>m=xs.length-i∧i≤xs.length∧Pv i ys H',⟨xs.length,by simp,Nat.zero_le _,h0⟩,?_⟩
 rintro i m ys H' ⟨rfl,hi,pv⟩
 obtain⟨q,hy⟩:=hl i ys H' hi pv
 by_cases bZ:i<xs.length
 ·refine .inr ⟨⟨xs,xs[i],q,by simp[bZ]⟩,by omega,fun x H2 y=>?_⟩
  obtain⟨e,y⟩:=y
  subst e
  have hx:=y xs q
  simp only[xt,if_true]
  exact he i x ys _ _ hx pv fun y H4 q4=>⟨xs.length-(i+1),by omega,rfl,bZ,q4⟩
 ·have e:i=xs.length:=by omega
  subst e
  exact .inl ⟨⟨xs,q,Nat.le_refl _⟩,by omega,fun p hp=>hd _ _ p pv hp⟩
end L2
namespace L2
open PySem
theorem bK.eF {k:Nat}{A:Around}(r:bK k A):A.units+1<cLine:=by have:=r.un;omega
end L2
namespace L2
open PySem PySem.Spec PyProof.Rows
section
variable {X:Cx}
noncomputable def CPowB (i j:Int):Prop:=0≤j∧j≤8∧i.natAbs<2^4000
theorem Kc:bootBuiltins "sum"=some (.builtin "sum"):=by decide +kernel
theorem vk:∀{ns:List Int}{us:List Value},Vals (ns.map V.int) us→IntsAre us ns
 | [],us,h=>by cases h;exact .nil
 | n::ns,us,h=>by
  cases h with
  | cons r rr =>
   obtain⟨t,rfl⟩:=r
   exact .cons n t (vk rr)
theorem Aw (K:Frag) (hc:X.calm=true:=by rfl) (hK:X.K=K:=by rfl):fF X (.builtin "sum") (fun xs H Q=>∃p ns,xs=[.ref p]∧cC K H p (zV ns)∧Q (.int ns.sum) H):=by
 subst hK
 intro pins s σ H xs us Q I r h
 obtain⟨p,ns,rfl,hq,q⟩:=h
 obtain⟨u,rfl,rx⟩:=vals1 r
 cases rx
 obtain⟨its,r',pl,hz⟩:=I.list hq
 have hi:=vk r'
 obtain⟨xs,e⟩:=(hi.allInts).items
 have hl:=pl.isList
 have hn:(numsOf its).sum=ns.sum:=by rw[hi.numsOf]
 rw[show its=its.toArray.toList from rfl,e,nums_intItems] at hn
 rw[e] at hl
 refine sum_intListG (I.ok.hd hc) hl fun h' tk t' hk=>?_
 refine⟨.int ns.sum,H,I.kept (t':=tk) hk,⟨t',?_⟩,q⟩
 rw[preSum_eq,List.take_of_length_le (by simp),hn]
end
theorem vm {n:Nat}{te:TE}{σ:St}{H:Hp}{Q:VK}(Pv:Nat→List V→Hp→Prop) (h0:Pv 0 [] H) (hl:∀i ys H',i≤n→Pv i ys H'→ys.length=i) (hz:n≤sizeLine)
  (he:∀(i:Nat) ys H' Q',i<n→Pv i ys H'→(∀y H4,Pv (i+1) (ys++[y]) H4→Q' y H4)→te (some (.int (0+(i:Int)))::σ) H' Q')
  (hd:∀ys H' p,Pv n ys H'→H' p=none→Q (.ref p) (upd H' p (.lst ys))):∃W,(∃m,W 0 m [] H)∧oy (Fq 0 n) xt te σ Q W:=by
 refine⟨fun i m ys H'=>m=n-i∧i≤n∧Pv i ys H',⟨n,by simp,Nat.zero_le _,h0⟩,?_⟩
 rintro i m ys H' ⟨rfl,hi,pv⟩
 have hy:=hl i ys H' hi pv
 by_cases bZ:i<n
 ·refine .inr ⟨bZ,by omega,fun x H2 y=>?_⟩
  obtain⟨e,y⟩:=y
  subst e y
  simp only[xt,if_true]
  exact he i ys _ _ bZ pv fun y H4 q4=>⟨n-(i+1),by omega,rfl,bZ,q4⟩
 ·have e:i=n:=by omega
  subst e
  exact .inl ⟨Nat.le_refl _,by omega,fun p hp=>hd _ _ p pv hp⟩
theorem CJ:bootBuiltins "min"=some (.builtin "min"):=by decide +kernel
theorem mF (a b:Nat):Builtin.bitAnd (a:Int) (b:Int)=((a&&&b:Nat):Int):=bitAnd_pp (Int.natCast_nonneg a) (Int.natCast_nonneg b)
end L2
namespace L2
open PySem
end L2
namespace L2
theorem Nk {G A:Prop}(h:G→A) (k:G):A:=h k
end L2
namespace L2
open PySem PySem.Spec PyProof.Rows
section
variable {X:Cx}{e v1 v2:Expr}{es:List Expr}{te:TE}{pos:Pos}
noncomputable def tFmtI (te:TE):TE:=fun σ H Q=>te σ H fun x H1=>∃i,x = .int i∧i.natAbs.log2<1920∧Q (.str (toString i)) H1
noncomputable def tFmtS (te:TE):TE:=fun σ H Q=>te σ H fun x H1=>∃z,x = .str z∧z.length≤sizeLine∧Q (.str z) H1
noncomputable def PJ (X:Cx) (es:List Expr) (t:Str→TE):Prop :=
 ∀(out:Str) (pins:List (Addr×Obj)) (s:Shared) (σ:St) (H:Hp) (Q:VK),Inv X pins σ H s→t out σ H Q→wpAny (model X.prog X.w) X.A (joinParts out (evalEach es X.env)) (EP X pins σ Q) X.xe s
noncomputable def tJnil:Str→TE:=fun out _ H Q=>out.length≤sizeLine∧Q (.str out) H
noncomputable def Si (te:TE) (t:Str→TE):Str→TE:=fun out σ H Q=>te σ H fun x H1=>∃y,x = .str y∧(out++y).length≤sizeLine∧t (out++y) σ H1 Q
end
section
variable {prog:Program}{w:World}{A:Around}{E:Value→Shared→Prop}{h:Heap}{g:Array GenState}{d:Drawn}{t:Nat}{os:OsState}
variable {nm q:Str}{C N f:Addr}{bs bm EX:List Value}{hdct:Bool}{sn:List Str}{sub:List Value}{ab:Bool}{col:Option Bool}{dd:Option Addr}{k0 k1 k2 k3 k5:Option Value}{B Bn newId Qb sR Qc:String}{Qd:List Value}
theorem Ax {of:Obj}(Fn:ExcBaseFacts Bn newId Qc Qd) (LS:EX.contains (.type Bn)=true) (F:ExcBaseFacts B Qb sR EX) (T:OwnTail h EX bm) {mN:Str→Option Value}{rest:List Value}{Q:Fin→Shared→Prop}
  (hC:h.get? C=some (excClassObj nm q C N bs bm hdct sn sub ab col dd k0 k1 k2 k3 k5 newId)) (hn:h.Ns N mN) (CK:mN "__init__"=some (.ref f)) (qC:h.get? f=some of) (Kd:of.cls = .type "function") (CQ:rest.length≤sizeLine)
  (hq:∀h' e,Heap.MadeExcOf h h' e (.ref C) rest→wpAny (model prog w) A (call (.ref f) (.ref e::rest)) (fun v s'=>v = .none∧Q (.done (.ret (.ref e))) s') E ⟨h',g,d,t,os⟩) :
  wpAny (model prog w) A (Builtin.«type.__call__» ⟨.ref C::rest,[]⟩) Q E ⟨h,g,d,t,os⟩:=by
 repeat (first|(with_reducible refine wpAny_madeBy_exc hC ?_)|(with_reducible refine wpAny_loadPart_at hC ?_)|wp_step)
 refine codeAny_call_builtin_code (Code.quiet_builtin _ Fn.quiet) (wpAny_check_new_subU Fn LS T hC ?_)
 refine codeAny_exc_new_subU Fn LS F T hC ?_ CQ
 have z1:(h.push { cls:=.type "tuple",data:=.seq rest.toArray }).objs.size=h.objs.size+1:=Heap.size_push ..
 have hm:Heap.MadeExcOf h ((h.push { cls:=.type "tuple",data:=.seq rest.toArray }).push { cls:=.ref C,data:=.fields #[.ref h.objs.size,.none,.none,.none,.bool false,.none] }) (h.objs.size+1) (.ref C) rest :=
  ⟨fun b o e=>Heap.get?_push_of_some _ (Heap.get?_push_of_some _ e),Heap.get?_none_of_le (Nat.le_succ _),h.objs.size,Heap.get?_push_at z1.symm rfl,Heap.get?_none_of_le (Nat.le_refl _),Heap.get?_push_of_some _ (Heap.get?_push_size _ rfl)⟩
 have Nl:=Heap.get?_push_at (o:={ cls:=Value.ref C,data:=.fields #[.ref h.objs.size,.none,.none,.none,.bool false,.none] }) z1.symm rfl
 generalize (h.push { cls:=.type "tuple",data:=.seq rest.toArray }).push { cls:=.ref C,data:=.fields #[.ref h.objs.size,.none,.none,.none,.bool false,.none] }=h1 at hm Nl ⊢
 have hC₁:=hm.keeps _ _ hC
 have hn₁:h1.Ns N mN:=hn.keeps hm.keeps
 have T₁:=T.keeps hm.keeps
 have hf₁:=hm.keeps _ _ qC
 have hcC:(Value.ref C::bm).contains (.ref C)=true:=by simp
 show wpAny _ _ _ _ _ _
 unfold isInstance
 repeat (first|(with_reducible refine wpAny_isSubtype_exc hC₁ ?_;rw[hcC])|(with_reducible refine wpAny_loadPart_at Nl ?_)|wp_step)
 show wpAny _ _ (typeLookup (.ref C) _) _ _ _
 refine wpAny_typeLookup_tail hC₁ hn₁ T₁ F.mroIs F.init.lookup ?_
 rw[CK]
 refine wpAny_holding (wpAny_bind (wpAny_bindSpecial_def (s:=⟨h1,g,d,t,os⟩) hf₁ Kd ?_))
 refine wpAny_bind (wpAny_mono (hq h1 _ hm) (fun v s' hv=>wpAny_pure ?_) fun _ _ z=>z)
 obtain⟨rfl,hv⟩:=hv
 exact wpAny_pure hv
theorem CT {of:Obj}(Fn:ExcBaseFacts Bn newId Qc Qd) (LS:EX.contains (.type Bn)=true) (F:ExcBaseFacts B Qb sR EX) (T:OwnTail h EX bm) {mN:Str→Option Value}{rest:List Value}{Q:Value→Shared→Prop}
  (hC:h.get? C=some (excClassObj nm q C N bs bm hdct sn sub ab col dd k0 k1 k2 k3 k5 newId)) (hn:h.Ns N mN) (CK:mN "__init__"=some (.ref f)) (qC:h.get? f=some of) (Kd:of.cls = .type "function") (CQ:rest.length≤sizeLine)
  (hq:∀h' e,Heap.MadeExcOf h h' e (.ref C) rest→wpAny (model prog w) (A.under (.builtin "type.__call__" ⟨.ref C::rest,[]⟩)) (call (.ref f) (.ref e::rest)) (fun v s'=>v = .none∧Q (.ref e) s') E ⟨h',g,d,t,os⟩) :
  wpAny (model prog w) A (call (.ref C) rest) Q E ⟨h,g,d,t,os⟩:=by
 have f1:=tc_lookup
 have f2:=tc_bind (.ref C)
 have hT:(⟨h,g,d,t,os⟩:Shared).TypeIs (.ref C) "type":=⟨_,hC,rfl⟩
 refine wpAny_call (codeAny_of_tree ?_)
 show wpAny _ _ (callAny (.ref C) _) _ _ _
 repeat (any_goals (first|(with_reducible refine wpAny_loadPart_at hC ?_)|assumption|wp_step))
 refine⟨rfl,?_⟩
 refine codeAny_call_builtin_at (Code.quiet_builtin _ (by decide +kernel)) entry_typeCall (wpAny_check_type_call_sub hC (Ax Fn LS F T hC hn CK qC Kd CQ fun h' e hm=>?_))
 exact hq h' e hm
end
section
variable {prog:Program}{w:World}{A:Around}{E:Value→Shared→Prop}{s:Shared}{env:Env}
variable {nm q:Str}{C N f:Addr}{bs bm EX:List Value}{hdct:Bool}{sn:List Str}{sub:List Value}{ab:Bool}{col:Option Bool}{dd:Option Addr}{k0 k1 k2 k3 k5:Option Value}{B Bn newId Qb sR Qc:String}{Qd:List Value}
theorem Ay {M:Model}{x:Sem Value}{Q:Flow→Shared→Prop}(om:bm.contains (.type "BaseException")=true) (hh:A.handled=none)
  (h:wpAny M A x (fun v s₁=>∃e od vs sl,v = .ref e∧s₁.heap.get? C=some (excClassObj nm q C N bs bm hdct sn sub ab col dd k0 k1 k2 k3 k5 newId)∧s₁.heap.get? e=some ⟨.ref C,od,.fields vs,sl⟩∧vs[1]?=some .none∧E (.ref e) s₁) E s) :
  wpAny M A (raiseStmt env (some x) none) Q E s:=by
 have hcB:(Value.ref C::bm).contains (.type "BaseException")=true:=by rw[List.contains_cons,om,Bool.or_true]
 unfold raiseStmt
 refine wpAny_bind (wpAny_mono h (fun v s₁ h₁=>?_) fun _ _ z=>z)
 obtain⟨e,od,vs,sl,rfl,hC,he,Sj,hE⟩:=h₁
 obtain⟨hp,g,d,tk,os⟩:=s₁
 repeat (first|(with_reducible refine wpAny_isSubtype_exc hC ?_;rw[hcB])|(with_reducible refine wpAny_loadPart_at he ?_)|(with_reducible refine wpAny_loadPart_at hC ?_)|wp_step)
 rw[Sj]
 refine wpAny_pure ?_
 repeat wp_step
 exact wpAny_raiseNew_none hh hE
theorem Az {of:Obj}(Fn:ExcBaseFacts Bn newId Qc Qd) (LS:EX.contains (.type Bn)=true) (F:ExcBaseFacts B Qb sR EX) {mN:Str→Option Value}{x:Str}{np dc pos:Pos}{args:List Expr}{Q:Flow→Shared→Prop}
  (om:bm.contains (.type "BaseException")=true) (hh:A.handled=none) (xk:(backTo dc (starEach args env)).any (·.1)=false) (CK:mN "__init__"=some (.ref f)) (Kd:of.cls = .type "function")
  (hw:wpAny (model prog w) A (eval (.Name x np) env) (fun c s₁=>c = .ref C∧wpAny (model prog w) A (evalArgs (.ref C) true (backTo dc (starEach args env)) []) (fun a s₂=>a.kw=[]∧a.pos.length≤sizeLine ∧
    s₂.heap.get? C=some (excClassObj nm q C N bs bm hdct sn sub ab col dd k0 k1 k2 k3 k5 newId)∧s₂.heap.Ns N mN∧OwnTail s₂.heap EX bm∧s₂.heap.get? f=some of ∧
    ∀h' e,Heap.MadeExcOf s₂.heap h' e (.ref C) a.pos→wpAny (model prog w) (A.under (.builtin "type.__call__" ⟨.ref C::a.pos,[]⟩)) (call (.ref f) (.ref e::a.pos)) (fun v s'=>v = .none ∧
     s'.heap.get? C=some (excClassObj nm q C N bs bm hdct sn sub ab col dd k0 k1 k2 k3 k5 newId)∧(∃od vs sl,s'.heap.get? e=some ⟨.ref C,od,.fields vs,sl⟩∧vs[1]?=some .none)∧E (.ref e) s') E { s₂ with heap:=h' }) E s₁) E s) :
  wpAny (model prog w) A (exec (.Raise (some (.Call (.Name x np) args [] dc)) none pos) env) Q E s:=by
 rw[arm_exec_Raise]
 simp only[evalOpt,Option.map]
 refine wpAny_bind (wpAny_standAt (Ay (C:=C) (nm:=nm) (q:=q) (N:=N) (bs:=bs) (bm:=bm) (hdct:=hdct) (sn:=sn) (sub:=sub) (ab:=ab) (col:=col) (dd:=dd) (k0:=k0) (k1:=k1) (k2:=k2) (k3:=k3) (k5:=k5) (newId:=newId) om hh ?_))
 refine wpAny_bind (wpAny_mono (wpAny_Call_ofName (wpAny_mono hw (fun c s₁ h₁=>?_) fun _ _ z=>z)) (fun v s₃ h₃=>wpAny_bind (wpAny_standAt (wpAny_pure h₃))) fun _ _ z=>z)
 obtain⟨rfl,h₁⟩:=h₁
 unfold callWith
 refine wpAny_bind (wpAny_holding (wpAny_mono h₁ (fun a s₂ h₂=>wpAny_bind (wpAny_standAt ?_)) fun _ _ z=>z))
 obtain⟨apos,akw⟩:=a
 obtain⟨hkw,hlen,hC,hn,T,qC,h₂⟩:=h₂
 obtain rfl:akw=[]:=hkw
 obtain⟨hp,g,d,tk,os⟩:=s₂
 simp only[xk]
 refine wpAny_bind (wpAny_keeperOf_exc hC ?_)
 refine wpAny_bind (CT Fn LS F T hC hn CK qC Kd hlen fun h' e hm=>wpAny_mono (h₂ h' e hm) (fun v s' hv=>?_) fun _ _ z=>z)
 obtain⟨rfl,Sk,⟨od,vs,sl,he,Sj⟩,hE⟩:=hv
 exact⟨rfl,wpAny_bind (wpAny_holding (wpAny_point (wpAny_pure ⟨e,od,vs,sl,rfl,Sk,he,Sj,hE⟩)))⟩
end
structure iy (N N':List Str) (x y:Str) (sc osc:Scope):Prop where
 kind:sc.kind = .function
 dP:∀y∈sc.names,y.2≠.cell
 own:∀z∈sc.names,z.2 = .local→z.1=x∨z.1=y∨z.1=".0"
 has:sc.names.lookup x=some .local
 Sl:sc.names.lookup y=some .local
 ne:x≠y
 names:∀y∈sc.names,y.2 = .local→sc.names.lookup y.1=some .local
 wU:x∉N'
 noy:y∉N'
 PZ:(".0":Str)∉N'
 nd:N'.Nodup
 len:N'.length=N.length
 sub:∀p∈N.zip N',p.1=p.2∨sc.names.lookup p.2=none
 free:∀y∈sc.names,y.2 = .free→osc.names.lookup y.1=some .cell∨osc.names.lookup y.1=some .free
noncomputable def Ik (N N':List Str) (x y:Str) (sc osc:Scope):Bool :=
 decide (sc.kind = .function)&&decide (∀z∈sc.names,z.2≠.cell)&&decide (∀z∈sc.names,z.2 = .local→z.1=x∨z.1=y∨z.1=".0")&&decide (sc.names.lookup x=some .local)&&decide (sc.names.lookup y=some .local)&&decide (x≠y) &&
  decide (∀z∈sc.names,z.2 = .local→sc.names.lookup z.1=some .local)&&decide (x∉N')&&decide (y∉N')&&decide ((".0":Str)∉N')&&decide N'.Nodup&&decide (N'.length=N.length)&&decide (∀p∈N.zip N',p.1=p.2∨sc.names.lookup p.2=none)&&decide (∀z∈sc.names,z.2 = .free→osc.names.lookup z.1=some .cell∨osc.names.lookup z.1=some .free)
theorem cs2 {N N':List Str}{x y:Str}{sc osc:Scope}(h:Ik N N' x y sc osc=true):iy N N' x y sc osc:=by
 unfold Ik at h
 simp only[Bool.and_eq_true,decide_eq_true_eq] at h
 obtain⟨⟨⟨⟨⟨⟨⟨⟨⟨⟨⟨⟨⟨h1,h2⟩,h3⟩,h4⟩,h4'⟩,Sm⟩,h5⟩,h6⟩,h6'⟩,h7⟩,h9⟩,RI⟩,RJ⟩,h8⟩:=h
 exact⟨h1,h2,h3,h4,h4',Sm,h5,h6,h6',h7,h9,RI,RJ,h8⟩
noncomputable def fE (X:Cx) (N':List Str) (x y:Str) (sc:Scope) (C:Addr) (s2:Shared) (H2:Hp) (fp:List Addr):Cx :=
 { X with N:=x::y::N',s₀:=s2,H₀:=H2,env:=compEnvC sc (bw sc.names X.env.cells []) C X.env,outer:=X.stack,stack:=X.stack,ex:=fp,fn:=fun _=>false,pn:=[],xe:=fun _ _=>False }
section
variable {X:Cx}{pins:List (Addr×Obj)}{σ:St}{H H2:Hp}{s s2:Shared}{x y:Str}{sc:Scope}{C:Addr}{fp:List Addr}{N':List Str}
theorem dh (S:iy X.N N' x y sc X.env.scope) {y':Str}{c:Addr}(h:(bw sc.names X.env.cells []).lookup y'=some c):X.env.cells.lookup y'=some c∧(y',NameKind.free)∈sc.names:=by
 rcases fX _ _ (aP h) with z|z
 ·simp at z
 ·exact z
theorem F2 (I:Inv X pins σ H2 s2) (S:iy X.N N' x y sc X.env.scope) (hC:s2.heap.objs.size≤C) (hf:∀b∈fp,g8 X pins H2 b) (qC:∀b∈fp,∃o,s2.heap.get? b=some o∧∀v,o.data≠.cell v):(fE X N' x y sc C s2 H2 fp).Ok where
 mod:=I.ok.mod
 kind:=S.kind
 glob:=I.ok.glob
 blt:=I.ok.blt
 above:=hC
 inj:=fun y z c h1 h2=>I.ok.inj y z c (dh S h1).1 (dh S h2).1
 has:=fun y h=>by
  have key:∀k,(relabel sc X.env).names.lookup y=some k→(k = .cell∨k = .free)→∃c,(bw sc.names X.env.cells []).lookup y=some c:=fun k hk Ca=>by
   have iO:sc.names.lookup y=some .free:=by
    rcases bL (env:=X.env) S.dP hk with z|⟨z,_⟩
    ·rcases Ca with e|e
     ·rw[e] at z;exact absurd rfl (S.dP _ (aP z))
     ·rw[e] at z;exact z
    ·exact z
   have hm:=aP iO
   obtain⟨c,hc⟩:=I.ok.has y (S.free _ hm rfl)
   exact df (dO sc.names [] hm hc)
  rcases h with h|h
  ·exact key _ h (.inl rfl)
  ·exact key _ h (.inr rfl)
 Fj:=fun y c h=>by cases h
 hd:=fun h=>I.ok.hd h
 frames:=I.ok.frames
 HS:=.inl rfl
 LM:=fun b hb=>by
  obtain⟨o,ho,hd⟩:=qC b hb
  refine⟨Nat.ne_of_lt (Nat.lt_of_lt_of_le (Heap.lt_size ho) hC),fun y c h=>(hf b hb).2.2.2.2.1 y c (dh S h).1⟩
 bs:=I.bs
 uT:=Nat.le_trans I.ok.uT I.sz
 qx:=fun b o h hb=>by
  have h1:=(hf b hb).2.2.2.1
  rcases h1 with z|z
  ·exact I.ok.qx b o h z
  ·exact absurd (Nat.lt_of_lt_of_le (Heap.lt_size h) (Nat.le_trans I.ok.uT z)) (Nat.lt_irrefl _)
 uU:=fun b hb h=>by
  rcases List.mem_cons.mp (I.i0 b h) with e|z
  ·exact(hf b hb).2.1 e
  ·exact(hf b hb).2.2.1 z
 iZ:=I.stack
 Bq:=I.nP
theorem xA {h4:Heap}{t4:Nat}(I:Inv X pins σ H2 s2) (S:iy X.N N' x y sc X.env.scope) (hf:∀b∈fp,g8 X pins H2 b) (qC:∀b∈fp,∃o,s2.heap.get? b=some o∧∀v,o.data≠.cell v)
  (hC:s2.heap.objs.size≤C) (hn:h4.Ns C fun _=>none) (hk:∀b o,s2.heap.get? b=some o→h4.get? b=some o) {q:List (Addr×Obj)}(hq:∀p∈q,h4.get? p.1=some p.2∧H2 p.1=none∧p.1≠C∧p.1∉my X.stack∧∀v,p.2.data≠.cell v) :
  Inv (fE X N' x y sc C s2 H2 fp) q (none::none::σ) H2 { s2 with heap:=h4,toks:=t4 } where
 ok:=F2 I S hC hf qC
 os:=rfl
 bare:=I.bare
 base:=Un.kept hk
 loc:=by
  refine⟨fun _=>none,hn,fun i y v e1 e2 e3=>?_⟩
  match i with
  | 0=>simp at e2
  | 1=>simp at e2
  | i+2 =>
   have JN:N'[i]?=some y:=by simpa[fE] using e1
   have RK:σ[i]?=some (some v):=by simpa using e2
   have hm:y∈N':=mem_of_getElem? JN
   have RL:X.N[i]?=some y:=by
    have hi:i<X.N.length:=by rw[←S.len];exact(List.getElem?_eq_some_iff.mp JN).1
    have hz:(X.N[i],y)∈X.N.zip N':=by
     refine mem_of_getElem? (i:=i) ?_
     rw[List.getElem?_zip_eq_some]
     exact⟨getElem?_eq_getElem hi,JN⟩
    rcases S.sub _ hz with z|z
    ·rw[getElem?_eq_getElem hi];exact congrArg some z
    ·exfalso
     have no:∀k,(relabel sc X.env).names.lookup y≠some k:=fun k hk=>by
      rcases bL (env:=X.env) S.dP hk with w|⟨w,_⟩
      ·rw[show sc.names.lookup y=none from z] at w;cases w
      ·rw[show sc.names.lookup y=none from z] at w;cases w
     rcases e3 with w|w|w
     ·exact no _ w
     ·exact no _ w
     ·exact no _ w
   have iO:sc.names.lookup y=some .free:=by
    have case:∀k,(relabel sc X.env).names.lookup y=some k→(k = .local ∨ k = .cell∨k = .free)→sc.names.lookup y=some .free:=fun k hk Ca=>by
     rcases bL (env:=X.env) S.dP hk with z|⟨z,_⟩
     ·rcases Ca with e|e|e
      ·rw[e] at z
       rcases S.own _ (aP z) rfl with w|w|w
       ·exact absurd (w▸hm) S.wU
       ·exact absurd (w▸hm) S.noy
       ·exact absurd (w▸hm) S.PZ
      ·rw[e] at z;exact absurd rfl (S.dP _ (aP z))
      ·rw[e] at z;exact z
     ·exact z
    rcases e3 with z|z|z
    ·exact case _ z (.inl rfl)
    ·exact case _ z (.inr (.inl rfl))
    ·exact case _ z (.inr (.inr rfl))
   have ow:=aP iO
   have kd:X.env.kindOf y=some .cell∨X.env.kindOf y=some .free:=S.free _ ow rfl
   obtain⟨m,Cb,hl⟩:=I.loc
   obtain⟨u,r,lk⟩:=hl i y v RL RK (by rcases kd with z|z;exact .inr (.inl z);exact .inr (.inr z))
   obtain⟨c,hc,qX⟩:∃c,X.env.cells.lookup y=some c∧s2.heap.IsCell c (some u):=by
    rcases lk with⟨z,_⟩|⟨_,z⟩
    ·rcases kd with w|w
     ·rw[w] at z;cases z
     ·rw[w] at z;cases z
    ·exact z
   refine⟨u,r,.inr ⟨?_,c,?_,?_⟩⟩
   ·rcases e3 with z|z|z
    ·exfalso
     rcases bL (env:=X.env) S.dP z with q|⟨_,q⟩
     ·rw[iO] at q;cases q
     ·cases q
    ·exact .inl z
    ·exact .inr z
   ·obtain⟨d,hd⟩:=df (dO sc.names [] ow hc)
    have:=(dh S hd).1
    rw[hc] at this;cases this
    exact hd
   ·obtain⟨o,ho,hd⟩:=qX
    exact⟨o,hk _ _ ho,hd⟩
 cell:=fun y c e=>by
  obtain⟨v,o,ho,hd⟩:=I.cell y c (dh S e).1
  exact⟨v,o,hk _ _ ho,hd⟩
 free:=I.aR.fresh hC
 dC:=fun y c e=>I.dC y c (dh S e).1
 pin:=fun p hp=>by
  have EW:p∈q:=by simpa[fE] using hp
  exact hq p EW
 aR:=I.aR.kept hk
 len:=by show (none::none::σ).length=(x::y::N').length;simp[I.len,S.len]
end
noncomputable def xB (K:Frag) (J:It) (tt:TT) (te:TE) (σ:St) (Q:VK) (W:Nat→Nat→List V→Hp→Prop):Prop:=∀i m ys H,W i m ys H →
 (J.stop i H∧ys.length≤sizeLine∧∀p,H p=none→Q (.ref p) (upd H p (.lst ys))) ∨
 (J.go i H∧ys.length<sizeLine∧∀x H',J.HV i H x H'→∃a u v,x = .ref a∧fh K H' a [u,v]∧tt (some u::some v::σ) H' fun b H3=>if b=true then te (some u::some v::σ) H3 fun y H4=>∃m',m'<m∧W (i+1) m' (ys++[y]) H4 else ∃m',m'<m∧W (i+1) m' ys H3)
noncomputable def CU (K:Frag) (wi:TI) (tt:TT) (te:TE):TE:=fun σ H Q=>wi σ H fun J H1=>∃W:Nat→Nat→List V→Hp→Prop,(∃m,W 0 m [] H1)∧xB K J tt te σ Q W
section
variable {X:Cx}{pins:List (Addr×Obj)}{σ:St}{x y:Str}{sc:Scope}{N':List Str}
theorem xC {s2:Shared}{H2:Hp}{elt iter:Expr}{ifs:List Expr}{px py pt pos:Pos}{kt:Nat}{tt:TT}{te:TE}{Q:VK}{RR:Value→Addr→Result→Shared→Prop}{E:Value→Shared→Prop}
  (hc:X.calm=true) (hN:X.N.Nodup) (S:iy X.N N' x y sc X.env.scope)
  (ht:∀C s2 H2 fp,vf (fE X N' x y sc C s2 H2 fp) ifs tt) (he:∀C s2 H2 fp,PE (fE X N' x y sc C s2 H2 fp) elt te)
  (I2:Inv X pins σ H2 s2) {it:Addr}{fp:List Addr}{tn:Nat→Heap→Prop}{J:It}(T:Turn X.prog X.w X.K (.Tuple [.Name x px,.Name y py] kt pt) J fp it tn) (wX:tn 0 s2.heap) (f2:∀b∈fp,g8 X pins H2 b)
  (W:Nat→Nat→List V→Hp→Prop) (w0:∃m,W 0 m [] H2)
  (turn:xB X.K J tt te σ Q W)
  (RM:∀D C s' H',Inv X pins σ H' s'→g8 X pins H' C→(∃m,s'.heap.Ns C m)→Q (.ref D) H'→RR (.ref D) C (.ok .next) s') :
  wpAny (model X.prog X.w) X.A (newList []) (fun acc s₃=>wpAny (model X.prog X.w) X.A (newFunctionEnv sc X.env.globals (bw sc.names X.env.cells []) [] X.env.qual none .none (some X.env)) (fun Cc s₄ =>
   codeAny (model X.prog X.w) X.A (.compStart (.ListComp elt [⟨.Tuple [.Name x px,.Name y py] kt pt,iter,ifs,0⟩] sc pos) 0 (.ref it) acc { Cc with scope:=relabel sc X.env }) (RR acc Cc.locals) s₄) E s₃) E s2:=by
 have qC:=T.obj _ _ wX
 refine wpAny_newObj_type (wpAny_newFunctionEnv S.dP (by intro y hy;simp at hy) (fun h₁ hns₁ hsb₁=>?_) S.kind)
 dsimp only at hns₁ hsb₁ ⊢
 generalize JO:s2.heap.push { cls:=.type "list",dict:=none,data:=.seq ([]:List Value).toArray }=HP at hns₁ hsb₁ ⊢
 have hC:HP.objs.size=s2.heap.objs.size+1:=by rw[←JO,Heap.size_push]
 have Cd:s2.heap.objs.size≠HP.objs.size:=by rw[hC];exact Nat.ne_of_lt (Nat.lt_succ_self _)
 have xu:s2.heap.objs.size≤HP.objs.size:=by rw[hC];exact Nat.le_succ _
 have below:∀b,b<s2.heap.objs.size→b≠HP.objs.size∧b≠s2.heap.objs.size:=fun b hb=>⟨by rw[hC];exact Nat.ne_of_lt (Nat.lt_succ_of_lt hb),Nat.ne_of_lt hb⟩
 have old:∀b o,s2.heap.get? b=some o→h₁.get? b=some o:=fun b o e=>hsb₁.extBut b o (below b (Heap.lt_size e)).1 (Heap.get?_push_of_some _ (JO▸Heap.get?_push_of_some _ e))
 have Ce:h₁.get? s2.heap.objs.size=some { cls:=.type "list",dict:=none,data:=.seq ([]:List Value).toArray }:=hsb₁.extBut _ _ Cd (Heap.get?_push_of_some _ (JO▸Heap.get?_push_size _ rfl))
 have RN:H2 s2.heap.objs.size=none:=I2.aR.fresh (Nat.le_refl _)
 have Cf:s2.heap.objs.size∉my X.stack:=fun hb=>by
  obtain⟨_,o,ho,_⟩:=I2.stack.mem hb
  exact absurd (Heap.lt_size ho) (Nat.lt_irrefl _)
 have Cg:s2.heap.objs.size∉fp:=fun hb=>by
  obtain⟨o,ho,_⟩:=qC _ hb
  exact absurd (Heap.lt_size ho) (Nat.lt_irrefl _)
 have JP:HP.objs.size∉fp:=fun hb=>by
  obtain⟨o,ho,_⟩:=qC _ hb
  exact absurd (Nat.lt_of_lt_of_le (Heap.lt_size ho) xu) (Nat.lt_irrefl _)
 obtain⟨m0,w0⟩:=w0
 have oa:∀{H':Hp}{o:Obj},(∀b∈fp,H' b=none)→∀b∈fp,g8 (fE X N' x y sc HP.objs.size s2 H2 fp) [(s2.heap.objs.size,o)] H' b:=fun {H' o} hn b hb=>by
  obtain⟨f0,f1,RO,f3,f4,f5⟩:=f2 b hb
  refine⟨hn b hb,fun e=>JP (by rw[←show b=HP.objs.size from e];exact hb),fun z=>?_,.inl hb,fun y c e=>f4 y c (dh S e).1,fun p hp=>?_⟩
  ·rcases List.mem_cons.mp (I2.i0 b z) with e|z
   ·exact f1 e
   ·exact RO z
  ·have:p=(s2.heap.objs.size,o):=by simpa[fE] using hp
   subst this
   rintro rfl
   exact Cg hb
 let Iv:Nat→Shared→Prop:=fun n s'=>∃i ys its k σx σy H',Inv (fE X N' x y sc HP.objs.size s2 H2 fp) [(s2.heap.objs.size,{ cls:=.type "list",data:=.seq (List.toArray its) k })] (σx::σy::σ) H' s' ∧
  Vals ys its∧tn i s'.heap∧(∀b∈fp,H' b=none)∧W i n ys H'
 have I4:Inv (fE X N' x y sc HP.objs.size s2 H2 fp) [(s2.heap.objs.size,{ cls:=.type "list",data:=.seq (List.toArray []) 0 })] (none::none::σ) H2 { s2 with heap:=h₁,toks:=s2.toks+([]:List (Str×Value)).length }:=by
  refine xA I2 S f2 qC xu (by simpa using hns₁) old fun p hp=>?_
  have e:p=(s2.heap.objs.size,{ cls:=.type "list",data:=.seq (List.toArray []) 0 }):=by simpa using hp
  subst e
  exact⟨Ce,RN,Cd,Cf,fun v=>by intro z;cases z⟩
 have loop:∀s₃:Shared,s₃={ s2 with heap:=h₁,toks:=s2.toks+([]:List (Str×Value)).length } →
   codeAny (model X.prog X.w) X.A (.compLoop (.ListComp elt [⟨.Tuple [.Name x px,.Name y py] kt pt,iter,ifs,0⟩] sc pos) 0 (.ref it) (.ref s2.heap.objs.size) (compEnvC sc (bw sc.names X.env.cells []) HP.objs.size X.env))
    (RR (.ref s2.heap.objs.size) HP.objs.size) s₃:=by
  rintro s₃ rfl
  refine lH Iv ?_ m0 ⟨0,[],[],0,none,none,H2,I4,.nil,T.keep _ _ _ wX fun b _ o e=>old b o e,fun b hb=>(f2 b hb).1,w0⟩
  rintro n s3 ⟨i,ys,its,k,σx,σy,H3,I3,rv,HX,HY,w3⟩
  have hy:=rv.length
  rcases turn i n ys H3 w3 with⟨stop,hz,q⟩|⟨go,hz,step⟩
  ·refine bG (T.done (fE X N' x y sc HP.objs.size s2 H2 fp) rfl rfl rfl hc i _ s3 _ H3 _ I3 (oa HY) HX stop) fun r s4 ⟨hr,I4⟩=>?_
   subst hr
   have pD:=I4.pin (s2.heap.objs.size,{ cls:=.type "list",data:=.seq (List.toArray its) k }) (by simp[fE])
   have new:aX X.prog X.w (upd H3 s2.heap.objs.size (.lst ys)) s4.heap s2.heap.objs.size (.lst ys):=⟨hz,its,k,rv,pD.1⟩
   have B9:=I4.aR.kF (o:=.lst ys) pD.2.1 new
   have RP:Un (my X.stack) fp H2 (upd H3 s2.heap.objs.size (.lst ys)) s2.heap s4.heap:=I4.base.kF pD.2.1 (Heap.get?_none_of_le (Nat.le_refl _))
   have IX:Inv X pins σ (upd H3 s2.heap.objs.size (.lst ys)) s4:=I2.BG I4.os RP B9 I4.bare fun b hb=>⟨(f2 b hb).2.2.2.1,(f2 b hb).2.1,(f2 b hb).2.2.2.2.1,(f2 b hb).2.2.2.2.2⟩
   obtain⟨m,Cb,_⟩:=I4.loc
   refine RM _ _ s4 _ IX ?_ ⟨m,Cb⟩ (q _ pD.2.1)
   exact I2.uZ xu (by rw[av (Ne.symm Cd)];exact I4.free)
  ·refine bG (T.item (fE X N' x y sc HP.objs.size s2 H2 fp) rfl rfl rfl hc i _ s3 _ H3 _ I3 (oa HY) HX go) fun r s4 ⟨u,hr,h4⟩=>?_
   subst hr
   refine bG h4 fun _ s5 ⟨y',H5,I5,r5,y5,BL,Mz⟩=>?_
   have MA:=I5.pinned (oa Mz) (T.obj _ _ BL)
   obtain⟨ta,tu,tv,rfl,tsq,Ci⟩:=step y' H5 y5
   have JQ:Inv (fE X N' x y sc HP.objs.size s2 H2 fp) ([(s2.heap.objs.size,{ cls:=.type "list",data:=.seq (List.toArray its) k })]++i5 fp s5.heap) (none::none::σ) H5 s5:=MA.weak rfl fun j v e=>by
    match j with
    | 0=>simp at e
    | 1=>simp at e
    | j+2=>simpa using e
   have lx:(relabel sc X.env).names.lookup x=some .local:=lookup_relabel_local S.has
   have ly:(relabel sc X.env).names.lookup y=some .local:=lookup_relabel_local S.Sl
   have uL:(x::y::N').Nodup:=List.nodup_cons.mpr ⟨fun z=>by rcases List.mem_cons.mp z with z|z;exact S.ne z;exact S.wU z,List.nodup_cons.mpr ⟨S.noy,S.nd⟩⟩
   have RQ:PG (fE X N' x y sc HP.objs.size s2 H2 fp) (.Tuple [.Name x px,.Name y py] kt pt) (Jq X.K 2 (BI (aU 0) (BI (aU 1) Ms))):=d3 X.K hc (aQ (aH (i:=0) uL rfl (Or.inl lx) (Or.inr lx)) (aQ (aH (i:=1) uL rfl (Or.inl ly) (Or.inr ly)) dZ))
   refine bG (RQ _ s5 (none::none::σ) H5 (.ref ta) u (fun σ6 H6=>σ6=some tu::some tv::σ∧tt (some tu::some tv::σ) H6 fun b H3=>if b=true then te (some tu::some tv::σ) H3 fun y H4=>∃m',m'<n∧W (i+1) m' (ys++[y]) H4 else ∃m',m'<n∧W (i+1) m' ys H3) JQ r5 ⟨ta,_,rfl,tsq,rfl,tu,_,rfl,tv,_,rfl,rfl,rfl,Ci⟩) fun _ s6 ⟨σ6,H6,I6,e6,q6⟩=>?_
   subst e6
   refine bG (ht _ s2 H2 fp _ s6 _ H6 _ I6 q6) fun b s7 ⟨H7,I7,q7⟩=>?_
   have vg:∀{H8:Hp}{s8:Shared},Inv (fE X N' x y sc HP.objs.size s2 H2 fp) ([(s2.heap.objs.size,{ cls:=.type "list",data:=.seq (List.toArray its) k })]++i5 fp s5.heap) (some tu::some tv::σ) H8 s8 →
     tn (i+1) s8.heap∧(∀b∈fp,H8 b=none):=fun {H8 s8} I8=>by
    refine⟨T.keep _ _ _ BL fun b hb o e=>(I8.pin (b,o) (mem_append_right _ (mem_append_right _ (eC hb e)))).1,fun b hb=>?_⟩
    obtain⟨o,e,d⟩:=T.obj _ _ BL b hb
    exact(I8.pin (b,o) (mem_append_right _ (mem_append_right _ (eC hb e)))).2.1
   cases b with
   | false =>
    obtain⟨m',hm,w7⟩:=q7
    obtain⟨t7,f7⟩:=vg I7
    exact⟨m',hm,i+1,ys,its,k,some tu,some tv,H7,I7.i6,rv,t7,f7,w7⟩
   | true =>
    refine bG (he _ s2 H2 fp _ s7 _ H7 _ I7 q7) fun z s8 ⟨yv,H8,I8,r8,m',hm,w8⟩=>?_
    obtain⟨t8,f8⟩:=vg I8
    have pD:=I8.pin (s2.heap.objs.size,{ cls:=.type "list",data:=.seq (List.toArray its) k }) (by simp[fE])
    refine call_meets F.slot_list_append ⟨_,pD.1,rfl⟩ F.entry_list_append (F.args_list_append_2 _ _) (PySem.list_append s2.heap.objs.size its.toArray k z (by rw[List.size_toArray];omega)) ⟨pD.1,?_⟩
    have e9:=PySem.IsL.update pD.1 (fun a=>a.push z)
    rw[show its.toArray.push z=(its++[z]).toArray by simp] at e9
    obtain⟨k',e9⟩:∃k',(s8.heap.update s2.heap.objs.size (Obj.mapSeq fun a=>a.push z)).get? s2.heap.objs.size=some { cls:=.type "list",data:=.seq (its++[z]).toArray k' }:=⟨_,e9⟩
    have other:∀b,b≠s2.heap.objs.size→(s8.heap.update s2.heap.objs.size (Obj.mapSeq fun a=>a.push z)).get? b=s8.heap.get? b:=fun b hb=>Heap.get?_update_other _ _ (Ne.symm hb)
    have RS:Inv (fE X N' x y sc HP.objs.size s2 H2 fp) [] (some tu::some tv::σ) H8 s8:=I8.j5 fun p hp=>nomatch hp
    have I9:Inv (fE X N' x y sc HP.objs.size s2 H2 fp) [] (some tu::some tv::σ) H8 { s8 with heap:=s8.heap.update s2.heap.objs.size (Obj.mapSeq fun a=>a.push z) }:=by
     refine RS.turned (it:=s2.heap.objs.size) (fun b o hb e=>(other b hb).trans e) pD.2.1 Cd (.inr (Nat.le_refl _)) (fun y c e=>?_) fun p hp=>?_
     ·intro LN
      obtain⟨v,o,ho,_⟩:=I2.cell y c (dh S e).1
      exact absurd (Heap.lt_size ho) (by rw[LN];exact Nat.lt_irrefl _)
     ·simp[fE] at hp
    have RT:Inv (fE X N' x y sc HP.objs.size s2 H2 fp) [(s2.heap.objs.size,{ cls:=.type "list",data:=.seq (List.toArray (its++[z])) k' })] (some tu::some tv::σ) H8 { s8 with heap:=s8.heap.update s2.heap.objs.size (Obj.mapSeq fun a=>a.push z) }:=I9.j5 fun p hp=>by
     have e:=mem_singleton.mp hp
     subst e
     exact⟨e9,pD.2.1,Cd,Cf,fun v=>by intro z;cases z⟩
    have t9:tn (i+1) (s8.heap.update s2.heap.objs.size (Obj.mapSeq fun a=>a.push z)):=T.keep _ _ _ t8 fun b hb o e=>by
     rw[other b (by rintro rfl;exact Cg hb)];exact e
    exact⟨m',hm,i+1,ys++[yv],its++[z],k',some tu,some tv,H8,RT,rv.append (.cons r8 .nil),t9,f8,w8⟩
 exact codeAny_compStart_list (loop _ rfl) (T.self X.A 0 _ _ _ (T.keep _ _ _ wX fun b _ o e=>old b o e) (loop _ rfl))
theorem CV {iter elt:Expr}{ifs:List Expr}{px py pt pos:Pos}{kt:Nat}{wi:TI}{tt:TT}{te:TE}(hc:X.calm=true) (hN:X.N.Nodup) (S:iy X.N N' x y sc X.env.scope) (hi:PI X (.Tuple [.Name x px,.Name y py] kt pt) iter wi)
  (ht:∀C s2 H2 fp,vf (fE X N' x y sc C s2 H2 fp) ifs tt) (he:∀C s2 H2 fp,PE (fE X N' x y sc C s2 H2 fp) elt te) (hs:∀v,foldedSetIterable iter X.env v=pure v:=by intro _;rfl) :
  PE X (.ListComp elt [⟨.Tuple [.Name x px,.Name y py] kt pt,iter,ifs,0⟩] sc pos) (CU X.K wi tt te):=by
 intro pins s σ H Q I h
 have vh:closureFor sc X.env=pure (bw sc.names X.env.cells []):=kU fun y hy hk=>I.ok.has _ (S.free y hy hk)
 rw[eval_ListComp]
 refine wpAny_comprehension_free (use:=none) rfl hs vh S.kind S.names (bG (hi pins s σ H _ I h) fun v s1 h1=>bG h1 fun Mt s2 h2=>?_)
 obtain⟨it,fp,tn,J,H2,e,I2,T,wX,f2,W,w0,turn⟩:=h2
 subst e
 refine xC (RR:=fun acc C=>compPost (model X.prog X.w) X.A X.xe none (EP X pins σ Q) acc C) hc hN S ht he I2 T wX f2 W w0 turn fun D C s' H' I' fC hn q=>?_
 obtain⟨m,hn⟩:=hn
 refine⟨m,hn,fun h' FP=>⟨.ref D,H',?_,rfl,q⟩⟩
 exact I'.turned (t':=s'.toks) (fun b o hb e=>(FP.2 b hb).trans e) fC.1 fC.2.1 fC.2.2.2.1 fC.2.2.2.2.1 fC.2.2.2.2.2
end
section
variable {X:Cx}{pins:List (Addr×Obj)}{σ:St}{H:Hp}{s:Shared}{h':Heap}
end
noncomputable def Itz (K:Frag) (a b:Addr):It :=
 ⟨fun i H=>∃xs x ys y,cC K H a xs∧xs[i]?=some x∧cC K H b ys∧ys[i]?=some y,fun i H x H'=>∃p u v,H p=none∧x = .ref p∧H'=upd H p (.tup [u,v])∧(∀xs,cC K H a xs→xs[i]?=some u)∧∀ys,cC K H b ys→ys[i]?=some v,
  fun i H=>∃xs ys,cC K H a xs∧cC K H b ys∧(xs.length≤i∨ys.length≤i)⟩
section
variable {X:Cx}
noncomputable def iZip (K:Frag) (ta:TA):TI:=fun σ H R=>ta σ H fun vs H1=>∃a b xs ys,vs=[.ref a,.ref b]∧cC K H1 a xs∧cC K H1 b ys∧R (Itz K a b) H1
theorem AA (K:Frag) {x y:Str}{sc:Scope}{N':List Str}{iter elt:Expr}{ifs:List Expr}{px py pt pos:Pos}{kt:Nat}{wi:TI}{tt:TT}{te:TE}(hc:X.calm=true) (hN:X.N.Nodup) (S:iy X.N N' x y sc X.env.scope) (hi:PI X (.Tuple [.Name x px,.Name y py] kt pt) iter wi)
  (ht:∀C s2 H2 fp,vf (fE X N' x y sc C s2 H2 fp) ifs tt) (he:∀C s2 H2 fp,PE (fE X N' x y sc C s2 H2 fp) elt te) (hs:∀v,foldedSetIterable iter X.env v=pure v:=by intro _;rfl) (hK:X.K=K:=by rfl) :
  PE X (.ListComp elt [⟨.Tuple [.Name x px,.Name y py] kt pt,iter,ifs,0⟩] sc pos) (CU K wi tt te):=hK▸CV hc hN S hi ht he hs
end
structure DefD (K:Frag) (mg:Str→Option Value) (x:Str) (st:Stmt) (ps:List Str):Prop where
 ex:∃(f:Addr) (fd:FuncData) (oc:Value) (od:Option Addr) (dV kV doc pm:Value) (an:Option Addr) (bf ct:Value) (oh:Array (Option Value)),
  fd=fnOf x x (ax st) (aw st) (af st) dV kV doc pm an bf ct∧K.lookup f=some ⟨oc,od,.func fd,oh⟩∧codeIn K bf x=true∧keepIn K (.ref f)=true∧mg x=some (.ref f)∧Binds K fd ps []∧∃t,Binds K fd ps [.int 0 t]
structure CalD (P:Program) (w:World) (K:Frag) (mg:Str→Option Value) (base:Heap) (CX:yJ) (k:Nat) (x:Str) (ps:List Str) (sp:Sp):Prop where
 all:bR P w K mg base CX k x ps sp
 vn:∃(f:Addr) (fd:FuncData) (t:Tok),fj P w K mg base CX k f fd ps sp∧mg x=some (.ref f)∧keepIn K (.ref f)=true∧Binds K fd ps [.int 0 t]
section
variable {P:Program}{w:World}{K:Frag}{mg:Str→Option Value}{base:Heap}{x:Str}{st:Stmt}{ps N:List Str}{sp:Sp}{k:Nat}
end
section
variable {X:Cx}{k:Nat}{x:Str}{ps:List Str}{sp:Sp}{p pos:Pos}{e:Expr}{es:List Expr}{t:TA}
end
inductive Nm (K:Frag) (H:Hp):V→V→Prop where
 | of {x y:V}(h:Qa K H x y):Nm K H x y
 | tup {p q:Addr}{xs:List V}(fG:p≠q) (h1:fh K H p xs) (h2:fh K H q xs) (h:xs.all gy=true):Nm K H (.ref p) (.ref q)
section
variable {X:Cx}
noncomputable def rNest (K:Frag):R2:=fun x y H Q=>∃p q xs ys,x = .ref p∧y = .ref q∧fh K H p xs∧fh K H q ys∧xs.length=ys.length∧(∀(j:Nat) x y,xs[j]?=some x→ys[j]?=some y→Nm K H x y)∧Q (.bl false) H
end
section
variable {P:Program}{w:World}{K:Frag}{mg:Str→Option Value}{base:Heap}{x:Str}{st:Stmt}{ps N:List Str}{sp:Sp}{k:Nat}
end
section
variable {X:Cx}{k:Nat}{x:Str}{ps:List Str}{sp:Sp}{p pos:Pos}{e:Expr}{es:List Expr}{t:TA}
end
theorem qG {env:Env}:∀{names:List (Str×NameKind)}{x:Str}{k:NameKind},
  (names.map fun(n,k)=>if (k == NameKind.free&&env.scope.kind == .function&&env.kindOf n == some .cell) then (n,NameKind.cell) else (n,k)).lookup x=some k →
  names.lookup x=some k∨(names.lookup x=some .free∧k = .cell)
 | [],_,_,h=>by simp at h
 | (n,k')::r,x,k,h=>by
  have ih:=@qG env r x k
  rw[List.map_cons] at h
  by_cases xr:(k' == NameKind.free&&env.scope.kind == .function&&env.kindOf n == some .cell)=true
  ·simp only[xr,if_true] at h
   rw[List.lookup_cons] at h ⊢
   cases hx:x == n with
   | true =>
    rw[hx] at h
    have EV:k' = .free:=by
     have:=(Bool.and_eq_true_iff.mp (Bool.and_eq_true_iff.mp xr).1).1
     simpa using this
    have:NameKind.cell=k:=by simpa using h
    exact .inr ⟨by rw[EV],this.symm⟩
   | false=>rw[hx] at h;exact ih h
  ·simp only[xr] at h
   rw[show (if false=true then (n,NameKind.cell) else (n,k'))=(n,k') from rfl] at h
   rw[List.lookup_cons] at h ⊢
   cases hx:x == n with
   | true=>rw[hx] at h;exact .inl h
   | false=>rw[hx] at h;exact ih h
structure Qe (N N':List Str) (x:Str) (sc osc:Scope):Prop where
 kind:sc.kind = .function
 cells:(sc.names.filter fun y=>y.2 == .cell)=[(x,.cell)]
 own:∀y∈sc.names,y.2 = .local→y.1=".0"
 has:sc.names.lookup x=some .cell
 names:∀y∈sc.names,y.2 = .local→sc.names.lookup y.1=some .local
 wU:x∉N'
 PZ:(".0":Str)∉N'
 nd:N'.Nodup
 len:N'.length=N.length
 sub:∀p∈N.zip N',p.1=p.2∨sc.names.lookup p.2=none
 free:∀y∈sc.names,y.2 = .free→osc.names.lookup y.1=some .cell∨osc.names.lookup y.1=some .free
noncomputable def csOkC (N N':List Str) (x:Str) (sc osc:Scope):Bool :=
 decide (sc.kind = .function)&&decide ((sc.names.filter fun y=>y.2 == .cell)=[(x,.cell)])&&decide (∀y∈sc.names,y.2 = .local→y.1=".0")&&decide (sc.names.lookup x=some .cell) &&
  decide (∀y∈sc.names,y.2 = .local→sc.names.lookup y.1=some .local)&&decide (x∉N')&&decide ((".0":Str)∉N')&&decide N'.Nodup&&decide (N'.length=N.length)&&decide (∀p∈N.zip N',p.1=p.2∨sc.names.lookup p.2=none)&&decide (∀y∈sc.names,y.2 = .free→osc.names.lookup y.1=some .cell∨osc.names.lookup y.1=some .free)
noncomputable def blkC (X:Cx) (N':List Str) (x:Str) (sc:Scope) (C:Addr) (s2:Shared) (H2:Hp) (fp:List Addr):Cx :=
 { X with N:=x::N',s₀:=s2,H₀:=H2,env:=compEnvC sc ((x,C+1)::bw sc.names X.env.cells []) C X.env,outer:=X.stack,stack:=X.stack,ex:=fp,fn:=fun y=>decide (y=x),pn:=[],xe:=fun _ _=>False }
section
variable {X:Cx}{pins:List (Addr×Obj)}{σ:St}{H H2:Hp}{s s2:Shared}{x:Str}{sc:Scope}{C:Addr}{fp:List Addr}{N':List Str}
end
noncomputable def relS (sc osc:Scope):Scope:={ sc with names:=sc.names.map fun(n,k)=>if (k == .free&&osc.kind == .function&&osc.names.lookup n == some .cell) then (n,.cell) else (n,k) }
section
variable {X:Cx}
noncomputable def rAlt (K:Frag) (neg:Bool):R2:=fun x y H Q=>∃p q xs ys,x = .ref p∧y = .ref q∧cC K H p xs∧cC K H q ys∧xs.length=ys.length∧(∀(j:Nat) x y,xs[j]?=some x→ys[j]?=some y→Nm K H x y)∧Q (.bl (!neg)) H
end
section
variable {P0:Program}{w0:World}{A0:Around}{E0':Value→Shared→Prop}{s0:Shared}{I l:Addr}{its:Array Value}
end
section
variable {X:Cx}{e:Expr}{te:TE}{p1 p2 pos1 pos2:Pos}
noncomputable def tLrv (K:Frag) (te:TE):TE:=fun σ H Q=>te σ H fun x H1=>∃p ys,x = .ref p∧cC K H1 p ys∧∀q,H1 q=none→Q (.ref q) (upd H1 q (.lst ys.reverse))
end
noncomputable def So (lo:Int) (n:Nat):It:=⟨fun i _=>i<n,fun i H x H'=>H'=H∧x = .int (lo+i*2),fun i _=>n≤i⟩
section
variable {X:Cx}{tg:Expr}
noncomputable def iRng3 (ta:TA):TI:=fun σ H R=>ta σ H fun vs H1=>∃(i j:Int) (n:Nat),vs=[.int i,.int j,.int 2]∧(-(2^60)≤i∧i<2^60∧-(2^60)≤j∧j<2^60)∧(n:Int)=(if i<j then (j-i-1)/2+1 else 0)∧R (So i n) H1
end
section
variable {X:Cx}
noncomputable def Qf:V→List V→Hp→VK→Prop:=fun x vs H Q=>∃(l:Addr) (xs:List V) (i:Nat) (y:V),x = .ref l∧vs=[.int (i:Int),y]∧H l=some (.lst xs)∧i≤xs.length∧xs.length<1000∧Q .cK (upd H l (.lst (xs.take i++y::xs.drop i)))
end
end L2
namespace TC
noncomputable def Nn (ns:List Int):Nat:=ns.foldl (fun g n=>Nat.gcd g n.natAbs) 0
noncomputable def vo:List Int→Bool
 | []=>false
 | n::r=>if n=0 then vo r else decide (n<0)
noncomputable def Ss (ns:List Int):Int:=if vo ns=true then -(Nn ns:Int) else (Nn ns:Int)
noncomputable def CW (ns:List Int):List Int:=ns.map fun n=>n.fdiv (Ss ns)
noncomputable def Il (ns:List Int):Prop:=∃n∈ns,n≠0
noncomputable def Small (ns:List Int):Prop:=∀n∈ns,n.natAbs<2^2000
noncomputable def okLen (n:Nat):Prop:=n=2∨n=4∨n=8∨n=16∨n=32∨n=64
end TC
namespace TC
theorem big {n:Int}(h1:-1606938044258990275541962092341162602522202993782792835301376<n) (h2:n<1606938044258990275541962092341162602522202993782792835301376):n.natAbs<2^4000 :=
 Nat.lt_of_lt_of_le (show n.natAbs<1606938044258990275541962092341162602522202993782792835301376 by omega)
  (Nat.le_trans (show 1606938044258990275541962092341162602522202993782792835301376≤2^200 by decide) (Nat.pow_le_pow_right (by decide) (by decide)))
noncomputable def Med (ns:List Int):Prop:=∀n∈ns,-1606938044258990275541962092341162602522202993782792835301376<n∧n<1606938044258990275541962092341162602522202993782792835301376
theorem Su (k:Int) (h1:0≤k) (h2:k≤1000000):L2.BO 10 k:=⟨h1,h2,by decide⟩
theorem fo (x:Int) {m:Int}(h:0<m):0≤x%m:=Int.emod_nonneg x (by omega)
theorem iP (x:Int) {m:Int}(h:0<m):x%m<m:=Int.emod_lt_of_pos x h
theorem Bw {x m:Int}(h:0<m) (h2:m<1606938044258990275541962092341162602522202993782792835301376):L2.Ij x m:=⟨by omega,big (by omega) h2⟩
end TC
namespace TC
open PySem L2
inductive Gt where
 | mix (c:Nat)
 | flip (c:Nat)
 | sign (c:Nat)
 | d4 (a b:Nat)
 | meet (a b:Nat)
 | swap (a b:Nat)
noncomputable def Gt.vals:Gt→List V
 | .mix c=>[.str "mix",.int c]
 | .flip c=>[.str "flip",.int c]
 | .sign c=>[.str "sign",.int c]
 | .d4 a b=>[.str "follow",.int a,.int b]
 | .meet a b=>[.str "meet",.int a,.int b]
 | .swap a b=>[.str "swap",.int a,.int b]
noncomputable def Gt.ok (m:Nat):Gt→Prop
 | .mix c=>c<m
 | .flip c=>c<m
 | .sign c=>c<m
 | .d4 a b=>a<m∧b<m∧a≠b
 | .meet a b=>a<m∧b<m∧a≠b
 | .swap a b=>a<m∧b<m∧a≠b
noncomputable def fl (p c:Nat):Nat:=p^^^2^c
noncomputable def bt (p c:Nat):Bool:=p.testBit c
noncomputable def nJ (xs:List Int) (i:Nat):Int:=xs.getD i 0
noncomputable def Sv (xs:List Int) (p:Nat):Gt→Int
 | .mix c=>if bt p c=true then nJ xs (fl p c)-nJ xs p else nJ xs p+nJ xs (fl p c)
 | .flip c=>nJ xs (fl p c)
 | .sign c=>if bt p c=true then-nJ xs p else nJ xs p
 | .d4 a b=>if bt p a=true then nJ xs (fl p b) else nJ xs p
 | .meet a b=>if (bt p a&&bt p b)=true then-nJ xs p else nJ xs p
 | .swap a b=>if (bt p a != bt p b)=true then nJ xs (fl (fl p a) b) else nJ xs p
noncomputable def gap (g:Gt) (xs:List Int):List Int:=(List.range xs.length).map fun p=>Sv xs p g
theorem Np (p c:Nat):bt (fl p c) c = !bt p c:=by unfold bt fl;rw[Nat.testBit_xor,Nat.testBit_two_pow_self];cases p.testBit c<;>rfl
theorem CY {p a b:Nat}(h:a≠b):bt (fl p b) a=bt p a:=by
 unfold bt fl
 rw[Nat.testBit_xor,Nat.testBit_two_pow_of_ne (Ne.symm h)];cases p.testBit a<;>rfl
theorem Nq {m p c:Nat}(hp:p<2^m) (hc:c<m):fl p c<2^m:=Nat.xor_lt_two_pow hp (Nat.pow_lt_pow_right (by decide) hc)
noncomputable def Gt.two:Gt→Int
 | .mix _=>2
 | _=>1
noncomputable def Sz (k:Nat) (xs:List Int):Prop:=∀n∈xs,n.natAbs<2^k
noncomputable def Sw (xs:List Int) (g:Gt):List Int:=CW (gap g xs)
noncomputable def run (gs:List Gt) (xs:List Int):List Int:=gs.foldl Sw xs
structure Fit (m k:Nat) (xs:List Int):Prop where
 l:xs.length=2^m
 s:Il xs
 z:Sz k xs
structure Gts (H:Hp) (m:Nat) (as:List Addr) (gs:List Gt):Prop where
 l:as.length=gs.length
 g:∀(i:Nat) (a:Addr),as[i]?=some a→∃g,gs[i]?=some g∧H a=some (.tup g.vals)∧g.ok m
noncomputable abbrev rV (as:List Addr):List V:=as.map V.ref
theorem cy {as:List Addr}{i:Nat}{x:V}(h:(rV as)[i]?=some x):∃a,as[i]?=some a∧x = .ref a:=by
 rw[getElem?_map] at h
 cases e:as[i]? with
 | none=>rw[e] at h;cases h
 | some z=>rw[e] at h;exact⟨z,rfl,(Option.some.inj h).symm⟩
theorem cL {K:Frag}{H:Hp}{a:Addr}{xs:List V}(h:H a=some (.tup xs)):fh K H a xs:=.inl (.inl h)
noncomputable def dbl {α:Type}(as:List α):List α:=as.flatMap fun a=>[a,a]
noncomputable def Sx (n:Nat) (f:Nat→Int):Int:=((List.range n).map f).sum
noncomputable def dot (xs ys:List Int):Int:=Sx xs.length fun p=>nJ xs p*nJ ys p
noncomputable def fol (a b p:Nat):Nat:=if bt p a=true then fl p b else p
noncomputable def swp (a b p:Nat):Nat:=if (bt p a != bt p b)=true then fl (fl p a) b else p
structure Ovl (xs ys hs ts:List Int) (a b t:Int):Prop where
 a0:a≠0
 b0:b≠0
 t0:t≠0
 xy:a*b*dot hs ts=t*dot xs ys
 xx:a*a*dot hs hs=t*dot xs xs
 yy:b*b*dot ts ts=t*dot ys ys
end TC
namespace TC
open PySem L2 PyProof.Rows
theorem vp (m:Nat):∀n:Nat,(m^^^n)+(m&&&n)=(m|||n):=fun n=>by
 have h:=nat_or_add_and (m^^^n) (m&&&n)
 have e1:(m^^^n)|||(m&&&n)=m|||n:=Nat.eq_of_testBit_eq fun i=>by
  rw[Nat.testBit_or,Nat.testBit_xor,Nat.testBit_and,Nat.testBit_or];cases m.testBit i<;>cases n.testBit i<;>rfl
 have e2:(m^^^n)&&&(m&&&n)=0:=Nat.eq_of_testBit_eq fun i=>by
  rw[Nat.testBit_and,Nat.testBit_xor,Nat.testBit_and,Nat.zero_testBit];cases m.testBit i<;>cases n.testBit i<;>rfl
 rw[e1,e2,Nat.add_zero] at h
 exact h.symm
theorem Nr (a b:Nat):Builtin.bitOr (a:Int) (b:Int)=((a|||b:Nat):Int):=by
 rw[bitOr_and,mF]
 have:=nat_or_add_and a b
 omega
theorem sS (a b:Nat):Builtin.bitXor (a:Int) (b:Int)=((a^^^b:Nat):Int):=by
 show Builtin.bitOr (a:Int) (b:Int)-Builtin.bitAnd (a:Int) (b:Int)=_
 rw[Nr,mF]
 have:=vp a b
 omega
noncomputable def LU:Nat→Nat→Nat
 | 0,_=>0
 | k+1,n=>n%2+LU k (n/2)
theorem vq:∀k,LU k 0=0
 | 0=>rfl
 | k+1=>by rw[LU,Nat.zero_mod,Nat.zero_div,vq k]
noncomputable def pc (n:Nat):Nat:=LU 6 n
noncomputable def par (n:Nat):Bool:=((bt n 0 ^^ bt n 1) ^^ (bt n 2 ^^ bt n 3)) ^^ (bt n 4 ^^ bt n 5)
theorem xD:∀n:Nat,n<64→(pc n%2=if par n then 1 else 0):=by decide +kernel
theorem vw:par 0=false:=by decide +kernel
theorem sT (a b c:Nat):bt (a^^^b) c=(bt a c ^^ bt b c):=by unfold bt;rw[Nat.testBit_xor]
theorem oG (a b c:Nat):bt (a&&&b) c=(bt a c&&bt b c):=by unfold bt;rw[Nat.testBit_and]
theorem yX (a b:Nat):par (a^^^b)=(par a ^^ par b):=by
 unfold par
 simp only[sT]
 exact(by decide +kernel:∀a0 a1 a2 a3 a4 a5 b0 b1 b2 b3 b4 b5:Bool,((((a0 ^^ b0) ^^ (a1 ^^ b1)) ^^ ((a2 ^^ b2) ^^ (a3 ^^ b3))) ^^ ((a4 ^^ b4) ^^ (a5 ^^ b5)))=((((a0 ^^ a1) ^^ (a2 ^^ a3)) ^^ (a4 ^^ a5)) ^^ (((b0 ^^ b1) ^^ (b2 ^^ b3)) ^^ (b4 ^^ b5)))) _ _ _ _ _ _ _ _ _ _ _ _
theorem AB (a b c:Nat):a&&&(b^^^c)=(a&&&b)^^^(a&&&c):=Nat.and_xor_distrib_left ..
theorem AD (a b c:Nat):(a^^^b)&&&c=(a&&&c)^^^(b&&&c):=Nat.and_xor_distrib_right ..
theorem Im (a b c:Nat):par (a&&&(b^^^c))=(par (a&&&b) ^^ par (a&&&c)):=by rw[AB,yX]
theorem rC (a b c:Nat):par ((a^^^b)&&&c)=(par (a&&&c) ^^ par (b&&&c)):=by rw[AD,yX]
theorem gb (a b:Nat):par (a&&&b)=par (b&&&a):=by rw[Nat.and_comm]
noncomputable def chg (n:Int) (b:Bool):Int:=if b=true then -n else n
theorem yY (n:Int) (a b:Bool):chg (chg n a) b=chg n (a ^^ b):=by cases a<;>cases b<;>simp[chg]
theorem F3 (n m:Int) (b:Bool):m*chg n b=chg (m*n) b:=by cases b<;>simp[chg,Int.mul_neg]
theorem F4 (n m:Int) (b:Bool):chg n b*m=chg (n*m) b:=by cases b<;>simp[chg,Int.neg_mul]
structure Rw where
 sg:Int
 x:Nat
 z:Nat
noncomputable def Rw.vals (r:Rw):List V:=[.int r.sg,.int r.x,.int r.z]
noncomputable def one (s:Int):Prop:=s=1∨s=-1
structure Rw.ok (r:Rw) (m:Nat):Prop where
 s:one r.sg
 x:r.x<2^m
 z:r.z<2^m
theorem lN {n:Int}(h:one n) (b:Bool):one (chg n b):=by rcases h with rfl|rfl<;>cases b<;>simp[chg,one]
theorem one_mul {a b:Int}(h:one a) (h':one b):one (a*b):=by rcases h with rfl|rfl<;>rcases h' with rfl|rfl<;>simp[one]
theorem CZ {a:Int}(h:one a):a*a=1:=by rcases h with rfl|rfl<;>rfl
noncomputable def snt (xs:List Int) (p:Nat) (r:Rw):Int:=chg (r.sg*nJ xs p) (par (p&&&r.z))
noncomputable def lay (r:Rw) (xs:List Int):List Int:=(List.range xs.length).map fun p=>snt xs (p^^^r.x) r
theorem C0 {m a b:Nat}(ha:a<2^m) (hb:b<2^m):a^^^b<2^m:=Nat.xor_lt_two_pow ha hb
theorem le64 {m n:Nat}(h:m≤6) (hn:n<2^m):n<64:=Nat.lt_of_lt_of_le hn (Nat.pow_le_pow_right (by decide) h)
noncomputable def bz (a b:Rw):Rw:=⟨chg (a.sg*b.sg) (par (a.z&&&b.x)),a.x^^^b.x,a.z^^^b.z⟩
noncomputable def sU (a b:Rw):Bool:=(par (a.x&&&b.z)) == (par (a.z&&&b.x))
noncomputable def nT (a:Rw):Bool:=!par (a.x&&&a.z)
theorem oH {m:Nat}{a b:Rw}(ha:a.ok m) (hb:b.ok m):(bz a b).ok m:=⟨lN (one_mul ha.s hb.s) _,C0 ha.x hb.x,C0 ha.z hb.z⟩
theorem Sy (n:Nat):(n&&&1:Nat)=n%2:=by rw[Nat.and_one_is_mod]
end TC
namespace TC
open PySem L2
noncomputable def Wid (b:Int) (ns:List Int):Prop:=∀n∈ns,-b≤n∧n≤b
theorem gF (m:Nat):(1:Int)*2^(m:Int).toNat=((2^m:Nat):Int):=by rw[Int.one_mul,Int.toNat_natCast,Int.natCast_pow];rfl
theorem Ke {m:Nat}(h:m≤6):BO 1 (m:Int):=⟨Int.natCast_nonneg _,by omega,by decide⟩
noncomputable def gos (r:Rw) (p:Nat) (s:Int):Int:=chg (s*r.sg) (par (p&&&r.z))
noncomputable def spot:Nat→Nat
 | 0=>0
 | i+1=>2^i
noncomputable def tg (n c:Nat) (b:Bool):Nat:=if b=true then fl n c else n
theorem C1 (c i:Nat):bt (2^c) i=decide (c=i):=by unfold bt;rw[Nat.testBit_two_pow]
theorem xE {c:Nat}(h:c<6) (z:Nat):par (2^c&&&z)=bt z c:=by
 have:c=0∨c=1∨c=2∨c=3∨c=4∨c=5:=by omega
 rcases this with rfl|rfl|rfl|rfl|rfl|rfl<;>unfold par<;>simp only[oG,C1]<;>simp
theorem Kf {c:Nat}(h:c<6) (q z:Nat):par (fl q c&&&z)=(par (q&&&z) ^^ bt z c):=by unfold fl;rw[rC,xE h]
theorem jg {c:Nat}(h:c<6) (q z:Nat) (b:Bool):par (tg q c b&&&z)=(par (q&&&z) ^^ (b&&bt z c)):=by
 cases b
 ·simp[tg]
 ·simp[tg,Kf h]
theorem iz {c:Nat}(h:c<6) (q z:Nat) (b:Bool):par (q&&&tg z c b)=(par (q&&&z) ^^ (b&&bt q c)):=by rw[gb,jg h,gb]
theorem nv {m n c:Nat}(h:n<2^m) (hc:c<m) (b:Bool):tg n c b<2^m:=by cases b<;>simp[tg]<;>first|exact h|exact Nq h hc
theorem oI {n a b:Nat}(h:a≠b) (u:Bool):bt (tg n b u) a=bt n a:=by cases u<;>simp[tg,CY h]
theorem Io (n a:Nat) (u:Bool):bt (tg n a u) a=(bt n a ^^ u):=by cases u<;>simp[tg,Np]
noncomputable def C2 (n a b:Nat):Nat:=tg (tg n a (bt n a ^^ bt n b)) b (bt n a ^^ bt n b)
noncomputable def rD (r:Rw):Gt→Rw
 | .mix c=>⟨chg r.sg (bt r.x c&&bt r.z c),tg r.x c (bt r.x c ^^ bt r.z c),tg r.z c (bt r.x c ^^ bt r.z c)⟩
 | .flip c=>⟨chg r.sg (bt r.z c),r.x,r.z⟩
 | .sign c=>⟨chg r.sg (bt r.x c),r.x,r.z⟩
 | .d4 a b=>⟨r.sg,tg r.x b (bt r.x a),tg r.z a (bt r.z b)⟩
 | .meet a b=>⟨chg r.sg (bt r.x a&&bt r.x b),r.x,tg (tg r.z b (bt r.x a)) a (bt r.x b)⟩
 | .swap a b=>⟨r.sg,C2 r.x a b,C2 r.z a b⟩
theorem C3 {m n a b:Nat}(h:n<2^m) (ha:a<m) (hb:b<m):C2 n a b<2^m:=nv (nv h ha _) hb _
theorem oJ {m:Nat}{r:Rw}(h:r.ok m) {g:Gt}(hg:g.ok m):(rD r g).ok m:=by
 cases g with
 | mix c=>exact⟨lN h.s _,nv h.x hg _,nv h.z hg _⟩
 | flip c=>exact⟨lN h.s _,h.x,h.z⟩
 | sign c=>exact⟨lN h.s _,h.x,h.z⟩
 | d4 a b=>exact⟨h.s,nv h.x hg.2.1 _,nv h.z hg.1 _⟩
 | meet a b=>exact⟨lN h.s _,h.x,nv (nv h.z hg.2.1 _) hg.1 _⟩
 | swap a b=>exact⟨h.s,C3 h.x hg.1 hg.2.1,C3 h.z hg.1 hg.2.1⟩
theorem nU {a b:Nat}(h:∀i,bt a i=bt b i):a=b:=Nat.eq_of_testBit_eq h
theorem C4 (n c i:Nat) (u:Bool):bt (tg n c u) i=(bt n i ^^ (u&&decide (c=i))):=by
 cases u
 ·simp[tg]
 ·simp only[tg,if_true];unfold fl;rw[sT,C1,Bool.true_and]
theorem xF {n a b:Nat}(h:a≠b) (i:Nat):bt (C2 n a b) i=if i=a then bt n b else if i=b then bt n a else bt n i:=by
 unfold C2
 rw[C4,C4]
 by_cases h1:i=a
 ·subst h1
  rw[if_pos rfl,decide_eq_true rfl,decide_eq_false (fun z=>h z.symm)]
  cases bt n i<;>cases bt n b<;>rfl
 ·rw[if_neg h1,decide_eq_false (fun z=>h1 z.symm)]
  by_cases h2:i=b
  ·subst h2
   rw[if_pos rfl,decide_eq_true rfl]
   cases bt n i<;>cases bt n a<;>rfl
  ·rw[if_neg h2,decide_eq_false (fun z=>h2 z.symm)]
   cases bt n i<;>cases (bt n a ^^ bt n b)<;>rfl
theorem yZ {p x a b:Nat}(h:a≠b):C2 (p&&&x) a b=C2 p a b&&&C2 x a b:=nU fun i=>by
 rw[oG,xF h,xF h,xF h,oG,oG,oG]
 split
 ·rfl
 ·split<;>rfl
theorem zc:∀n:Nat,n<64→∀a:Nat,a<6→∀b:Nat,b<6→a≠b→par (C2 n a b)=par n:=by decide +kernel
noncomputable def bN (b:Bool):Nat:=if b=true then 1 else 0
theorem bx:∀n:Nat,n<64→∀c:Nat,c<6→Builtin.bitAnd ((n:Int)/2^(c:Int).toNat) 1=(bN (bt n c):Nat):=by decide +kernel
theorem xN (a b:Bool):Builtin.bitXor ((bN a:Nat):Int) ((bN b:Nat):Int)=(bN (a ^^ b):Nat):=by rw[sS];cases a<;>cases b<;>rfl
theorem aN (a b:Bool):Builtin.bitAnd ((bN a:Nat):Int) ((bN b:Nat):Int)=(bN (a&&b):Nat):=by rw[mF];cases a<;>cases b<;>rfl
theorem xT (n c:Nat) (b:Bool):Builtin.bitXor (n:Int) (((bN b:Nat):Int)*2^(c:Int).toNat)=(tg n c b:Nat):=by
 cases b
 ·show Builtin.bitXor (n:Int) (((0:Nat):Int)*2^(c:Int).toNat)=_
  rw[show ((0:Nat):Int)*2^(c:Int).toNat=((0:Nat):Int) from Int.zero_mul _,sS,Nat.xor_zero];rfl
 ·show Builtin.bitXor (n:Int) ((1:Int)*2^(c:Int).toNat)=_
  rw[gF,sS];rfl
theorem EY {m:Nat}(b:Bool) (h:m≤6):BO ((bN b:Nat):Int) (m:Int):=⟨Int.natCast_nonneg _,by omega,by cases b<;>decide⟩
theorem F5 {n i:Nat}(h:i<n):FE n (i:Int)=some i:=by unfold FE;rw[if_pos (by omega),if_pos (by omega)];simp
structure Half (xs ys:List Int) (i:Nat) (g:Gt):Prop where
 l:ys.length=xs.length
 d:∀q,q<i→nJ ys q=Sv xs q g
 u:∀q,i≤q→nJ ys q=nJ xs q
noncomputable def low (q c:Nat):Nat:=if bt q c=true then fl q c else q
structure HalfM (xs ys:List Int) (i c:Nat):Prop where
 l:ys.length=xs.length
 d:∀q,q<xs.length→low q c<i→nJ ys q=Sv xs q (.mix c)
structure HalfL (xs ys:List Int) (i:Nat) (r:Rw):Prop where
 l:ys.length=xs.length
 d:∀p,p<i→nJ ys (p^^^r.x)=snt xs p r
structure bY (H:Hp) (m:Nat) (as:List Addr) (rs:List Rw):Prop where
 l:as.length=rs.length
 g:∀(i:Nat) (a:Addr),as[i]?=some a→∃r,rs[i]?=some r∧H a=some (.tup r.vals)∧r.ok m
theorem bY.same {H H':Hp}{m:Nat}{as:List Addr}{rs:List Rw}(h:bY H m as rs) (s:ao H H'):bY H' m as rs:=⟨h.l,fun i a e=>by
 obtain⟨r,h1,h2,h3⟩:=h.g i a e
 exact⟨r,h1,s _ _ h2,h3⟩⟩
theorem bY.cat {H:Hp}{m:Nat}{as bs:List Addr}{rs qs:List Rw}(h:bY H m as rs) (h':bY H m bs qs):bY H m (as++bs) (rs++qs):=by
 refine⟨by rw[length_append,length_append,h.l,h'.l],fun i a e=>?_⟩
 rcases Nat.lt_or_ge i as.length with hi|hi
 ·rw[getElem?_append_left hi] at e
  obtain⟨r,h1,h2⟩:=h.g i a e
  exact⟨r,by rw[getElem?_append_left (h.l▸hi)];exact h1,h2⟩
 ·rw[getElem?_append_right hi] at e
  obtain⟨r,h1,h2⟩:=h'.g _ a e
  exact⟨r,by rw[getElem?_append_right (h.l▸hi),←h.l];exact h1,h2⟩
theorem bY.app {H:Hp}{m:Nat}{as:List Addr}{rs:List Rw}(h:bY H m as rs) {a:Addr}{r:Rw}(e:H a=some (.tup r.vals)) (ok:r.ok m):bY H m (as++[a]) (rs++[r]) :=
 h.cat ⟨rfl,fun i x z=>by
  cases i with
  | zero=>cases z;exact⟨r,rfl,e,ok⟩
  | succ i=>cases z⟩
theorem bY.get {H:Hp}{m:Nat}{as:List Addr}{rs:List Rw}(h:bY H m as rs) {i:Nat}(hi:i<rs.length):∃a r,as[i]?=some a∧rs[i]?=some r∧H a=some (.tup r.vals)∧r.ok m:=by
 have:i<as.length:=by rw[h.l];exact hi
 obtain⟨r,h1,h2,h3⟩:=h.g i as[i] (getElem?_eq_getElem this)
 exact⟨as[i],r,getElem?_eq_getElem this,h1,h2,h3⟩
noncomputable def mG (gs:List Gt) (r:Rw):Rw:=gs.foldl rD r
theorem F6 (rs:List Rw):rs.map (mG [])=rs:=List.map_id'' (fun _=>rfl) rs
theorem C5 {m:Nat}:∀{gs:List Gt}{r:Rw},r.ok m→(∀g∈gs,g.ok m)→(mG gs r).ok m
 | [],_,h,_=>h
 | g::gs,r,h,hg=>C5 (gs:=gs) (oJ h (hg g (mem_cons_self ..))) fun x hx=>hg x (mem_cons_of_mem _ hx)
noncomputable def lets (m:Nat):List Rw:=((List.range m).map fun c=>⟨1,2^c,0⟩)++(List.range m).map fun c=>⟨1,0,2^c⟩
noncomputable def gaps (gs:List Gt) (xs:List Int):List Int:=gs.foldl (fun ys g=>gap g ys) xs
noncomputable def sy (a b:Rw):Bool:=par (a.x&&&b.z) ^^ par (a.z&&&b.x)
theorem Kg (a b:Rw):sU a b = !sy a b:=by unfold sU sy;cases par (a.x&&&b.z)<;>cases par (a.z&&&b.x)<;>rfl
theorem Kh {m:Nat}(hm:m≤6) {a b:Rw}(ha:a.ok m) (hb:b.ok m) {g:Gt}(hg:g.ok m):sy (rD a g) (rD b g)=sy a b:=by
 cases g with
 | mix c =>
  have hc:c<6:=Nat.lt_of_lt_of_le hg hm
  simp only[sy,rD,jg hc,iz hc,Io]
  generalize par (a.x&&&b.z)=p
  generalize par (a.z&&&b.x)=q
  have e1:par (a.x&&&b.z)=par (a.x&&&b.z):=rfl
  cases bt a.x c<;>cases bt a.z c<;>cases bt b.x c<;>cases bt b.z c<;>cases p<;>cases q<;>rfl
 | flip c=>rfl
 | sign c=>rfl
 | d4 c d =>
  obtain⟨h1,h2,fG⟩:=hg
  have hc:c<6:=by omega
  have hd:d<6:=by omega
  simp only[sy,rD,jg hc,iz hc,jg hd,iz hd,oI fG,oI (Ne.symm fG)]
  generalize par (a.x&&&b.z)=p
  generalize par (a.z&&&b.x)=q
  cases bt a.x c<;>cases bt a.z d<;>cases bt b.x c<;>cases bt b.z d<;>cases p<;>cases q<;>rfl
 | meet c d =>
  obtain⟨h1,h2,fG⟩:=hg
  have hc:c<6:=by omega
  have hd:d<6:=by omega
  simp only[sy,rD,jg hc,iz hc,jg hd,iz hd]
  generalize par (a.x&&&b.z)=p
  generalize par (a.z&&&b.x)=q
  cases bt a.x c<;>cases bt a.x d<;>cases bt b.x c<;>cases bt b.x d<;>cases p<;>cases q<;>rfl
 | swap c d =>
  obtain⟨h1,h2,fG⟩:=hg
  have hl:∀u v:Nat,u<2^m→par (C2 u c d&&&C2 v c d)=par (u&&&v):=fun u v hu=>by
   rw[←yZ fG,zc _ (Nat.lt_of_le_of_lt Nat.and_le_left (le64 hm hu)) c (by omega) d (by omega) fG]
  simp only[sy,rD,hl _ _ ha.x,hl _ _ ha.z]
theorem F7 {m:Nat}(hm:m≤6) {a:Rw}(ha:a.ok m) {g:Gt}(hg:g.ok m):nT (rD a g)=nT a:=by
 cases g with
 | mix c =>
  have hc:c<6:=Nat.lt_of_lt_of_le hg hm
  simp only[nT,rD,jg hc,iz hc,Io]
  generalize par (a.x&&&a.z)=p
  cases bt a.x c<;>cases bt a.z c<;>cases p<;>rfl
 | flip c=>rfl
 | sign c=>rfl
 | d4 c d =>
  obtain⟨h1,h2,fG⟩:=hg
  have hc:c<6:=by omega
  have hd:d<6:=by omega
  simp only[nT,rD,jg hd,iz hc,oI (Ne.symm fG)]
  generalize par (a.x&&&a.z)=p
  cases bt a.x c<;>cases bt a.z d<;>cases p<;>rfl
 | meet c d =>
  obtain⟨h1,h2,fG⟩:=hg
  have hc:c<6:=by omega
  have hd:d<6:=by omega
  simp only[nT,rD,iz hc,iz hd]
  generalize par (a.x&&&a.z)=p
  cases bt a.x c<;>cases bt a.x d<;>cases p<;>rfl
 | swap c d =>
  obtain⟨h1,h2,fG⟩:=hg
  simp only[nT,rD]
  rw[←yZ fG,zc _ (Nat.lt_of_le_of_lt Nat.and_le_left (le64 hm ha.x)) c (by omega) d (by omega) fG]
noncomputable def still (t:Rw):Gt→Prop
 | .mix c=>bt t.x c=false∧bt t.z c=false
 | .flip c=>bt t.z c=false
 | .sign c=>bt t.x c=false
 | .d4 a b=>bt t.x a=false∧bt t.z b=false
 | .meet a b=>bt t.x a=false∧bt t.x b=false
 | .swap a b=>bt t.x a=false∧bt t.x b=false∧bt t.z a=false∧bt t.z b=false
noncomputable def xG:List Nat→List Gt
 | a::b::l=>.meet a b::xG l
 | _=>[]
noncomputable def evs:List Nat→List Nat
 | a::b::l=>a::b::evs l
 | _=>[]
noncomputable def lft:List Nat→List Nat
 | _::_::l=>lft l
 | l=>l
noncomputable def cw (n:Nat):List Nat:=(List.range 6).filter (bt n)
noncomputable def Gt.al (P:Nat→Prop):Gt→Prop
 | .mix c=>P c
 | .flip c=>P c
 | .sign c=>P c
 | .d4 a b=>P a∧P b∧a≠b
 | .meet a b=>P a∧P b∧a≠b
 | .swap a b=>P a∧P b∧a≠b
noncomputable def tox (r:Rw) (k:Nat):List Gt :=
 xG (cw (r.x&&&r.z))++(cw (r.z^^^(r.x&&&r.z))).map .mix++(cw (r.x|||r.z)).tail.map (.d4 ((cw (r.x|||r.z)).headD 0)) ++
  (if (cw (r.x|||r.z)).headD 0≠k then [.swap ((cw (r.x|||r.z)).headD 0) k] else [])
theorem Nt {a b:Nat}(h:a<64) (h':b<64):a|||b<64:=Nat.or_lt_two_pow (n:=6) h h'
theorem xor64 {a b:Nat}(h:a<64) (h':b<64):a^^^b<64:=Nat.xor_lt_two_pow (n:=6) h h'
noncomputable def ws (n k:Nat):Nat:=tg n k (bt n k)
noncomputable def toz (r:Rw) (k:Nat):List Gt :=
 xG (cw (ws r.x k&&&ws r.z k))++(lft (cw (ws r.x k&&&ws r.z k))).map (.d4 · k)++(cw (ws r.x k)).map .mix++(cw (ws r.x k|||ws r.z k)).map (.d4 · k)
noncomputable def ra (rs:List Rw) (i:Nat):Rw:=rs.getD i ⟨1,0,0⟩
theorem cX {rs:List Rw}{i:Nat}{r:Rw}(h:rs[i]?=some r):ra rs i=r:=by unfold ra;rw[List.getD_eq_getElem?_getD,h];rfl
theorem iA {rs:List Rw}{i:Nat}(h:i<rs.length):rs[i]?=some (ra rs i):=by
 unfold ra;rw[List.getD_eq_getElem?_getD,getElem?_eq_getElem h];rfl
structure Tb (m:Nat) (rs:List Rw):Prop where
 l:rs.length=2*m
 ok:∀i,i<2*m→(ra rs i).ok m
 ev:∀i,i<2*m→nT (ra rs i)=true
 ag:∀i j,i<j→j<2*m→sy (ra rs i) (ra rs j)=decide (j=i+m)
theorem xH {m:Nat}(hm:m≤6):∀{gs:List Gt},(∀g∈gs,g.ok m)→∀{a b:Rw},a.ok m→b.ok m→sy (mG gs a) (mG gs b)=sy a b
 | [],_,_,_,_,_=>rfl
 | g::gs,h,a,b,ha,hb=>by
  have hg:=h g (mem_cons_self ..)
  show sy (mG gs (rD a g)) (mG gs (rD b g))=_
  rw[xH hm (gs:=gs) (fun x hx=>h x (mem_cons_of_mem _ hx)) (oJ ha hg) (oJ hb hg),Kh hm ha hb hg]
theorem ze {m:Nat}(hm:m≤6):∀{gs:List Gt},(∀g∈gs,g.ok m)→∀{a:Rw},a.ok m→nT (mG gs a)=nT a
 | [],_,_,_=>rfl
 | g::gs,h,a,ha=>by
  have hg:=h g (mem_cons_self ..)
  show nT (mG gs (rD a g))=_
  rw[ze hm (gs:=gs) (fun x hx=>h x (mem_cons_of_mem _ hx)) (oJ ha hg),F7 hm ha hg]
theorem sy_px {m c:Nat}(hm:m≤6) (hc:c<m) {a b:Rw}(hx:a.x=2^c) (hz:a.z=0):sy a b=bt b.z c:=by
 unfold sy
 rw[hx,hz,Nat.zero_and,xE (by omega)]
 show (bt b.z c ^^ par 0)=_
 rw[show par 0=false from rfl,Bool.xor_false]
theorem Ip {m c:Nat}(hm:m≤6) (hc:c<m) {a b:Rw}(hx:a.x=0) (hz:a.z=2^c):sy a b=bt b.x c:=by
 unfold sy
 rw[hx,hz,Nat.zero_and,xE (by omega)]
 show (par 0 ^^ bt b.x c)=_
 rw[show par 0=false from rfl,Bool.false_xor]
theorem d5 (a b:Rw):sy a b=sy b a:=by unfold sy;rw[gb,gb a.z,Bool.xor_comm]
structure Dn (m k:Nat) (rs:List Rw):Prop where
 x:∀c,c<k→(ra rs c).x=2^c∧(ra rs c).z=0
 z:∀c,c<k→(ra rs (c+m)).x=0∧(ra rs (c+m)).z=2^c
noncomputable def ngx (rs:List Rw) (m:Nat):List Nat:=(List.range m).filter fun c=>decide ((ra rs c).sg=-1)
noncomputable def ngz (rs:List Rw) (m:Nat):List Nat:=(List.range m).filter fun c=>decide ((ra rs (c+m)).sg=-1)
noncomputable def gfs (rs:List Rw) (m:Nat):List Gt:=(ngx rs m).map .sign++(ngz rs m).map .flip
noncomputable def ip:Rw:=⟨1,0,0⟩
theorem bA (a b c:Rw):bz (bz a b) c=bz a (bz b c):=by
 unfold bz
 congr 1
 ·dsimp only
  rw[F4,F3,yY,yY,Im,rC,Int.mul_assoc]
  congr 1
  cases par (a.z&&&b.x)<;>cases par (a.z&&&c.x)<;>cases par (b.z&&&c.x)<;>rfl
 ·exact Nat.xor_assoc ..
 ·exact Nat.xor_assoc ..
theorem fI (a:Rw):bz a ip=a:=by
 unfold bz ip
 simp only[Nat.and_zero,Nat.xor_zero,Int.mul_one]
 rfl
theorem sV (a:Rw):bz ip a=a:=by
 unfold bz ip
 simp only[Nat.zero_and,Nat.zero_xor,Int.one_mul]
 rfl
theorem oK {a b:Rw}(h:sy a b=false):bz a b=bz b a:=by
 unfold bz
 unfold sy at h
 congr 1
 ·rw[Int.mul_comm,gb b.z a.x]
  revert h
  cases par (a.x&&&b.z)<;>cases par (a.z&&&b.x)<;>simp
 ·exact Nat.xor_comm ..
 ·exact Nat.xor_comm ..
theorem oM {a:Rw}(h:nT a=true) (hs:one a.sg):bz a a=ip:=by
 unfold bz ip
 have:par (a.z&&&a.x)=false:=by rw[gb];simpa[nT] using h
 rw[this,CZ hs,Nat.xor_self,Nat.xor_self];rfl
theorem iB (a b c:Rw):sy (bz a b) c=(sy a c ^^ sy b c):=by
 unfold sy bz
 dsimp only
 rw[rC,rC]
 cases par (a.x&&&c.z)<;>cases par (b.x&&&c.z)<;>cases par (a.z&&&c.x)<;>cases par (b.z&&&c.x)<;>rfl
theorem F8 {a b:Rw}(h:sy a b=false) (ha:nT a=true) (hb:nT b=true):nT (bz a b)=true:=by
 unfold nT at *
 unfold sy at h
 unfold bz
 dsimp only
 rw[Im,rC,rC,gb b.x a.z]
 revert h ha hb
 cases par (a.x&&&b.z)<;>cases par (a.z&&&b.x)<;>cases par (a.x&&&a.z)<;>cases par (b.x&&&b.z)<;>simp
noncomputable def cb (r:Rw) (j:Nat):Bool:=if j<6 then bt r.x j else bt r.z (j-6)
theorem jh (a b:Rw) (j:Nat):cb (bz a b) j=(cb a j ^^ cb b j):=by
 unfold cb bz
 split
 ·exact sT ..
 ·exact sT ..
theorem Ki (j:Nat):cb ip j=false:=by unfold cb ip;split<;>(unfold bt;exact Nat.zero_testBit _)
noncomputable def ld (r:Rw):Nat:=((List.range 12).find? (cb r)).getD 12
structure Ld (r:Rw) (j:Nat):Prop where
 lt:j<12
 b:cb r j=true
 f:∀i,i<j→cb r i=false
theorem kY {p:Nat→Bool}:∀{n j:Nat},(List.range n).find? p=some j→j<n∧p j=true∧∀i,i<j→p i=false
 | 0,j,h=>by simp at h
 | n+1,j,h=>by
  rw[List.range_succ,List.find?_append] at h
  cases e:(List.range n).find? p with
  | some k =>
   rw[e] at h
   have:k=j:=by simpa using h
   subst this
   obtain⟨h1,h2,h3⟩:=kY e
   exact⟨by omega,h2,h3⟩
  | none =>
   rw[e] at h
   have h':[n].find? p=some j:=by simpa using h
   have hp:p n=true∧n=j:=by
    rw[List.find?_cons] at h'
    cases hq:p n with
    | true=>rw[hq] at h';exact⟨rfl,by simpa using h'⟩
    | false=>rw[hq] at h';simp at h'
   obtain⟨hp,rfl⟩:=hp
   refine⟨by omega,hp,fun i hi=>?_⟩
   have:=List.find?_eq_none.mp e i (mem_range.mpr hi)
   simpa using this
theorem Ld.eq {r:Rw}{j:Nat}(h:Ld r j):ld r=j:=by
 unfold ld
 cases e:(List.range 12).find? (cb r) with
 | none=>exact absurd h.b (by have:=List.find?_eq_none.mp e j (mem_range.mpr h.lt);simpa using this)
 | some k =>
  obtain⟨h1,h2,h3⟩:=kY e
  show k=j
  rcases Nat.lt_trichotomy k j with c|c|c
  ·rw[h.f k c] at h2;cases h2
  ·exact c
  ·have:=h3 j c;rw[h.b] at this;cases this
noncomputable def nz (r:Rw):Prop:=∃j,j<12∧cb r j=true
theorem nz.ld {r:Rw}(h:nz r):Ld r (ld r):=by
 obtain⟨j,hj,hb⟩:=h
 unfold TC.ld
 cases e:(List.range 12).find? (cb r) with
 | none=>exact absurd hb (by have:=List.find?_eq_none.mp e j (mem_range.mpr hj);simpa using this)
 | some k =>
  obtain⟨h1,h2,h3⟩:=kY e
  exact⟨h1,h2,h3⟩
structure Cm (m:Nat) (rs:List Rw):Prop where
 ok:∀r∈rs,r.ok m
 ev:∀r∈rs,nT r=true
 ag:∀a∈rs,∀b∈rs,sy a b=false
theorem Cm.sub {m:Nat}{rs qs:List Rw}(h:Cm m rs) (s:∀r∈qs,r∈rs):Cm m qs:=⟨fun r hr=>h.ok r (s r hr),fun r hr=>h.ev r (s r hr),fun a ha b hb=>h.ag a (s a ha) b (s b hb)⟩
inductive Sn (rs:List Rw):Rw→Prop where
 | ip:Sn rs ip
 | mul {t r:Rw}(h:Sn rs t) (hr:r∈rs):Sn rs (bz t r)
theorem Sn.gen {rs:List Rw}{r:Rw}(h:r∈rs):Sn rs r:=by have:=Sn.mul (.ip) h;rw[sV] at this;exact this
theorem Sn.bz {rs:List Rw}{a:Rw}(ha:Sn rs a):∀{b:Rw},Sn rs b→Sn rs (bz a b)
 | _,.ip=>by rw[fI];exact ha
 | _,.mul h hr=>by rw[←bA];exact .mul (ha.bz h) hr
theorem Sn.of {rs qs:List Rw}(h:∀r∈rs,Sn qs r):∀{t:Rw},Sn rs t→Sn qs t
 | _,.ip=>.ip
 | _,.mul ht hr=>(Sn.of h ht).bz (h _ hr)
theorem Kj (m:Nat):ip.ok m:=⟨.inl rfl,Nat.two_pow_pos m,Nat.two_pow_pos m⟩
theorem Sn.sy {rs:List Rw}{b:Rw}(h:∀a∈rs,sy a b=false):∀{t:Rw},Sn rs t→TC.sy t b=false
 | _,.ip=>by unfold TC.sy TC.ip;simp only[Nat.zero_and];rfl
 | _,.mul ht hr=>by rw[iB,Sn.sy h ht,h _ hr];rfl
theorem Sn.good {m:Nat}{rs:List Rw}(c:Cm m rs):∀{t:Rw},Sn rs t→t.ok m∧nT t=true
 | _,.ip=>⟨Kj m,rfl⟩
 | _,.mul ht hr=>⟨oH (Sn.good c ht).1 (c.ok _ hr),F8 (Sn.sy (fun a ha=>c.ag a ha _ hr) ht) (Sn.good c ht).2 (c.ev _ hr)⟩
theorem Sn.ag {m:Nat}{rs:List Rw}(c:Cm m rs) {a b:Rw}(ha:Sn rs a) (hb:Sn rs b):TC.sy a b=false :=
 Sn.sy (fun x hx=>by rw[d5];exact Sn.sy (fun y hy=>c.ag y hy x hx) hb) ha
noncomputable def pr (p:Rw→Bool):List Rw→Rw
 | []=>ip
 | a::l=>if p a=true then bz a (pr p l) else pr p l
theorem Iq (p:Rw→Bool):∀{L:List Rw}{Q:List Rw},(∀r∈L,r∈Q)→Sn Q (pr p L)
 | [],_,_=>.ip
 | a::l,Q,h=>by
  have ih:=Iq p (L:=l) (Q:=Q) fun r hr=>h r (mem_cons_of_mem _ hr)
  unfold pr
  split
  ·exact(Sn.gen (h a (mem_cons_self ..))).bz ih
  ·exact ih
theorem sW {p:Rw→Bool}:∀{L:List Rw},(∀a∈L,p a=false)→pr p L=ip
 | [],_=>rfl
 | a::l,h=>by
  unfold pr
  rw[if_neg (by rw[h a (mem_cons_self ..)];decide)]
  exact sW fun b hb=>h b (mem_cons_of_mem _ hb)
theorem vy {p q:Rw→Bool}:∀{L:List Rw},(∀a∈L,p a=q a)→pr p L=pr q L
 | [],_=>rfl
 | a::l,h=>by
  unfold pr
  rw[h a (mem_cons_self ..),vy fun b hb=>h b (mem_cons_of_mem _ hb)]
theorem rE {m:Nat}{p q:Rw→Bool}{r:Rw}:∀{L:List Rw},Cm m L→L.Nodup→r∈L→q r = !p r→(∀a∈L,a≠r→q a=p a)→pr q L=bz (pr p L) r
 | a::l,c,hn,hr,h1,h2=>by
  have cl:=c.sub (qs:=l) fun x hx=>mem_cons_of_mem _ hx
  have wK:=(List.nodup_cons.mp hn).1
  have ca:∀{t},Sn l t→sy a t=false:=fun {t} ht=>by rw[d5];exact Sn.sy (fun x hx=>c.ag x (mem_cons_of_mem _ hx) a (mem_cons_self ..)) ht
  by_cases e:a=r
  ·subst e
   have hl:pr q l=pr p l:=vy fun b hb=>h2 b (mem_cons_of_mem _ hb) fun z=>wK (z▸hb)
   have hs:=Iq p (L:=l) (Q:=l) fun r hr=>hr
   unfold pr
   rw[hl,h1]
   cases p a with
   | true =>
    rw[if_neg (by decide),if_pos rfl,bA,←oK (ca hs),←bA,oM (c.ev a (mem_cons_self ..)) (c.ok a (mem_cons_self ..)).s,sV]
   | false=>exact oK (ca hs)
  ·have iV:r∈l:=(List.mem_cons.mp hr).resolve_left fun z=>e z.symm
   have ih:=rE (p:=p) (q:=q) cl (List.nodup_cons.mp hn).2 iV h1 fun b hb=>h2 b (mem_cons_of_mem _ hb)
   unfold pr
   rw[h2 a (mem_cons_self ..) e,ih]
   split
   ·rw[bA]
   ·rfl
noncomputable def Qg (a b:Rw):Prop:=cb a (ld b)=false∧cb b (ld a)=false
structure Rd (L:List Rw):Prop where
 n:∀a∈L,nz a
 p:L.Pairwise Qg
theorem vA {R:Rw→Rw→Prop}(hs:∀a b,R a b→R b a):∀{L:List Rw},L.Pairwise R→∀a∈L,∀b∈L,a≠b→R a b
 | [],_,a,ha,_,_,_=>nomatch ha
 | x::l,h,a,ha,b,hb,fG=>by
  obtain⟨h1,h2⟩:=pairwise_cons.mp h
  rcases List.mem_cons.mp ha with ea|Ir<;>rcases List.mem_cons.mp hb with eb|iQ
  ·exact absurd (ea.trans eb.symm) fG
  ·rw[ea];exact h1 b iQ
  ·rw[eb];exact hs _ _ (h1 a Ir)
  ·exact vA hs h2 a Ir b iQ fG
theorem Rd.off {L:List Rw}(h:Rd L) {a b:Rw}(ha:a∈L) (hb:b∈L) (fG:a≠b):cb a (ld b)=false:=(vA (fun _ _ z=>⟨z.2,z.1⟩) h.p a ha b hb fG).1
theorem Rd.on {L:List Rw}(h:Rd L) {a:Rw}(ha:a∈L):cb a (ld a)=true:=(h.n a ha).ld.b
theorem Rd.nodup {L:List Rw}(h:Rd L):L.Nodup:=by
 refine List.Pairwise.imp_of_mem (fun {a b} ha hb EZ e=>?_) h.p
 subst e
 have:=h.on ha
 rw[EZ.1] at this;cases this
theorem Rd.rep {m:Nat}{L:List Rw}(c:Cm m L) (h:Rd L):∀{t:Rw},Sn L t→t=pr (fun l=>cb t (ld l)) L
 | _,.ip=>(sW fun a _=>Ki _).symm
 | _,.mul (t:=t) (r:=r) ht hr=>by
  have ih:=Rd.rep c h ht
  have:=rE (p:=fun l=>cb t (ld l)) (q:=fun l=>cb (bz t r) (ld l)) c h.nodup hr (by rw[jh,h.on hr,Bool.xor_true]) (fun a ha fG=>by rw[jh,h.off hr ha (Ne.symm fG),Bool.xor_false])
  rw[←ih] at this
  exact this.symm
theorem Rd.zero {m:Nat}{L:List Rw}(c:Cm m L) (h:Rd L) {t:Rw}(ht:Sn L t) (h0:∀l∈L,cb t (ld l)=false):t=ip:=by
 rw[h.rep c ht];exact sW h0
noncomputable def nB (t c:Rw):Rw:=if cb t (ld c)=true then bz t c else t
noncomputable def lD (C:List Rw) (t:Rw):Rw:=C.foldl nB t
theorem C6 {C:List Rw}{c:Rw}{i:Nat}{t:Rw}(h:C[i]?=some c):lD (C.take (i+1)) t=nB (lD (C.take i) t) c:=by
 unfold lD
 rw[take_add_one,h,List.foldl_append];rfl
theorem Kk {Q:List Rw}{t c:Rw}(hc:c∈Q) {s r:Rw}(hs:Sn Q s) (e:t=bz r s):∃s',Sn Q s'∧nB t c=bz r s':=by
 unfold nB
 split
 ·exact⟨bz s c,.mul hs hc,by rw[e,bA]⟩
 ·exact⟨s,hs,e⟩
theorem xI {Q:List Rw}{r:Rw}:∀{C:List Rw}{t s:Rw},(∀c∈C,c∈Q)→Sn Q s→t=bz r s→∃s',Sn Q s'∧lD C t=bz r s'
 | [],_,s,_,hs,e=>⟨s,hs,e⟩
 | c::C,t,s,h,hs,e=>by
  obtain⟨s',h1,h2⟩:=Kk (h c (mem_cons_self ..)) hs e
  exact xI (C:=C) (fun x hx=>h x (mem_cons_of_mem _ hx)) h1 h2
theorem zf:∀{C:List Rw}{t:Rw},C.Pairwise Qg→(∀a∈C,nz a)→∀{x:Rw},(∀a∈C,cb a (ld x)=false)→cb t (ld x)=false→cb (lD C t) (ld x)=false
 | [],_,_,_,_,_,h=>h
 | c::C,t,hp,hn,x,hx,h=>by
  refine zf (C:=C) (pairwise_cons.mp hp).2 (fun a ha=>hn a (mem_cons_of_mem _ ha)) (fun a ha=>hx a (mem_cons_of_mem _ ha)) ?_
  unfold nB
  split
  ·rw[jh,h,hx c (mem_cons_self ..)];rfl
  ·exact h
theorem sX:∀{C:List Rw}{t:Rw},C.Pairwise Qg→(∀a∈C,nz a)→∀c∈C,cb (lD C t) (ld c)=false
 | c::C,t,hp,hn,d,hd=>by
  obtain⟨h1,h2⟩:=pairwise_cons.mp hp
  have BF:∀a∈C,nz a:=fun a ha=>hn a (mem_cons_of_mem _ ha)
  rcases List.mem_cons.mp hd with e|j4
  ·subst e
   refine zf (C:=C) h2 BF (fun a ha=>(h1 a ha).2) ?_
   unfold nB
   by_cases hb:cb t (ld d)=true
   ·rw[if_pos hb,jh,hb,(hn d (mem_cons_self ..)).ld.b];rfl
   ·rw[if_neg hb];simpa using hb
  ·exact sX (C:=C) h2 BF d j4
theorem F9 {c t:Rw}(hc:nz c) (ht:nz t) (h:cb t (ld c)=false):ld (nB c t)=ld c∧nz (nB c t)∧cb (nB c t) (ld t)=false:=by
 have lc:=hc.ld
 have lt:=ht.ld
 unfold nB
 by_cases hb:cb c (ld t)=true
 ·rw[if_pos hb]
  have bZ:ld c<ld t:=by
   rcases Nat.lt_trichotomy (ld c) (ld t) with x|x|x
   ·exact x
   ·rw[x,lt.b] at h;cases h
   ·rw[lc.f _ x] at hb;cases hb
  have L:Ld (bz c t) (ld c):=⟨lc.lt,by rw[jh,lc.b,h];rfl,fun i hi=>by rw[jh,lc.f i hi,lt.f i (by omega)];rfl⟩
  exact⟨L.eq,⟨_,L.lt,L.b⟩,by rw[jh,hb,lt.b];rfl⟩
 ·rw[if_neg hb]
  exact⟨rfl,hc,by simpa using hb⟩
noncomputable def E2 (C:List Rw) (t:Rw):List Rw:=C.map (fun c=>nB c t)++[t]
theorem vB {R S:Rw→Rw→Prop}{f:Rw→Rw}:∀{L:List Rw},(∀a∈L,∀b∈L,R a b→S (f a) (f b))→L.Pairwise R→(L.map f).Pairwise S
 | [],_,_=>.nil
 | a::l,h,hp=>by
  obtain⟨h1,h2⟩:=pairwise_cons.mp hp
  rw[List.map_cons]
  refine pairwise_cons.mpr ⟨fun b hb=>?_,vB (fun x hx y hy=>h x (mem_cons_of_mem _ hx) y (mem_cons_of_mem _ hy)) h2⟩
  obtain⟨c,hc,rfl⟩:=List.mem_map.mp hb
  exact h a (mem_cons_self ..) c (mem_cons_of_mem _ hc) (h1 c hc)
theorem Rd.E2 {C:List Rw}(h:Rd C) {t:Rw}(ht:nz t) (h0:∀c∈C,cb t (ld c)=false):Rd (E2 C t):=by
 have K:∀c∈C,ld (nB c t)=ld c∧nz (nB c t)∧cb (nB c t) (ld t)=false:=fun c hc=>F9 (h.n c hc) ht (h0 c hc)
 have off:∀a∈C,∀b∈C,cb a (ld b)=false→cb (nB a t) (ld b)=false:=fun a ha b hb z=>by
  unfold nB
  split
  ·rw[jh,z,h0 b hb];rfl
  ·exact z
 refine⟨fun a ha=>?_,?_⟩
 ·rcases mem_append.mp ha with ha|ha
  ·obtain⟨c,hc,rfl⟩:=List.mem_map.mp ha
   exact(K c hc).2.1
  ·rw[mem_singleton.mp ha];exact ht
 ·refine List.pairwise_append.mpr ⟨vB (fun a ha b hb EZ=>⟨?_,?_⟩) h.p,List.pairwise_singleton ..,fun a ha b hb=>?_⟩
  ·rw[(K b hb).1];exact off a ha b hb EZ.1
  ·rw[(K a ha).1];exact off b hb a ha EZ.2
  ·obtain⟨c,hc,rfl⟩:=List.mem_map.mp ha
   rw[mem_singleton.mp hb]
   exact⟨(K c hc).2.2,by rw[(K c hc).1];exact h0 c hc⟩
structure Fr (m:Nat) (rs ds:List Rw):Prop where
 c:Cm m rs
 l:ds.length=rs.length
 d:∀i j,i<rs.length→j<rs.length→sy (ra rs i) (ra ds j)=decide (i=j)
structure Got (m:Nat) (rs C:List Rw):Prop where
 c:Cm m C
 r:Rd C
 l:C.length=rs.length
 to:∀x∈rs,Sn C x
 C7:∀x∈C,Sn rs x
theorem C8 {t d:Rw}{m:Nat}(hm:m≤6) (ht:t.ok m) (h:sy t d=true):nz t:=by
 refine Classical.byContradiction fun hn=>?_
 have all:∀j,j<12→cb t j=false:=fun j hj=>by
  cases e:cb t j with
  | false=>rfl
  | true=>exact absurd ⟨j,hj,e⟩ hn
 have ex:t.x=0:=nU fun i=>by
  rcases Nat.lt_or_ge i 6 with hi|hi
  ·have:=all i (by omega)
   unfold cb at this
   rw[if_pos hi] at this
   rw[this];unfold bt;rw[Nat.zero_testBit]
  ·have h1:bt t.x i=false:=Nat.testBit_lt_two_pow (Nat.lt_of_lt_of_le (le64 hm ht.x) (show 2^6≤2^i from Nat.pow_le_pow_right (by decide) hi))
   rw[h1];unfold bt;rw[Nat.zero_testBit]
 have ez:t.z=0:=nU fun i=>by
  rcases Nat.lt_or_ge i 6 with hi|hi
  ·have:=all (i+6) (by omega)
   unfold cb at this
   rw[if_neg (by omega),Nat.add_sub_cancel] at this
   rw[this];unfold bt;rw[Nat.zero_testBit]
  ·have h1:bt t.z i=false:=Nat.testBit_lt_two_pow (Nat.lt_of_lt_of_le (le64 hm ht.z) (show 2^6≤2^i from Nat.pow_le_pow_right (by decide) hi))
   rw[h1];unfold bt;rw[Nat.zero_testBit]
 unfold sy at h
 rw[ex,ez,Nat.zero_and,Nat.zero_and] at h
 exact absurd h (by decide)
theorem C9 {rs:List Rw}{i:Nat}{x:Rw}(h:x∈rs.take i):∃k,k<i∧k<rs.length∧ra rs k=x:=by
 obtain⟨k,hk,e⟩:=List.mem_iff_getElem.mp h
 rw[length_take] at hk
 refine⟨k,by omega,by omega,cX ?_⟩
 rw[List.getElem_take] at e
 rw[getElem?_eq_getElem (by omega),e]
theorem Got.step {m:Nat}(hm:m≤6) {rs ds C:List Rw}(F:Fr m rs ds) {i:Nat}{r:Rw}(hr:rs[i]?=some r) (G:Got m (rs.take i) C):nz (lD C r)∧(lD C r).ok m∧Got m (rs.take (i+1)) (E2 C (lD C r)):=by
 have hi:i<rs.length:=(List.getElem?_eq_some_iff.mp hr).1
 have er:=cX hr
 have ow:r∈rs:=mem_of_getElem? hr
 obtain⟨s,hs,e⟩:=xI (Q:=C) (r:=r) (C:=C) (t:=r) (s:=ip) (fun c hc=>hc) .ip (fI r).symm
 have SA:Sn (rs.take i) s:=Sn.of G.C7 hs
 have hsd:sy s (ra ds i)=false:=Sn.sy (fun a ha=>by
  obtain⟨k,h1,h2,rfl⟩:=C9 ha
  rw[F.d k i h2 hi];exact decide_eq_false (by omega)) SA
 have aR:s.ok m:=(Sn.good (F.c.sub fun x hx=>List.mem_of_mem_take hx) SA).1
 have vC:(lD C r).ok m:=by rw[e];exact oH (F.c.ok r ow) aR
 have Iu:nz (lD C r):=C8 (d:=ra ds i) hm vC (by rw[e,iB,hsd,←er,F.d i i hi hi,decide_eq_true rfl];rfl)
 have h0:=sX (t:=r) G.r.p G.r.n
 have tk:rs.take (i+1)=rs.take i++[r]:=by rw[take_add_one,hr];rfl
 have Qh:Cm m (rs.take (i+1)):=F.c.sub fun x hx=>List.mem_of_mem_take hx
 have inc:∀{x},Sn (rs.take i) x→Sn (rs.take (i+1)) x:=fun {x} hx=>Sn.of (fun y hy=>.gen (by rw[tk];exact mem_append_left _ hy)) hx
 have SD:Sn (rs.take (i+1)) (lD C r):=by rw[e];exact(Sn.gen (by rw[tk];exact mem_append_right _ (mem_singleton.mpr rfl))).bz (inc SA)
 generalize hT:lD C r=t at *
 have Dc:∀x∈E2 C t,Sn (rs.take (i+1)) x:=fun x hx=>by
  rcases mem_append.mp hx with hx|hx
  ·obtain⟨c,hc,rfl⟩:=List.mem_map.mp hx
   unfold nB
   split
   ·exact(inc (G.C7 c hc)).bz SD
   ·exact inc (G.C7 c hc)
  ·rw[mem_singleton.mp hx];exact SD
 have st:Sn (E2 C t) t:=.gen (mem_append_right _ (mem_singleton.mpr rfl))
 have sC:∀c∈C,Sn (E2 C t) c:=fun c hc=>by
  have yS:Sn (E2 C t) (nB c t):=.gen (mem_append_left _ (List.mem_map.mpr ⟨c,hc,rfl⟩))
  unfold nB at yS
  split at yS
  ·have:=yS.bz st
   rw[bA,oM (Sn.good Qh SD).2 vC.s,fI] at this
   exact this
  ·exact yS
 refine⟨Iu,vC,⟨⟨fun x hx=>(Sn.good Qh (Dc x hx)).1,fun x hx=>(Sn.good Qh (Dc x hx)).2,fun a ha b hb=>Sn.ag Qh (Dc a ha) (Dc b hb)⟩,G.r.E2 Iu h0,?_,fun x hx=>?_,Dc⟩⟩
 ·unfold E2
  rw[length_append,length_map,G.l,tk,length_append];rfl
 ·rw[tk] at hx
  rcases mem_append.mp hx with hx|hx
  ·exact Sn.of sC (G.to x hx)
  ·rw[mem_singleton.mp hx]
   have hss:Sn (E2 C t) s:=Sn.of sC hs
   have Br:bz s s=ip:=oM (Sn.good G.c hs).2 aR.s
   have:r=bz t s:=by rw[e,bA,Br,fI]
   rw[this]
   exact st.bz hss
noncomputable def Sep (p q:Rw×Rw):Prop:=sy p.1 q.2=false∧sy q.1 p.2=false
structure Fp (m:Nat) (ps:List (Rw×Rw)):Prop where
 c:Cm m (ps.map (·.1))
 p:ps.Pairwise Sep
 o:∀x∈ps,sy x.1 x.2=true
theorem Dd {ps:List (Rw×Rw)}{i:Nat}{x:Rw×Rw}(h:ps[i]?=some x):ra (ps.map (·.1)) i=x.1:=cX (by rw[getElem?_map,h];rfl)
theorem De {ps:List (Rw×Rw)}{i:Nat}{x:Rw×Rw}(h:ps[i]?=some x):ra (ps.map (·.2)) i=x.2:=cX (by rw[getElem?_map,h];rfl)
theorem Fp.fr {m:Nat}{ps:List (Rw×Rw)}(h:Fp m ps):Fr m (ps.map (·.1)) (ps.map (·.2)):=by
 refine⟨h.c,by rw[length_map,length_map],fun i j hi hj=>?_⟩
 rw[length_map] at hi hj
 rw[Dd (getElem?_eq_getElem hi),De (getElem?_eq_getElem hj)]
 have pw:=List.pairwise_iff_getElem.mp h.p
 rcases Nat.lt_trichotomy i j with x|x|x
 ·rw[(pw i j hi hj x).1,decide_eq_false (by omega)]
 ·subst x;rw[h.o _ (List.getElem_mem hi),decide_eq_true rfl]
 ·rw[(pw j i hj hi x).2,decide_eq_false (by omega)]
theorem Fr.fp {m:Nat}{rs ds:List Rw}(h:Fr m rs ds):∃ps:List (Rw×Rw),ps.map (·.1)=rs∧ps.map (·.2)=ds∧Fp m ps:=by
 have e1:(rs.zip ds).map (·.1)=rs:=List.map_fst_zip (by rw[h.l];exact Nat.le_refl _)
 have e2:(rs.zip ds).map (·.2)=ds:=List.map_snd_zip (by rw[h.l];exact Nat.le_refl _)
 have hl:(rs.zip ds).length=rs.length:=by rw[←length_map (f:=(·.1)),e1]
 have key:∀i j (hi:i<(rs.zip ds).length) (hj:j<(rs.zip ds).length),sy ((rs.zip ds)[i]).1 ((rs.zip ds)[j]).2=decide (i=j):=fun i j hi hj=>by
  have:=h.d i j (hl▸hi) (hl▸hj)
  rw[←e1] at this
  rw[Dd (getElem?_eq_getElem hi)] at this
  have q:=De (ps:=rs.zip ds) (getElem?_eq_getElem hj)
  rw[e2] at q
  rw[q] at this
  exact this
 refine⟨rs.zip ds,e1,e2,by rw[e1];exact h.c,List.pairwise_iff_getElem.mpr fun i j hi hj gv=>⟨by rw[key i j hi hj];exact decide_eq_false (by omega),by rw[key j i hj hi];exact decide_eq_false (by omega)⟩,fun x hx=>?_⟩
 obtain⟨i,hi,rfl⟩:=List.mem_iff_getElem.mp hx
 rw[key i i hi hi];exact decide_eq_true rfl
theorem Fr.mul {m:Nat}{rs ds:List Rw}(h:Fr m rs ds) {i j:Nat}(hi:i<rs.length) (hj:j<rs.length) (fG:i≠j) :
  Fr m (rs.set i (bz (ra rs i) (ra rs j))) (ds.set j (bz (ra ds j) (ra ds i)))∧(∀x∈rs.set i (bz (ra rs i) (ra rs j)),Sn rs x)∧∀x∈rs,Sn (rs.set i (bz (ra rs i) (ra rs j))) x:=by
 have mi:ra rs i∈rs:=mem_of_getElem? (iA hi)
 have mj:ra rs j∈rs:=mem_of_getElem? (iA hj)
 have gi:Sn rs (bz (ra rs i) (ra rs j)):=(Sn.gen mi).bz (.gen mj)
 have C7:∀x∈rs.set i (bz (ra rs i) (ra rs j)),Sn rs x:=fun x hx=>by
  rcases List.mem_or_eq_of_mem_set hx with z|z
  ·exact .gen z
  ·rw[z];exact gi
 have rg:∀k,k<rs.length→ra (rs.set i (bz (ra rs i) (ra rs j))) k=if k=i then bz (ra rs i) (ra rs j) else ra rs k:=fun k hk=>by
  refine cX ?_
  rw[List.getElem?_set]
  by_cases e:i=k
  ·subst e;rw[if_pos rfl,if_pos hi,if_pos rfl]
  ·rw[if_neg e,if_neg (Ne.symm e)];exact iA hk
 have dg:∀k,k<rs.length→ra (ds.set j (bz (ra ds j) (ra ds i))) k=if k=j then bz (ra ds j) (ra ds i) else ra ds k:=fun k hk=>by
  refine cX ?_
  rw[List.getElem?_set]
  by_cases e:j=k
  ·subst e;rw[if_pos rfl,if_pos (by rw[h.l];exact hj),if_pos rfl]
  ·rw[if_neg e,if_neg (Ne.symm e)];exact iA (by rw[h.l];exact hk)
 have sj:Sn (rs.set i (bz (ra rs i) (ra rs j))) (ra rs j):=.gen (by
  have q:(rs.set i (bz (ra rs i) (ra rs j)))[j]?=some (ra rs j):=by rw[List.getElem?_set,if_neg fG];exact iA hj
  exact mem_of_getElem? q)
 have to:∀x∈rs,Sn (rs.set i (bz (ra rs i) (ra rs j))) x:=fun x hx=>by
  obtain⟨k,hk,rfl⟩:=List.mem_iff_getElem.mp hx
  have ek:ra rs k=rs[k]:=cX (getElem?_eq_getElem hk)
  rw[←ek]
  have mk:Sn (rs.set i (bz (ra rs i) (ra rs j))) (ra (rs.set i (bz (ra rs i) (ra rs j))) k):=.gen (mem_of_getElem? (iA (by rw[List.length_set];exact hk)))
  rw[rg k hk] at mk
  by_cases e:k=i
  ·subst e
   rw[if_pos rfl] at mk
   have:=mk.bz sj
   rw[bA,oM (h.c.ev _ mj) (h.c.ok _ mj).s,fI] at this
   exact this
  ·rw[if_neg e] at mk;exact mk
 refine⟨⟨⟨fun x hx=>(Sn.good h.c (C7 x hx)).1,fun x hx=>(Sn.good h.c (C7 x hx)).2,fun a ha b hb=>Sn.ag h.c (C7 a ha) (C7 b hb)⟩,by rw[List.length_set,List.length_set,h.l],fun a b ha hb=>?_⟩,C7,to⟩
 rw[List.length_set] at ha hb
 rw[rg a ha,dg b hb]
 by_cases e1:a=i<;>by_cases e2:b=j
 ·subst e1;subst e2
  rw[if_pos rfl,if_pos rfl,iB,d5,iB,d5 (ra rs b),iB,d5 (ra ds b) (ra rs a),d5 (ra ds a) (ra rs a),d5 (ra ds b) (ra rs b),d5 (ra ds a) (ra rs b),h.d a b ha hb,h.d a a ha ha,h.d b b hb hb,h.d b a hb ha]
  simp[fG,Ne.symm fG]
 ·subst e1
  rw[if_pos rfl,if_neg e2,iB,h.d a b ha hb,h.d j b hj hb]
  simp[Ne.symm e2]
 ·subst e2
  rw[if_neg e1,if_pos rfl,d5,iB,d5 (ra ds b),d5 (ra ds i),h.d a b ha hb,h.d a i ha hi]
  simp[e1]
 ·rw[if_neg e1,if_neg e2];exact h.d a b ha hb
structure Eqv (rs qs:List Rw):Prop where
 to:∀x∈rs,Sn qs x
 C7:∀x∈qs,Sn rs x
noncomputable def ulk (k z u:Nat):Nat:=(2^k^^^z)&&&u
theorem Ga {a b c d:Rw}(h1:a.x=c.x) (h2:a.z=c.z) (h3:b.x=d.x) (h4:b.z=d.z):sy a b=sy c d:=by unfold sy;rw[h1,h2,h3,h4]
noncomputable def st (m:Nat):List Int:=1::List.replicate (2^m-1) 0
noncomputable def sY (m:Nat):List Rw:=(List.range m).map fun c=>⟨1,0,2^c⟩
noncomputable def LV (m:Nat):List Rw:=(List.range m).map fun c=>⟨1,2^c,0⟩
theorem iC (m:Nat):(sY m).length=m:=by unfold sY;rw[length_map,length_range]
theorem zg {m c:Nat}(h:c<m):(sY m)[c]?=some ⟨1,0,2^c⟩:=by unfold sY;rw[getElem?_map,getElem?_range h];rfl
theorem Gb {m c:Nat}(h:c<m):(LV m)[c]?=some ⟨1,2^c,0⟩:=by unfold LV;rw[getElem?_map,getElem?_range h];rfl
theorem pw_lt {m c:Nat}(h:c<m):2^c<2^m:=Nat.pow_lt_pow_right (by decide) h
theorem rF {m c:Nat}(h:c<m):(⟨1,0,2^c⟩:Rw).ok m:=⟨.inl rfl,Nat.two_pow_pos m,pw_lt h⟩
theorem Nu {m c:Nat}(h:c<m):(⟨1,2^c,0⟩:Rw).ok m:=⟨.inl rfl,pw_lt h,Nat.two_pow_pos m⟩
theorem nV {m:Nat}{r:Rw}(h:r∈sY m):∃c,c<m∧r=⟨1,0,2^c⟩:=by
 unfold sY at h
 obtain⟨c,hc,rfl⟩:=List.mem_map.mp h
 exact⟨c,mem_range.mp hc,rfl⟩
theorem Df {m:Nat}(hm:m≤6) {gs:List Gt}(hg:∀g∈gs,g.ok m):Fr m ((sY m).map (mG gs)) ((LV m).map (mG gs)):=by
 refine⟨⟨fun r hr=>?_,fun r hr=>?_,fun a ha b hb=>?_⟩,by unfold sY LV;simp,fun i j hi hj=>?_⟩
 ·obtain⟨z,hz,rfl⟩:=List.mem_map.mp hr
  obtain⟨c,hc,rfl⟩:=nV hz
  exact C5 (rF hc) hg
 ·obtain⟨z,hz,rfl⟩:=List.mem_map.mp hr
  obtain⟨c,hc,rfl⟩:=nV hz
  rw[ze hm hg (rF hc)]
  unfold nT
  show (!par (0&&&2^c))=true
  rw[Nat.zero_and,vw];rfl
 ·obtain⟨z,hz,rfl⟩:=List.mem_map.mp ha
  obtain⟨c,hc,rfl⟩:=nV hz
  obtain⟨y,hy,rfl⟩:=List.mem_map.mp hb
  obtain⟨d,hd,rfl⟩:=nV hy
  rw[xH hm hg (rF hc) (rF hd),Ip hm hc rfl rfl]
  unfold bt
  exact Nat.zero_testBit _
 ·rw[length_map,iC] at hi hj
  have e1:ra ((sY m).map (mG gs)) i=mG gs ⟨1,0,2^i⟩:=cX (by rw[getElem?_map,zg hi];rfl)
  have e2:ra ((LV m).map (mG gs)) j=mG gs ⟨1,2^j,0⟩:=cX (by rw[getElem?_map,Gb hj];rfl)
  rw[e1,e2,xH hm hg (rF hi) (Nu hj),Ip hm hi rfl rfl,C1]
  exact decide_eq_decide.mpr ⟨fun h=>h.symm,fun h=>h.symm⟩
theorem Gd (gs:List Gt) (g:Gt) (r:Rw):mG (gs++[g]) r=rD (mG gs r) g:=by unfold mG;rw[List.foldl_append];rfl
noncomputable def pls (k:Int) (xs ys:List Int):List Int:=(List.range xs.length).map fun p=>nJ xs p+k*nJ ys p
noncomputable def lowb (n:Nat):Nat:=(Builtin.bitAnd (n:Int) (0-(n:Int))).toNat
end TC
namespace L2
end L2
namespace TC
open PySem L2
noncomputable def tp (s:Int) (xs:List Int) (r:Rw):Int:=dot xs xs+s*dot xs (lay r xs)
noncomputable def sgn (t:Nat):Int:=if t=1 then -1 else 1
noncomputable def tld (w:Nat) (xs:List Int) (r:Rw):Nat:=if tp (sgn w) xs r=0 then 1-w else w
noncomputable def bhd (t:Nat) (xs:List Int) (r:Rw):List Int:=CW (pls (sgn t) xs (lay r xs))
noncomputable def fr (t b:Nat):List V:=[.int (t/Nat.gcd t b:Nat),.int (b/Nat.gcd t b:Nat)]
noncomputable def es (m s:Nat):List Int:=(List.range (2^m)).map fun p=>if p=s then 1 else 0
structure Inv (m:Nat) (L:List Rw) (s i:Nat) (v:List Int):Prop where
 l:v.length=2^m
 n:nJ v s≠0
 b:∀j r,i≤j→L[j]?=some r→ld r<6→∀p,p<2^m→nJ v p≠0→bt p (ld r)=bt s (ld r)
 f:∀j r,j<i→L[j]?=some r→lay r v=v
noncomputable def lz (r:Rw):Nat:=2^(ld r-6)
noncomputable def stt (F:List Rw):Nat:=(F.map lz).sum
structure Stt (F:List Rw):Prop where
 lt:stt F<64
 b:∀e,bt (stt F) e=true→∃f∈F,ld f-6=e
end TC
namespace L2
open PySem PySem.Spec PyProof.Rows
noncomputable def kn (kf:Keyed→Nat) (xs:Array Keyed) (i:Nat):Nat:=(xs[i]?.map kf).getD 0
theorem lO {kf:Keyed→Nat}{xs ys:Array Keyed}{i j:Nat}(e:xs[i]?=ys[j]?):kn kf xs i=kn kf ys j:=by unfold kn;rw[e]
noncomputable def Up (kf:Keyed→Nat) (xs:Array Keyed) (k:Nat):Prop:=∀i j,i<j→j<k→kn kf xs i<kn kf xs j
noncomputable def Iw (kf:Keyed→Nat) (xs:Array Keyed) (k:Nat):Prop:=∀i j,i<j→j<k→kn kf xs j<kn kf xs i
structure qH (kd:SortKind) (kf:Keyed→Nat) (z:Array Keyed) (st:SortSt):Prop where
 p:(arrOf st).Perm z
 k:kindOf st=kd
 f:failedOf st=none
 g:pendingOf st=#[]
section
variable {kd:SortKind}{kf:Keyed→Nat}{z:Array Keyed}{st:SortSt}
theorem qH.n (S:qH kd kf z st):(arrOf st).size=z.size:=S.p.size_eq
theorem qH.set (S:qH kd kf z st) {xs:Array Keyed}(e:xs.Perm (arrOf st)):qH kd kf z (setArr st xs):=⟨e.trans S.p,S.k,S.f,S.g⟩
theorem qH.at (S:qH kd kf z st) {i:Nat}(hi:i<z.size):∃x,(arrOf st)[i]?=some x∧x∈z.toList∧kn kf (arrOf st) i=kf x:=by
 have E3:i<(arrOf st).size:=S.n▸hi
 refine⟨(arrOf st)[i],Array.getElem?_eq_getElem E3,?_,?_⟩
 ·exact(Array.perm_iff_toList_perm.mp S.p).mem_iff.mp (Array.mem_toList_iff.mpr (Array.getElem_mem E3))
 ·unfold kn;rw[Array.getElem?_eq_getElem E3];rfl
theorem qH.ne (S:qH kd kf z st) (hz:(z.toList.map kf).Nodup) {i j:Nat}(hi:i<z.size) (hj:j<z.size) (h:i≠j):kn kf (arrOf st) i≠kn kf (arrOf st) j:=by
 have hp:((arrOf st).toList.map kf).Nodup:=((Array.perm_iff_toList_perm.mp S.p).map kf).nodup_iff.mpr hz
 have e:∀{i},i<z.size→((arrOf st).toList.map kf)[i]?=some (kn kf (arrOf st) i):=fun {i} hi=>by
  obtain⟨x,h1,_,h3⟩:=S.at hi
  rw[getElem?_map,Array.getElem?_toList,h1,h3];rfl
 intro q
 refine h ((List.getElem?_inj (l:=(arrOf st).toList.map kf) ?_ hp).mp ?_)
 ·rw[length_map,Array.length_toList,S.n];exact hi
 ·rw[e hi,e hj,q]
end
noncomputable def oN (prog:Program) (w:World) (A:Around) (s:Shared) (kd:SortKind) (kf:Keyed→Nat) (z:Array Keyed):Prop :=
 ∀(x y:Keyed) (Q:Bool→Shared→Prop) (E:Value→Shared→Prop),x∈z.toList→y∈z.toList→Q (decide (kf x<kf y)) s→wpAny (model prog w) A (keyLt' kd x.1 y.1) Q E s
section
variable {prog:Program}{w:World}{A:Around}{E:Value→Shared→Prop}{s:Shared}{kd:SortKind}{kf:Keyed→Nat}{z:Array Keyed}{st:SortSt}
theorem oO (C:oN prog w A s kd kf z) (S:qH kd kf z st) {i j:Nat}{Q:Option Bool→SortSt→Prop}(hi:i<z.size) (hj:j<z.size) (h:Q (some (decide (kn kf (arrOf st) i<kn kf (arrOf st) j))) st) :
  (wpS (model prog w) A E s (ltAt' i j) Q st):=by
 obtain⟨x,x1,x2,x3⟩:=S.at hi
 obtain⟨y,y1,y2,y3⟩:=S.at hj
 rw[x3,y3] at h
 rw[ltAt'_eq]
 refine wpS_bind (wpS_get ?_)
 show wpS _ _ _ _ (elem' (arrOf st) i >>= fun a=>elem' (arrOf st) j >>= fun b=>lt' a b) Q st
 rw[elem'_eq,elem'_eq,x1,y1]
 refine(wpS_bind (wpS_pure (wpS_bind (wpS_pure ?_))))
 rw[lt'_eq]
 refine wpS_bind (wpS_get ?_)
 rw[S.k]
 exact wpS_bind (wpS_lift (wpAny_attempt (C x y _ _ x2 y2 ⟨rfl,wpS_pure h⟩)))
theorem Up.step {xs:Array Keyed}{x:Nat}(h:Up kf xs x) (h1:kn kf xs (x-1)<kn kf xs x):Up kf xs (x+1):=fun i j gv hj=>by
 rcases Nat.lt_or_ge j x with q|q
 ·exact h i j gv q
 ·obtain rfl:j=x:=by omega
  rcases Nat.lt_or_ge i (j-1) with q2|q2
  ·exact Nat.lt_trans (h i (j-1) q2 (by omega)) h1
  ·rwa [show i=j-1 by omega]
theorem Iw.step {xs:Array Keyed}{x:Nat}(h:Iw kf xs x) (h1:kn kf xs x<kn kf xs (x-1)):Iw kf xs (x+1):=fun i j gv hj=>by
 rcases Nat.lt_or_ge j x with q|q
 ·exact h i j gv q
 ·obtain rfl:j=x:=by omega
  rcases Nat.lt_or_ge i (j-1) with q2|q2
  ·exact Nat.lt_trans h1 (h i (j-1) q2 (by omega))
  ·rwa [show i=j-1 by omega]
theorem zh (C:oN prog w A s kd kf z) (hz:(z.toList.map kf).Nodup) (S:qH kd kf z st) {a m:Nat}{Q:AscSt→SortSt→Prop}(hm:m≤z.size) (h1:1≤a) (SE:a≤m) (hu:Up kf (arrOf st) a)
  (h:∀n,a≤n→n≤m→Up kf (arrOf st) n→(n=m∨kn kf (arrOf st) n<kn kf (arrOf st) (n-1))→Q (none,n) st):wpS (model prog w) A E s (ascLoop a m) Q st:=by
 refine wpS_forRange (fun x c q=>q=st∧c=(none,x)∧Up kf (arrOf st) x) (fun x c q hx Iy hI=>?_) (fun c q hI=>?_) ⟨rfl,rfl,hu⟩
 ·obtain⟨rfl,rfl,lP⟩:=hI
  refine wpS_bind (oO C S (i:=x) (j:=x-1) (by omega) (by omega) ?_)
  dsimp only
  by_cases hc:kn kf (arrOf q) x<kn kf (arrOf q) (x-1)
  ·rw[decide_eq_true hc,if_pos rfl]
   exact wpS_pure (h x hx (Nat.le_of_lt Iy) lP (.inr hc))
  ·rw[decide_eq_false hc,if_neg (by decide)]
   have:=S.ne hz (i:=x) (j:=x-1) (by omega) (by omega) (by omega)
   exact wpS_pure ⟨rfl,rfl,lP.step (by omega)⟩
 ·obtain⟨rfl,rfl,lP⟩:=hI
  have e:max a m=m:=by omega
  rw[e] at lP ⊢
  exact h m SE (Nat.le_refl m) lP (.inl rfl)
theorem Dg (C:oN prog w A s kd kf z) (hz:(z.toList.map kf).Nodup) (S:qH kd kf z st) {a m:Nat}{Q:DescSt→SortSt→Prop}(hm:m≤z.size) (h1:1≤a) (SE:a≤m) (hd:Iw kf (arrOf st) a)
  (h:∀n,a≤n→n≤m→Iw kf (arrOf st) n→Q (none,n,0) st):wpS (model prog w) A E s (descLoop a m) Q st:=by
 refine wpS_forRange (fun x c q=>q=st∧c=(none,x,0)∧Iw kf (arrOf st) x) (fun x c q hx Iy hI=>?_) (fun c q hI=>?_) ⟨rfl,rfl,hd⟩
 ·obtain⟨rfl,rfl,j4⟩:=hI
  refine wpS_bind (oO C S (i:=x) (j:=x-1) (by omega) (by omega) ?_)
  dsimp only
  by_cases hc:kn kf (arrOf q) x<kn kf (arrOf q) (x-1)
  ·rw[decide_eq_true hc,if_pos rfl,if_neg (by decide)]
   exact wpS_pure ⟨rfl,rfl,j4.step hc⟩
  ·rw[decide_eq_false hc,if_neg (by decide)]
   have:=S.ne hz (i:=x) (j:=x-1) (by omega) (by omega) (by omega)
   refine wpS_bind (oO C S (i:=x-1) (j:=x) (by omega) (by omega) ?_)
   dsimp only
   rw[decide_eq_true (by omega:kn kf (arrOf q) (x-1)<kn kf (arrOf q) x),if_pos rfl]
   exact wpS_pure (h x hx (Nat.le_of_lt Iy) j4)
 ·obtain⟨rfl,rfl,j4⟩:=hI
  have e:max a m=m:=by omega
  rw[e] at j4 ⊢
  exact h m SE (Nat.le_refl m) j4
theorem Iw.turn {xs:Array Keyed}{n:Nat}(hn:n≤xs.size) (h:Iw kf xs n):Up kf (mirror xs 0 n ((n-0)/2)) n:=fun i j gv hj=>by
 have e:∀k,k<n→kn kf (mirror xs 0 n ((n-0)/2)) k=kn kf xs (0+n-1-k):=fun k hk=>lO (by rw[getElem?_mirror_all hn,if_pos ⟨Nat.zero_le k,hk⟩])
 rw[e i (by omega),e j hj]
 exact h _ _ (by omega) (by omega)
theorem Ge (C:oN prog w A s kd kf z) (hz:(z.toList.map kf).Nodup) (S:qH kd kf z st) {m:Nat}{Q:Option Nat→SortSt→Prop}(hm:m≤z.size) (h1:1≤m)
  (h:∀n q,qH kd kf z q→1≤n→n≤m→Up kf (arrOf q) n→Q (some n) q):wpS (model prog w) A E s (countRun' 0 m) Q st:=by
 rw[countRun0_eq]
 refine wpS_bind (zh C hz S hm (Nat.le_refl 1) h1 (fun i j a b=>by omega) fun n n1 nm hu ho=>?_)
 dsimp only
 by_cases hc:n=m
 ·rw[if_pos (by rw[hc];exact beq_self_eq_true m)]
  exact wpS_pure (h n st S n1 nm hu)
 rw[if_neg (by simpa using hc)]
 have bZ:=ho.resolve_left hc
 by_cases h2:n > 1
 ·rw[if_pos h2]
  refine wpS_bind (oO C S (i:=0) (j:=n-1) (by omega) (by omega) ?_)
  dsimp only
  rw[decide_eq_true (hu 0 (n-1) (by omega) (by omega)),if_pos rfl]
  exact wpS_pure (h n st S n1 nm hu)
 ·obtain rfl:n=1:=by omega
  rw[if_neg h2]
  refine(wpS_bind (wpS_lift (wpAny_rule ⟨rfl,?_⟩)))
  refine wpS_bind (Dg C hz S hm (by omega) (by omega) (fun i j a b=>?_) fun n n1 nm hd=>?_)
  ·obtain rfl:i=0:=by omega
   obtain rfl:j=1:=by omega
   exact bZ
  dsimp only
  rw[if_neg (by decide)]
  refine(wpS_bind (wpS_reverse ?_))
  have S':=S.set (mirror_perm (arrOf st) 0 n ((n-0)/2))
  exact wpS_bind (zh C hz S' hm (by omega) nm (hd.turn (by rw[S.n];omega)) fun n' a b u _=>wpS_pure (h n' _ S' (by omega) b u))
theorem Gf (C:oN prog w A s kd kf z) (hz:(z.toList.map kf).Nodup) (S:qH kd kf z st) {n ok:Nat}{Q:Bool→SortSt→Prop}(hn:n≤z.size) (h1:1≤ok) (aR:ok≤n) (hu:Up kf (arrOf st) ok)
  (h:∀q,qH kd kf z q→Up kf (arrOf q) n→Q true q):wpS (model prog w) A E s (binarySort' 0 n ok) Q st:=by
 rw[binarySort'_eq]
 refine wpS_bind (wpS_mono (wpS_forRange (Q:=fun c q=>c=(none,())∧qH kd kf z q∧Up kf (arrOf q) n) (fun k c q=>c=(none,())∧qH kd kf z q∧Up kf (arrOf q) k) (fun k c q hk Gg hI=>?_) (fun c q hI=>?_) ⟨rfl,S,by rw[show max ok 1=ok by omega];exact hu⟩) fun c q hI=>?_)
 ·obtain⟨rfl,S',lP⟩:=hI
  have Qi:k<z.size:=by omega
  have qI:k<(arrOf q).size:=by rw[S'.n];exact Qi
  refine wpS_bind (wpS_mono (wpS_forRange (Q:=fun c r=>r=q∧∃l,c.1=none∧c.2.1=l∧l≤k∧(∀i,i<l→kn kf (arrOf q) i<kn kf (arrOf q) k)∧∀i,l≤i→i<k→kn kf (arrOf q) k<kn kf (arrOf q) i)
   (fun x c r=>r=q∧∃l u,c=(none,l,u)∧l≤u∧u≤k∧u-l≤k-x∧(∀i,i<l→kn kf (arrOf q) i<kn kf (arrOf q) k)∧∀i,u≤i→i<k→kn kf (arrOf q) k<kn kf (arrOf q) i)
   (fun x c r _ hx hI=>?_) (fun c r hI=>?_) ⟨rfl,0,k,rfl,Nat.zero_le k,Nat.le_refl k,by omega,fun i hi=>absurd hi (Nat.not_lt_zero i),fun i a b=>by omega⟩) fun c r hI=>?_)
  ·obtain⟨rfl,l,u,rfl,Qj,Gh,hw,sI,AE⟩:=hI
   dsimp only
   by_cases rG:l ≥ u
   ·rw[if_pos rG]
    obtain rfl:l=u:=by omega
    exact wpS_pure ⟨rfl,l,rfl,rfl,Gh,sI,AE⟩
   rw[if_neg rG]
   refine wpS_bind (oO C S' (i:=0+k) (j:=0+(l+u)/2) (by omega) (by omega) ?_)
   rw[Nat.zero_add,Nat.zero_add]
   dsimp only
   by_cases hc:kn kf (arrOf r) k<kn kf (arrOf r) ((l+u)/2)
   ·rw[decide_eq_true hc,if_pos rfl]
    refine wpS_pure ⟨rfl,l,(l+u)/2,rfl,by omega,by omega,by omega,sI,fun i a b=>?_⟩
    rcases Nat.lt_or_ge ((l+u)/2) i with e|e
    ·exact Nat.lt_trans hc (lP _ _ e b)
    ·rwa [show i=(l+u)/2 by omega]
   ·rw[decide_eq_false hc,if_neg (by decide)]
    have fG:=S'.ne hz (i:=k) (j:=(l+u)/2) Qi (by omega) (by omega)
    refine wpS_pure ⟨rfl,(l+u)/2+1,u,rfl,by omega,Gh,by omega,fun i a=>?_,AE⟩
    rcases Nat.lt_or_ge i ((l+u)/2) with e|e
    ·have:=lP i ((l+u)/2) e (by omega);omega
    ·rw[show i=(l+u)/2 by omega];omega
  ·obtain⟨rfl,l,u,rfl,Qj,Gh,hw,sI,AE⟩:=hI
   obtain rfl:l=u:=by omega
   exact⟨rfl,l,rfl,rfl,Gh,sI,AE⟩
  ·obtain⟨rfl,l,e1,e2,hlk,sI,AE⟩:=hI
   obtain⟨c1,c2,c3⟩:=c
   obtain rfl:c1=none:=e1
   obtain rfl:c2=l:=e2
   show wpS _ _ _ _ (moveDown' (0+k) (0+c2) >>= fun _=>pure (ForInStep.yield (none,()))) _ _
   rw[moveDown'_eq,Nat.zero_add,Nat.zero_add]
   refine wpS_bind (wpS_modify (wpS_pure ⟨rfl,S'.set (bubble_perm _ _ _),fun i j gv hj=>?_⟩))
   have e:∀t,kn kf (bubble (arrOf r) k (k-c2)) t=if t=c2 then kn kf (arrOf r) k else if c2<t∧t≤k then kn kf (arrOf r) (t-1) else kn kf (arrOf r) t:=fun t=>by
    have g:=getElem?_bubble qI (k-c2) (by omega) t
    rw[show k-(k-c2)=c2 by omega] at g
    by_cases q1:t=c2
    ·rw[if_pos q1] at g ⊢;exact lO g
    ·rw[if_neg q1] at g ⊢
     by_cases q2:c2<t∧t≤k
     ·rw[if_pos q2] at g ⊢;exact lO g
     ·rw[if_neg q2] at g ⊢;exact lO g
   show kn kf (bubble (arrOf r) k (k-c2)) i<kn kf (bubble (arrOf r) k (k-c2)) j
   rw[e,e]
   by_cases i1:i=c2
   ·rw[if_pos i1,if_neg (by omega),if_pos (by omega)]
    exact AE _ (by omega) (by omega)
   ·rw[if_neg i1]
    by_cases i2:c2<i∧i≤k
    ·rw[if_pos i2,if_neg (by omega),if_pos (by omega)]
     exact lP _ _ (by omega) (by omega)
    ·rw[if_neg i2]
     by_cases j1:j=c2
     ·rw[if_pos j1];exact sI _ (by omega)
     ·rw[if_neg j1]
      by_cases j2:c2<j∧j≤k
      ·rw[if_pos j2]
       exact lP _ _ (by omega) (by omega)
      ·rw[if_neg j2];exact lP _ _ gv (by omega)
 ·obtain⟨rfl,S',lP⟩:=hI
  rw[show max (max ok 1) n=n by omega] at lP
  exact⟨rfl,S',lP⟩
 ·obtain⟨rfl,S',lP⟩:=hI
  exact wpS_pure (h q S' lP)
theorem Gi (C:oN prog w A s kd kf z) (hz:(z.toList.map kf).Nodup) (S:qH kd kf z st) {Q:Unit→SortSt→Prop}(h2:2≤z.size) (SG:z.size<64)
  (h:∀q,(arrOf q).Perm z→failedOf q=none→Up kf (arrOf q) z.size→Q () q):wpS (model prog w) A E s sortRuns' Q st:=by
 rw[sortRuns'_eq]
 refine wpS_bind (wpS_get ?_)
 have hmr:minRun' z.size z.size 0=z.size:=by
  match hs:z.size,h2,SG with
  | n+2,_,bZ=>show (if n+2<64 then n+2+0 else _)=n+2;rw[if_pos bZ]
 dsimp only
 rw[S.n,hmr]
 refine wpS_bind (wpS_mono (wpS_forRange (Q:=fun c q=>c=(none,z.size)∧(arrOf q).Perm z∧failedOf q=none∧(pendingOf q).size=1∧Up kf (arrOf q) z.size)
  (fun x c q=>(x=0∧c=(none,0)∧qH kd kf z q)∨(1≤x∧c=(none,z.size)∧(arrOf q).Perm z∧failedOf q=none∧(pendingOf q).size=1∧Up kf (arrOf q) z.size))
  (fun x c q _ hx hI=>?_) (fun c q hI=>?_) (.inl ⟨rfl,rfl,S⟩)) fun c q hI=>?_)
 ·rcases hI with⟨rfl,rfl,S'⟩|⟨x1,rfl,hp,hf,hg,hu⟩
  ·dsimp only
   rw[if_neg (by omega),Nat.sub_zero]
   refine wpS_bind (Ge C hz S' (Nat.le_refl _) (by omega) fun n r Sr n1 nz hu=>?_)
   dsimp only
   have fin:∀r,qH kd kf z r→Up kf (arrOf r) z.size→(1≤0+1∧((none,0+z.size):Option Unit×Nat)=(none,z.size)∧(arrOf (setPending r ((pendingOf r).push (0,z.size,0)))).Perm z∧failedOf (setPending r ((pendingOf r).push (0,z.size,0)))=none∧(pendingOf (setPending r ((pendingOf r).push (0,z.size,0)))).size=1∧Up kf (arrOf (setPending r ((pendingOf r).push (0,z.size,0)))) z.size):=fun r Sr hu =>
    ⟨by omega,by rw[Nat.zero_add],Sr.p,Sr.f,by show ((pendingOf r).push _).size=1;rw[Sr.g];rfl,hu⟩
   by_cases hc:n<z.size
   ·rw[if_pos hc]
    refine(wpS_bind (wpS_lift (wpAny_rule ⟨rfl,?_⟩)))
    rw[Nat.min_self]
    refine wpS_bind (Gf C hz Sr (Nat.le_refl _) n1 nz hu fun r2 S2 SH=>?_)
    rw[if_neg (by decide)]
    refine wpS_bind (wpS_get ?_)
    rw[show (pendingOf r2).back?=none by rw[S2.g];rfl]
    exact wpS_bind (wpS_modify (wpS_pure (.inr (fin r2 S2 SH))))
   ·obtain rfl:n=z.size:=by omega
    rw[if_neg hc]
    refine wpS_bind (wpS_get ?_)
    rw[show (pendingOf r).back?=none by rw[Sr.g];rfl]
    exact wpS_bind (wpS_modify (wpS_pure (.inr (fin r Sr hu))))
  ·dsimp only
   rw[if_pos (Nat.le_refl _)]
   exact wpS_pure ⟨rfl,hp,hf,hg,hu⟩
 ·rcases hI with⟨hx,_,_⟩|⟨_,rfl,hI⟩
  ·exfalso;omega
  ·exact⟨rfl,hI⟩
 ·obtain⟨rfl,hp,hf,hg,hu⟩:=hI
  dsimp only
  refine wpS_bind (wpS_mono (wpS_forRange (Q:=fun c r=>c.1=none∧r=q) (fun _ c r=>c.1=none∧r=q) (fun x c r _ hx hI=>?_) (fun c r hI=>hI) ⟨rfl,rfl⟩) fun c r hI=>?_)
  ·obtain⟨e,rfl⟩:=hI
   refine wpS_bind (wpS_get ?_)
   rw[if_pos (by rw[hg];exact Nat.le_refl 1)]
   exact wpS_pure ⟨rfl,rfl⟩
  ·obtain⟨e,rfl⟩:=hI
   rw[e]
   exact wpS_pure (h r hp hf hu)
end
section
variable {A:Around}{s:Shared}{prog:Program}{w:World}{E:Value→Shared→Prop}
theorem rH {o:Bool}{a b:Int}{t u:Tok}{Q:Bool→Shared→Prop}(h:Q (decide (a<b)) s):wpAny (model prog w) A (oneLt' o (.int a t) (.int b u)) Q E s:=by
 cases o with
 | true=>exact oneLt_int h
 | false =>
  rw[oneLt'_eq]
  simp only[Bool.false_eq_true,if_false,pure_bind]
  refine wpAny_bind (wpAny_richCompare_same (op:=.Lt) (T:="int") (typeIs_int s a t) (typeIs_int s b u) slot_int_lt (call_int_lt ⟨(by intro z;cases z),?_⟩))
  exact wpAny_truthy_bool h
theorem Dh {c:Bool}{a b:Addr}{p q p' q':Int}{t u t' u':Tok}{o o':Obj}{n n':Nat}{Q:Bool→Shared→Prop}(h1:s.heap.get? a=some o) (d1:o.data = .seq #[.int p t,.int q u] n) (h2:s.heap.get? b=some o') (d2:o'.data = .seq #[.int p' t',.int q' u'] n')
  (h:Q (decide (p<p'∨(p=p'∧q<q'))) s):wpAny (model prog w) A (keyLt' (tuples' c) (.ref a) (.ref b)) Q E s:=by
 refine wpAny_bind (listItems_at h1 d1 ?_)
 refine wpAny_bind (listItems_at h2 d2 ?_)
 show wpAny _ _ (forIn [((Value.int p t,Value.int p' t'),0),((Value.int q u,Value.int q' u'),1)] _ _ >>= _) _ _ _
 refine wpAny_bind ?_
 rw[List.forIn_cons]
 refine wpAny_bind ?_
 refine(wpAny_bind (wpAny_eqBool_int ?_))
 by_cases e:p=p'
 ·subst e
  rw[if_neg (by simp)]
  refine wpAny_pure ?_
  dsimp only
  rw[List.forIn_cons]
  refine wpAny_bind ?_
  refine(wpAny_bind (wpAny_eqBool_int ?_))
  by_cases e2:q=q'
  ·subst e2
   rw[if_neg (by simp)]
   refine wpAny_pure ?_
   dsimp only
   rw[List.forIn_nil]
   refine(wpAny_pure (wpAny_pure ?_))
   have:decide (p<p∨p=p∧q<q)=decide (#[Value.int p t,Value.int q u].size < #[Value.int p t',Value.int q u'].size):=by
    rw[decide_eq_false (by omega),decide_eq_false (by show ¬(2<2);omega)]
   rw[←this];exact h
  ·rw[if_pos (by simpa using e2)]
   refine wpAny_bind (rH (o:=c&&1 == 0) (wpAny_pure (wpAny_pure (wpAny_pure ?_))))
   have:decide (p<p∨p=p∧q<q')=decide (q<q'):=by congr 1;exact propext ⟨fun z=>by omega,fun z=>.inr ⟨rfl,z⟩⟩
   rw[←this];exact h
 ·rw[if_pos (by simpa using e)]
  refine wpAny_bind (rH (o:=c&&0 == 0) (wpAny_pure (wpAny_pure (wpAny_pure ?_))))
  have:decide (p<p'∨p=p'∧q<q')=decide (p<p'):=by congr 1;exact propext ⟨fun z=>by omega,fun z=>.inl z⟩
  rw[←this];exact h
noncomputable def Pr (h:Heap) (v:Value) (p q:Int):Prop:=∃a o t u n,v = .ref a∧h.get? a=some o∧o.cls = .type "tuple"∧o.data = .seq #[.int p t,.int q u] n
theorem rJ:∀{vs:List Value}{Q:List (Option Value)→Shared→Prop},(∀v∈vs,∃p q,Pr s.heap v p q)→(∀fs:List (Option Value),(∀f∈fs,∃p t,f=some (.int p t))→Q fs s)→wpAny (model prog w) A (vs.mapM firstOfTuple') Q E s
 | [],Q,_,h=>by rw[List.mapM_nil];exact wpAny_pure (h [] fun _ z=>nomatch z)
 | v::r,Q,hv,h=>by
  rw[List.mapM_cons]
  obtain⟨p,q,a,o,t,u,n,rfl,ho,hc,hd⟩:=hv v mem_cons_self
  refine wpAny_bind ?_
  refine(wpAny_bind (wpAny_typeOf (T:="tuple") ⟨o,ho,hc⟩ ?_))
  rw[if_neg (by decide)]
  refine(wpAny_bind (listItems_at ho hd (wpAny_pure ?_)))
  refine wpAny_bind (rJ (fun v ES=>hv v (mem_cons_of_mem _ ES)) fun fs Qk=>wpAny_pure (h _ fun f hf=>?_))
  rcases List.mem_cons.mp hf with rfl|hf
  ·exact⟨p,t,rfl⟩
  ·exact Qk f hf
theorem vD:∀{us:List Value}{Q:List Value→Shared→Prop},(∀v∈us,∃p t,v = .int p t)→(∀ts,Q ts s)→wpAny (model prog w) A (us.mapM typeOf) Q E s
 | [],Q,_,h=>by rw[List.mapM_nil];exact wpAny_pure (h [])
 | v::r,Q,hv,h=>by
  rw[List.mapM_cons]
  obtain⟨p,t,rfl⟩:=hv v mem_cons_self
  exact wpAny_bind (wpAny_typeOf (typeIs_int s p t) (wpAny_bind (vD (fun v ES=>hv v (mem_cons_of_mem _ ES)) fun ts=>wpAny_pure (h _))))
theorem xJ {vs:List Value}{Q:SortKind→Shared→Prop}(hv:∀v∈vs,∃p q,Pr s.heap v p q) (h:∀c,Q (tuples' c) s):wpAny (model prog w) A (keyKind' vs.toArray) Q E s:=by
 rw[keyKind'_eq,List.mapM_toArray]
 refine wpAny_bind ?_
 show wpAny _ _ (List.toArray <$> vs.mapM firstOfTuple') _ _ _
 rw[map_eq_pure_bind]
 refine wpAny_bind (rJ hv fun fs Qk=>wpAny_pure ?_)
 rw[if_pos (by rw[List.all_toArray,all_eq_true];intro f hf;obtain⟨p,t,rfl⟩:=Qk f hf;rfl)]
 refine(wpAny_bind (wpAny_rule ?_))
 refine wpAny_bind ?_
 rw[oneTypeOnly'_eq]
 refine wpAny_bind ?_
 rw[show (fs.toArray.filterMap id)=(fs.filterMap id).toArray by simp,List.mapM_toArray,map_eq_pure_bind]
 refine wpAny_bind (vD (fun v ES=>?_) fun ts=>wpAny_pure ?_)
 ·obtain⟨f,hf,e⟩:=List.mem_filterMap.mp ES
  obtain⟨p,t,rfl⟩:=Qk f hf
  exact⟨p,t,(Option.some.inj e).symm⟩
 cases ts.toArray[0]? with
 | none=>exact wpAny_pure (wpAny_pure (h _))
 | some t=>exact wpAny_pure (wpAny_pure (h _))
end
section
variable {A:Around}{s:Shared}{prog:Program}{w:World}{E:Value→Shared→Prop}
theorem mH {f q:Addr}{vs:List Value}{J:List Value→Shared→Prop}{g:Value→PUnit→Sem (ForInStep PUnit)}{Q:PUnit→Shared→Prop}
  (hg:∀(x:Value) (s1:Shared) (R:ForInStep PUnit→Shared→Prop),wpAny (model prog w) A (call (.ref f) [x]) (fun k s2=>wpAny (model prog w) A (Builtin.List.listUpdate (.ref q) fun xs=>xs.push k) (fun _ s3=>R (.yield ⟨⟩) s3) E s2) (fun _ _=>False) s1→wpAny (model prog w) A (g x ⟨⟩) R E s1)
  (hc:∀(ks:List Value) (x:Value) (s1:Shared),vs[ks.length]?=some x→J ks s1→wpAny (model prog w) A (call (.ref f) [x]) (fun k s2=>wpAny (model prog w) A (Builtin.List.listUpdate (.ref q) fun xs=>xs.push k) (fun _ s3=>J (ks++[k]) s3) E s2) (fun _ _=>False) s1)
  (hd:∀ks s1,ks.length=vs.length→J ks s1→Q ⟨⟩ s1):∀(r:List Value) (ks:List Value) (s1:Shared),vs.drop ks.length=r→ks.length≤vs.length→J ks s1→wpAny (model prog w) A (forIn r ⟨⟩ g) Q E s1
 | [],ks,s1,hr,hl,hJ=>by
  rw[List.forIn_nil]
  exact wpAny_pure (hd ks s1 (by have:=congrArg List.length hr;rw[List.length_drop] at this;simp at this;omega) hJ)
 | x::r,ks,s1,hr,hl,hJ=>by
  rw[List.forIn_cons]
  have hx:vs[ks.length]?=some x:=by rw[←List.head?_drop,hr];rfl
  have bZ:ks.length<vs.length:=(List.getElem?_eq_some_iff.mp hx).1
  refine wpAny_bind (hg x s1 _ (wpAny_mono (hc ks x s1 hx hJ) (fun k s2 h2=>wpAny_mono h2 (fun _ s3 h3=>?_) fun _ _ z=>z) fun _ _ z=>z))
  refine mH hg hc hd r (ks++[k]) s3 ?_ (by rw[length_append];exact bZ) h3
  rw[length_append,show ks.length + [k].length=ks.length+1 from rfl,←List.drop_drop,hr];rfl
theorem Gj {l f:Addr}{vs:List Value}{n:Nat}{P:Fin→Shared→Prop}(J:Nat→List Value→Shared→Prop) (ho:s.heap.get? l=some (seqObj "list" vs.toArray n)) (hn:vs.length<64)
  (h0:∀ep,(s.heap.update l (Obj.mapSeq fun _=>#[])).get? l=some (seqObj "list" #[] ep)→J ep [] { s with heap:=((s.heap.update l (Obj.mapSeq fun _=>#[])).push (seqObj "tuple" vs.toArray 0)).push (seqObj "list" #[] 0) })
  (hc:∀(ep:Nat) (ks:List Value) (x:Value) (s1:Shared),vs[ks.length]?=some x→J ep ks s1→wpAny (model prog w) A (call (.ref f) [x]) (fun k s2=>wpAny (model prog w) A (Builtin.List.listUpdate (.ref (s.heap.objs.size+1)) fun xs=>xs.push k) (fun _ s3=>J ep (ks++[k]) s3) E s2) (fun _ _=>False) s1)
  (hd:∀(ep:Nat) (ks:List Value) (s1:Shared),ks.length=vs.length→J ep ks s1→∃(m:Nat) (kf:Keyed→Nat),s1.heap.get? (s.heap.objs.size+1)=some (seqObj "list" ks.toArray m)∧s1.heap.get? l=some (seqObj "list" #[] ep)∧s.heap.objs.size+1≠l ∧
   (∀k∈ks,∃p q,Pr s1.heap k p q)∧((ks.zip vs).map kf).Nodup∧(∀c,oN prog w A s1 (tuples' c) kf (ks.toArray.zip vs.toArray)) ∧
   ∀xs:Array Keyed,xs.Perm (ks.toArray.zip vs.toArray)→Up kf xs vs.length→P (.done (.ret .none)) { s1 with heap:=(s1.heap.update (s.heap.objs.size+1) (Obj.mapSeq fun _=>#[])).update l (Obj.mapSeq fun _=>xs.map (·.2)) }) :
  wpAny (model prog w) A (Builtin.«list.sort» ⟨[.ref l],[("key",.ref f)]⟩) P E s:=by
 have e0:([("key",Value.ref f)]:List (Str×Value)).lookup ("key":Str)=some (.ref f):=rfl
 have e1:([("key",Value.ref f)]:List (Str×Value)).lookup ("reverse":Str)=none:=rfl
 unfold Builtin.«list.sort»
 dsimp only
 rw[if_neg (by show ¬(0+1 > 2);decide),if_neg (by show ¬((!true)=true);decide)]
 refine wpAny_bind ?_
 rw[List.forIn_cons]
 refine wpAny_bind ?_
 rw[if_neg (by show ¬((("key":Str) != "key"&&("key":Str) != "reverse")=true);decide)]
 refine wpAny_pure ?_
 dsimp only
 rw[List.forIn_nil]
 refine wpAny_pure ?_
 rw[e1,e0]
 refine(wpAny_bind (wpAny_pure ?_))
 have hf:(((some (Value.ref f)).getD Value.none != Value.none)=true):=rfl
 refine(wpAny_bind (listItems_at ho rfl ?_))
 refine(wpAny_bind (listUpdate_at ho rfl ?_))
 obtain⟨ep,JW⟩:∃ep,(s.heap.update l (Obj.mapSeq fun _=>#[])).get? l=some (seqObj "list" #[] ep):=⟨_,get?_update_seq ho (fun _=>#[])⟩
 refine(wpAny_bind (seqEpoch_at JW rfl ?_))
 refine(wpAny_bind (wpAny_newTuple ?_))
 refine(wpAny_bind (wpAny_newList ?_))
 refine wpAny_holding ?_
 rw[if_pos hf]
 refine(wpAny_bind (wpAny_rule ?_))
 refine wpAny_bind ?_
 have hsz:(s.heap.update l (Obj.mapSeq fun _=>#[])).objs.size=s.heap.objs.size:=Heap.size_update ..
 show wpAny _ _ (forIn vs.toArray PUnit.unit _) _ _ { s with heap:=((s.heap.update l (Obj.mapSeq fun _=>#[])).push (seqObj "tuple" vs.toArray 0)).push (seqObj "list" #[] 0) }
 rw[List.forIn_toArray]
 refine mH (f:=f) (q:=s.heap.objs.size+1) (vs:=vs) (J:=J ep) (fun x s1 R hx=>?_) (hc ep) (fun ks s1 qI hJ=>?_) vs [] _ rfl (Nat.zero_le _) (h0 ep JW)
 ·refine wpAny_bind (wpAny_attempt (wpAny_mono hx (fun k s2 h2=>?_) fun _ _ z=>False.elim z))
  dsimp only
  refine wpAny_bind ?_
  rw[size_push',hsz]
  exact wpAny_mono h2 (fun _ s3 h3=>wpAny_pure h3) fun _ _ z=>z
 ·obtain⟨m,kf,hq,hl,fG,LW,uL,Kl,hP⟩:=hd ep ks s1 qI hJ
  rw[if_pos hf]
  simp only[size_push',hsz]
  refine wpAny_bind (listItems_at hq rfl ?_)
  rw[if_neg (by decide)]
  have hsv:vs.toArray.size=vs.length:=by simp
  have big:(64:Nat)≤sizeLine:=Nat.le_trans (by decide) dI
  by_cases h2:(vs.toArray.size<2)
  ·rw[if_pos h2]
   refine(wpAny_bind (wpAny_pure ?_))
   rw[if_pos h2]
   refine wpAny_bind (wpAny_mono (Q:=fun a s'=>s'=s1∧(arrOf a.2).Perm (ks.toArray.zip vs.toArray)∧failedOf a.2=none∧Up kf (arrOf a.2) vs.length) ?_ ?_ fun _ _ z=>z)
   ·rw[StateT.run_pure]
    exact wpAny_pure ⟨rfl,Array.Perm.refl _,rfl,fun i j a b=>by omega⟩
   ·rintro⟨⟨⟩,st⟩ s' ⟨rfl,hp,AF,Km⟩
    rw[if_pos hf]
    have LX:(ks.toArray.zip vs.toArray).size=vs.length:=by simp[qI]
    refine wpAny_bind (listUpdate_at hq rfl ?_ (by rw[List.size_toArray];omega) (Nat.zero_le _))
    refine(wpAny_bind (wpAny_letGo ?_))
    have uK:(s'.heap.update (s.heap.objs.size+1) (Obj.mapSeq fun _=>#[])).get? l=some (seqObj "list" #[] ep):=(Heap.get?_update_other _ _ fG).trans hl
    refine wpAny_bind (seqEpoch_at uK rfl ?_)
    refine wpAny_bind (listUpdate_at uK rfl ?_ (Nat.zero_le _) (by rw[if_neg (by decide),Array.size_map];have qu:(arrOf st).size=_:=hp.size_eq;show (arrOf st).size≤_;omega))
    dsimp only at AF
    rw[show (sortPriv% PySem.Builtin.SortState.failed) (((),st):Unit×SortSt).snd=none from AF]
    dsimp only
    rw[if_neg (by simp)]
    exact wpAny_pure (hP (arrOf st) hp Km)
  ·rw[if_neg h2]
   refine wpAny_bind (xJ LW fun c=>?_)
   rw[if_neg h2]
   refine wpAny_bind (wpAny_mono (Q:=fun a s'=>s'=s1∧(arrOf a.2).Perm (ks.toArray.zip vs.toArray)∧failedOf a.2=none∧Up kf (arrOf a.2) vs.length) ?_ ?_ fun _ _ z=>z)
   ·have LX:(ks.toArray.zip vs.toArray).size=vs.length:=by simp[qI]
    have SI:((ks.toArray.zip vs.toArray).toList.map kf).Nodup:=by simpa using uL
    refine Gi (kd:=tuples' c) (kf:=kf) (z:=ks.toArray.zip vs.toArray) (st:=SortSt.mk' (tuples' c) (ks.toArray.zip vs.toArray) #[] 7 none) (Q:=fun _ q=>(arrOf q).Perm (ks.toArray.zip vs.toArray)∧failedOf q=none∧Up kf (arrOf q) vs.length) (Kl c) SI ⟨Array.Perm.refl _,rfl,rfl,rfl⟩ (by omega) (by omega) fun q q1 q2 q3=>⟨q1,q2,?_⟩
    rw[←LX];exact q3
   ·rintro⟨⟨⟩,st⟩ s' ⟨rfl,hp,AF,Km⟩
    rw[if_pos hf]
    have LX:(ks.toArray.zip vs.toArray).size=vs.length:=by simp[qI]
    refine wpAny_bind (listUpdate_at hq rfl ?_ (by rw[List.size_toArray];omega) (Nat.zero_le _))
    refine(wpAny_bind (wpAny_letGo ?_))
    have uK:(s'.heap.update (s.heap.objs.size+1) (Obj.mapSeq fun _=>#[])).get? l=some (seqObj "list" #[] ep):=(Heap.get?_update_other _ _ fG).trans hl
    refine wpAny_bind (seqEpoch_at uK rfl ?_)
    refine wpAny_bind (listUpdate_at uK rfl ?_ (Nat.zero_le _) (by rw[if_neg (by decide),Array.size_map];have qu:(arrOf st).size=_:=hp.size_eq;show (arrOf st).size≤_;omega))
    dsimp only at AF
    rw[show (sortPriv% PySem.Builtin.SortState.failed) (((),st):Unit×SortSt).snd=none from AF]
    dsimp only
    rw[if_neg (by simp)]
    exact wpAny_pure (hP (arrOf st) hp Km)
end
theorem rK {α β:Type}(g:α→β) {zs ys:List β}(h:zs.Perm ys):∀T:List α,T.map g=ys→∃T':List α,T'.Perm T∧T'.map g=zs:=by
 induction h with
 | nil=>intro T e;exact⟨T,.refl T,e⟩
 | cons x _ ih =>
  intro T e
  match T,e with
  | a::r,e =>
   rw[List.map_cons] at e
   obtain⟨e1,e2⟩:=List.cons.inj e
   obtain⟨r',p,q⟩:=ih r e2
   exact⟨a::r',p.cons a,by rw[List.map_cons,e1,q]⟩
 | swap x y l =>
  intro T e
  match T,e with
  | a::b::r,e =>
   rw[List.map_cons,List.map_cons] at e
   obtain⟨e1,e'⟩:=List.cons.inj e
   obtain⟨e2,e3⟩:=List.cons.inj e'
   exact⟨b::a::r,.swap a b r,by rw[List.map_cons,List.map_cons,e1,e2,e3]⟩
 | trans _ _ Nv Nw =>
  intro T e
  obtain⟨T1,p1,q1⟩:=Nw T e
  obtain⟨T2,p2,q2⟩:=Nv T1 q1
  exact⟨T2,p2.trans p1,q2⟩
noncomputable def qJ (h:Heap) (x:Keyed):Nat:=match x.1 with
 | .ref c=>(match h.get? c with
  | some ob=>(match ob.data with
   | .seq its _=>(match its.toList with
    | [.int p _,.int q _]=>p.toNat*2^64+q.toNat
    | _=>0)
   | _=>0)
  | none=>0)
 | _=>0
theorem sZ {h:Heap}{v u:Value}{p q:Int}(e:Pr h v p q):qJ h (v,u)=p.toNat*2^64+q.toNat:=by
 obtain⟨a,o,t,t',n,rfl,ho,_,hd⟩:=e
 unfold qJ
 simp only[ho,hd]
theorem Gk {prog:Program}{w:World}{A:Around}{s:Shared}{c:Bool}{z:Array Keyed}(hz:∀x∈z.toList,∃p q,Pr s.heap x.1 p q∧0≤p∧0≤q∧q<2^64):oN prog w A s (tuples' c) (qJ s.heap) z:=by
 intro x y Q E hx hy h
 obtain⟨p,q,e1,p0,q0,q1⟩:=hz x hx
 obtain⟨p',q',e2,p0',q0',q1'⟩:=hz y hy
 obtain⟨x1,x2⟩:=x
 obtain⟨y1,y2⟩:=y
 rw[sZ e1,sZ e2] at h
 obtain⟨a,o,t,t',n,rfl,ho,_,hd⟩:=e1
 obtain⟨a',o',u,u',n',rfl,iU,_,j4⟩:=e2
 refine Dh ho hd iU j4 ?_
 have:decide (p<p'∨p=p'∧q<q')=decide (p.toNat*2^64+q.toNat<p'.toNat*2^64+q'.toNat):=by
  congr 1
  refine propext ⟨fun z=>?_,fun z=>?_⟩
  ·omega
  ·omega
 rw[this];exact h
theorem lQ (a b:Value):argsOk "sorted" ⟨[a],[("key",b)]⟩:=by unfold argsOk;kernel_rfl
theorem oP (a b:Value):argsOk "list.sort" ⟨[a],[("key",b)]⟩:=by unfold argsOk;kernel_rfl
noncomputable def kv (kp:V→Int×Int) (x:V):Nat:=(kp x).1.toNat*2^64+(kp x).2.toNat
noncomputable def xK (l:Addr) (ep:Nat):HO:=.ext fun h=>h.get? l=some (seqObj "list" #[] ep)
noncomputable def SJ (X:Cx) (pins:List (Addr×Obj)) (σ:St) (H:Hp) (kp:V→Int×Int) (xs:List V) (l q:Addr) (ep:Nat) (ks:List Value) (s1:Shared):Prop :=
 ∃(H1:Hp) (as:List Addr),Inv X pins σ H1 s1∧ao H H1∧H1 l=some (xK l ep)∧H1 q=some (.lst (as.map V.ref))∧ks=as.map Value.ref∧∀(i:Nat) (x:V) (a:Addr),xs[i]?=some x→as[i]?=some a→H1 a=some (.tup [.int (kp x).1,.int (kp x).2])
theorem mI:∀{as:List Addr}{its:List Value},Vals (as.map V.ref) its→its=as.map Value.ref
 | [],_,h=>by cases h;rfl
 | a::r,_,h=>by
  cases h with
  | cons h1 h2=>rw[mI h2,show _=Value.ref a from h1];rfl
section
variable {X:Cx}{pins:List (Addr×Obj)}{σ:St}{H:Hp}{s:Shared}{k:Nat}{f:Addr}{fd:FuncData}{p:Str}{sp:Sp}{l0:Addr}{xs:List V}{kp:V→Int×Int}{Q:VK}
theorem Nx {H1:Hp}{s1:Shared}{a:Addr}{u v:Int}(I:Inv X pins σ H1 s1) (e:H1 a=some (.tup [.int u,.int v])):Pr s1.heap (.ref a) u v:=by
 obtain⟨_,its,r,o,ho,hc,n,hd⟩:=I.aR a _ e
 obtain⟨w1,w2,rfl,⟨t,rfl⟩,⟨t',rfl⟩⟩:=r.two
 exact⟨a,o,t,t',n,rfl,ho,hc,hd⟩
theorem Di (F:fj X.prog X.w X.K X.mg X.base bu k f fd [p] sp) (hb:Binds X.K fd [p] []) (hr:bK (k+2) X.A)
  (hk:∀x H1 (Q':VK),x∈xs→ao H H1→(∀q H2,ao H1 H2→H2 q=some (.tup [.int (kp x).1,.int (kp x).2])→Q' (.ref q) H2)→sp [x] H1 Q' E0)
  {vs:List Value}(r:Vals xs vs) (hn:xs.length<64) {l q:Addr}(SK:l≠q) (SM:H q=none) (ep:Nat) (ks:List Value) (x:Value) (s1:Shared) (hx:vs[ks.length]?=some x) (hJ:SJ X pins σ H kp xs l q ep ks s1) :
  wpAny (model X.prog X.w) X.A.in1.in1 (call (.ref f) [x]) (fun c s2=>wpAny (model X.prog X.w) X.A.in1.in1 (Builtin.List.listUpdate (.ref q) fun xs=>xs.push c) (fun _ s3=>SJ X pins σ H kp xs l q ep (ks++[c]) s3) X.xe s2) (fun _ _=>False) s1:=by
 obtain⟨H1,as,I1,Gm,Dj,Gn,rfl,Iz⟩:=hJ
 rw[length_map] at hx
 have bZ:as.length<xs.length:=by rw[r.length];exact(List.getElem?_eq_some_iff.mp hx).1
 obtain⟨y,hy⟩:∃y,xs[as.length]?=some y:=⟨xs[as.length],getElem?_eq_getElem bZ⟩
 obtain⟨u,hu,ru⟩:=r.get hy
 rw[hx] at hu
 cases hu
 have ow:y∈xs:=mem_of_getElem? hy
 have hp:=hk y H1 (fun v H2=>∃a,v = .ref a∧ao H1 H2∧H2 a=some (.tup [.int (kp y).1,.int (kp y).2])) ow Gm fun a H2 s2 e2=>⟨a,rfl,s2,e2⟩
 refine wpAny_call (codeAny_mono (F.run X.A.in1.in1 X.stack s1 H1 ⟨[x],[]⟩ [x] [y] _ E0 hr.in1.in1 I1.Ak.in1.in1 (hb s1 [x] I1.iR rfl) (.cons ru .nil) hp) fun r' s2 qu=>?_)
 cases r' with
 | error e=>exact qu
 | ok fl =>
  cases fl with
  | next=>exact qu
  | brk=>exact qu
  | cont=>exact qu
  | ret c =>
   obtain⟨v,H2,I2,rv,a,rfl,IC,ea⟩:=I1.after qu
   obtain rfl:c = .ref a:=rv
   have ID:=IC _ _ Gn
   obtain⟨hz,its,n,ri,P8,eo⟩:=I2.vc ID
   obtain rfl:=mI ri
   refine listUpdate_at eo rfl ?_ (by rw[←P8] at *;simpa using hz) (by rw[Array.size_push,List.size_toArray,length_map];have:=dI;omega)
   have e2:(as.map Value.ref).toArray.push (Value.ref a)=(as.map Value.ref++[Value.ref a]).toArray:=by simp
   have I3:=I2.FJ (t':=s2.toks) (f:=fun xs=>xs.push (.ref a)) (ys:=(as++[a]).map V.ref) (its':=as.map Value.ref++[Value.ref a]) ID eo e2 (by rw[List.map_append];exact ri.append (.cons rfl .nil)) (by rw[length_map,length_append];have:=dI;show as.length+1≤_;omega)
   have hqa:∀b o,H2 b=some (.tup o)→b≠q:=fun b o e z=>by rw[z,ID] at e;cases e
   refine⟨_,as++[a],I3,(Gm.trans IC).upd SM,?_,ah,by simp,fun i z b B7 iQ=>?_⟩
   ·rw[av SK];exact IC _ _ Dj
   ·rcases Nat.lt_or_ge i as.length with hi|hi
    ·rw[getElem?_append_left hi] at iQ
     have:=IC _ _ (Iz i z b B7 iQ)
     rw[av (hqa _ _ this)];exact this
    ·have E3:i=as.length:=by
      have:=(List.getElem?_eq_some_iff.mp iQ).1
      rw[length_append] at this
      have:i<as.length+1:=this
      omega
     subst E3
     rw[getElem?_append_right (Nat.le_refl _),Nat.sub_self] at iQ
     cases iQ
     rw[hy] at B7
     cases B7
     rw[av (hqa _ _ ea)];exact ea
end
end L2
set_option maxHeartbeats 1000000
namespace L2
open PySem PySem.Spec PyProof.Rows
theorem tf:∀{T:List (V×Keyed)},(∀t∈T,RelV t.1 t.2.2)→Vals (T.map (·.1)) (T.map (·.2.2))
 | [],_=>.nil
 | t::r,h=>.cons (h t mem_cons_self) (tf fun t' xM=>h t' (mem_cons_of_mem _ xM))
section
variable {X:Cx}{pins:List (Addr×Obj)}{σ:St}{H:Hp}{s:Shared}{k:Nat}{f:Addr}{fd:FuncData}{p:Str}{sp:Sp}{l0:Addr}{xs:List V}{kp:V→Int×Int}{Q:VK}
theorem xO (F:fj X.prog X.w X.K X.mg X.base bu k f fd [p] sp) (hb:Binds X.K fd [p] []) (hr:bK (k+2) X.A) (I:Inv X pins σ H s) (hl:cC X.K H l0 xs) (hn:xs.length<64)
  (hk:∀x H1 (Q':VK),x∈xs→ao H H1→(∀q H2,ao H1 H2→H2 q=some (.tup [.int (kp x).1,.int (kp x).2])→Q' (.ref q) H2)→sp [x] H1 Q' E0)
  (zi:∀x∈xs,0≤(kp x).1∧0≤(kp x).2∧(kp x).2<2^64) (uL:(xs.map (kv kp)).Nodup)
  (hQ:∀l H' ws,ao H H'→H l=none→H' l=some (.lst ws)→ws.Perm xs→ws.Pairwise (fun x y=>kv kp x<kv kp y)→Q (.ref l) H') :
  wpAny (model X.prog X.w) X.A (call (.builtin "sorted") [.ref l0] [("key",.ref f)]) (EP X pins σ Q) X.xe s:=by
 obtain⟨vs,r,⟨o,n,ho,hc,hdc,hd⟩,hz⟩:=I.list hl
 have hlen:=r.length
 have SN:s.heap.IsList l0 vs.toArray:=⟨o,ho,hc,n,hd⟩
 refine call_function_entry_kw kind_sorted plain_sorted entry_sorted (lQ _ _) ?_
 unfold Builtin.«sorted»
 refine(wpAny_bind (m:=checkCount "sorted" 1 1 _) (wpAny_pure ?_))
 have lb:=dI
 refine wpAny_bind (collect_list SN ?_ (by omega))
 refine wpAny_bind (wpAny_newList ?_ (by omega))
 have hsz:((s.heap.push (seqObj "list" #[] 0)).update s.heap.objs.size (Obj.mapSeq (·++vs.toArray))).objs.size=s.heap.objs.size+1:=(Heap.size_update ..).trans (size_push' ..)
 have vE:∀b u,s.heap.get? b=some u→(((s.heap.push (seqObj "list" #[] 0)).update s.heap.objs.size (Obj.mapSeq (·++vs.toArray))).push (seqObj "list" vs.toArray 0)).get? b=some u:=fun b u e=>by
  have:b≠s.heap.objs.size:=Nat.ne_of_lt (Heap.lt_size e)
  exact Heap.get?_push_of_some _ ((Heap.get?_update_other _ _ (Ne.symm this)).trans (Heap.get?_push_of_some _ e))
 have tj:(((s.heap.push (seqObj "list" #[] 0)).update s.heap.objs.size (Obj.mapSeq (·++vs.toArray))).push (seqObj "list" vs.toArray 0)).get? (s.heap.objs.size+1)=some (seqObj "list" vs.toArray 0):=by
  (rw[←hsz];exact Heap.get?_push_size _ rfl)
 have Kn:(((s.heap.push (seqObj "list" #[] 0)).update s.heap.objs.size (Obj.mapSeq (·++vs.toArray))).push (seqObj "list" vs.toArray 0)).objs.size=s.heap.objs.size+2:=by rw[size_push',hsz]
 change wpAny _ _ _ _ _ { s with heap:=((s.heap.push (seqObj "list" #[] 0)).update s.heap.objs.size (Obj.mapSeq (·++vs.toArray))).push (seqObj "list" vs.toArray 0) }
 rw[show ((s.heap.push (seqObj "list" #[] 0)).update s.heap.objs.size (Obj.mapSeq (·++vs.toArray))).objs.size=s.heap.objs.size+1 from hsz]
 generalize ((s.heap.push (seqObj "list" #[] 0)).update s.heap.objs.size (Obj.mapSeq (·++vs.toArray))).push (seqObj "list" vs.toArray 0)=h1 at vE tj Kn ⊢
 generalize hL:s.heap.objs.size+1=l at tj ⊢
 have Bv:h1.objs.size=l+1:=by omega
 have Ko:H l=none:=I.aR.fresh (by omega)
 have Kp:H (l+2)=none:=I.aR.fresh (by omega)
 refine wpAny_bind (wpAny_holding (wpAny_call_entry_kw slot_list_sort ⟨_,tj,rfl⟩ entry_list_sort (Gj (s:={ s with heap:=h1 }) (SJ X pins σ H kp xs l (l+2)) tj (by omega) (fun ep SO=>?_) (fun ep ks x s1 hx hJ=>?_) (fun ep ks s1 qI hJ=>?_)) (oP _ _)))
 ·have fG:∀b u,s.heap.get? b=some u→b≠l:=fun b u e=>Nat.ne_of_lt (Nat.lt_of_lt_of_le (Heap.lt_size e) (by omega))
  have kA:∀b u,s.heap.get? b=some u→((h1.update l (Obj.mapSeq fun _=>#[])).push (seqObj "tuple" vs.toArray 0)).get? b=some u:=fun b u e =>
   Heap.get?_push_of_some _ ((Heap.get?_update_other _ _ (Ne.symm (fG b u e))).trans (vE b u e))
  have eA:((h1.update l (Obj.mapSeq fun _=>#[])).push (seqObj "tuple" vs.toArray 0)).get? l=some (seqObj "list" #[] ep):=Heap.get?_push_of_some _ SO
  have zA:((h1.update l (Obj.mapSeq fun _=>#[])).push (seqObj "tuple" vs.toArray 0)).objs.size=l+2:=by rw[size_push',Heap.size_update,Bv]
  have IA:Inv X pins σ (upd H l (xK l ep)) { s with heap:=(h1.update l (Obj.mapSeq fun _=>#[])).push (seqObj "tuple" vs.toArray 0) } :=
   I.laid (t':=s.toks) kA (by omega) ⟨eA,⟨_,eA⟩,fun _ _ e kk=>kk _ e⟩
  generalize (h1.update l (Obj.mapSeq fun _=>#[])).push (seqObj "tuple" vs.toArray 0)=hA at kA eA zA IA ⊢
  have IB:=IA.MR (t':=s.toks) (ys:=[]) (its:=[]) .nil (Nat.zero_le _)
  have SQ:({ s with heap:=hA }:Shared).heap.objs.size=l+2:=zA
  rw[SQ] at IB
  refine⟨_,[],IB,(ao.new Ko).trans (ao.new ?_),?_,ah,rfl,fun i x b _ iQ=>by cases iQ⟩
  ·rw[av (Nat.ne_of_gt (by omega:l<l+2))];exact Kp
  ·rw[av (Nat.ne_of_lt (by omega:l<l+2)),ah]
 ·have e:({ s with heap:=h1 }:Shared).heap.objs.size+1=l+2:=by show h1.objs.size+1=_;rw[Bv]
  rw[e]
  exact Di F hb hr hk r hn (Nat.ne_of_lt (by omega:l<l+2)) Kp ep ks x s1 hx hJ
 ·obtain⟨H1,as,I1,Gm,Dj,Gn,rfl,Iz⟩:=hJ
  have e:({ s with heap:=h1 }:Shared).heap.objs.size+1=l+2:=by show h1.objs.size+1=_;rw[Bv]
  rw[e]
  rw[length_map] at qI
  obtain⟨_,its,m,ri,_,eo⟩:=I1.vc Gn
  obtain rfl:=mI ri
  have eL:s1.heap.get? l=some (seqObj "list" #[] ep):=(I1.aR l _ Dj).1
  have LW:∀(i:Nat) (x:V),xs[i]?=some x→∃b,as[i]?=some b∧Pr s1.heap (.ref b) (kp x).1 (kp x).2:=fun i x hx=>by
   have hi:i<as.length:=by rw[qI,←hlen];exact(List.getElem?_eq_some_iff.mp hx).1
   exact⟨as[i],getElem?_eq_getElem hi,Nx I1 (Iz i x _ hx (getElem?_eq_getElem hi))⟩
  have hix:∀(i:Nat) (b:Addr),as[i]?=some b→∃x,xs[i]?=some x∧x∈xs:=fun i b iQ=>by
   have hi:i<xs.length:=by rw[hlen,←qI];exact(List.getElem?_eq_some_iff.mp iQ).1
   exact⟨xs[i],getElem?_eq_getElem hi,List.getElem_mem hi⟩
  have AG:∀(i:Nat) (x:V),xs[i]?=some x→∃b u,as[i]?=some b∧vs[i]?=some u∧RelV x u∧((as.map Value.ref).zip vs)[i]?=some (.ref b,u)∧Pr s1.heap (.ref b) (kp x).1 (kp x).2∧qJ s1.heap (.ref b,u)=kv kp x:=fun i x hx=>by
   obtain⟨b,e1,e2⟩:=LW i x hx
   obtain⟨u,hu,ru⟩:=r.get hx
   exact⟨b,u,e1,hu,ru,List.getElem?_zip_eq_some.mpr ⟨by rw[getElem?_map,e1];rfl,hu⟩,e2,sZ e2⟩
  have Ql:((as.map Value.ref).zip vs).length=xs.length:=by rw[List.length_zip,length_map];omega
  have Dk:∀y,y∈(as.map Value.ref).zip vs→∃i x,xs[i]?=some x∧x∈xs∧((as.map Value.ref).zip vs)[i]?=some y:=fun y hy=>by
   obtain⟨i,hi⟩:=mem_iff_getElem?.mp hy
   have bZ:i<xs.length:=by rw[←Ql];exact(List.getElem?_eq_some_iff.mp hi).1
   exact⟨i,xs[i],getElem?_eq_getElem bZ,List.getElem_mem bZ,hi⟩
  have ez:((as.map Value.ref).zip vs).map (qJ s1.heap)=xs.map (kv kp):=by
   apply List.ext_getElem?
   intro i
   rw[getElem?_map,getElem?_map]
   cases hx:xs[i]? with
   | none =>
    rw[getElem?_eq_none (by rw[Ql];exact List.getElem?_eq_none_iff.mp hx)];rfl
   | some x =>
    obtain⟨b,u,_,_,_,e3,_,e5⟩:=AG i x hx
    rw[e3]
    show some (qJ s1.heap (.ref b,u))=some (kv kp x)
    rw[e5]
  have Ny:((as.map Value.ref).toArray.zip vs.toArray).toList=(as.map Value.ref).zip vs:=by simp
  refine⟨m,qJ s1.heap,eo,eL,Nat.ne_of_gt (by omega:l<l+2),?_,?_,?_,?_⟩
  ·intro kx SR
   obtain⟨b,iQ,rfl⟩:=List.mem_map.mp SR
   obtain⟨i,hi⟩:=mem_iff_getElem?.mp iQ
   obtain⟨x,hx,_⟩:=hix i b hi
   obtain⟨b2,e1,e2⟩:=LW i x hx
   rw[hi] at e1
   cases e1
   exact⟨_,_,e2⟩
  ·rw[ez];exact uL
  ·intro c
   refine Gk fun y hy=>?_
   rw[Ny] at hy
   obtain⟨i,x,hx,hm,e⟩:=Dk y hy
   obtain⟨b,u,_,_,_,e3,e4,_⟩:=AG i x hx
   rw[e] at e3
   cases e3
   obtain⟨b1,b2,b3⟩:=zi x hm
   exact⟨_,_,e4,b1,b2,b3⟩
  ·intro zs SS Nz
   refine⟨_,rfl,wpAny_pure ⟨_,rfl,?_⟩⟩
   have Kq:zs.toList.Perm ((as.map Value.ref).zip vs):=by rw[←Ny];exact Array.perm_iff_toList_perm.mp SS
   have LY:(xs.zip ((as.map Value.ref).zip vs)).map Prod.snd=(as.map Value.ref).zip vs:=List.map_snd_zip (by omega)
   have SU:(xs.zip ((as.map Value.ref).zip vs)).map Prod.fst=xs:=List.map_fst_zip (by omega)
   have hT:∀t∈xs.zip ((as.map Value.ref).zip vs),RelV t.1 t.2.2∧qJ s1.heap t.2=kv kp t.1:=fun t ht=>by
    obtain⟨i,hi⟩:=mem_iff_getElem?.mp ht
    obtain⟨e1,e2⟩:=List.getElem?_zip_eq_some.mp hi
    obtain⟨b,u,_,_,ru,e3,_,e5⟩:=AG i t.1 e1
    rw[e2] at e3
    have:t.2=(.ref b,u):=Option.some.inj e3
    rw[this]
    exact⟨ru,e5⟩
   obtain⟨T,hp,hm⟩:=rK Prod.snd Kq _ LY
   have LZ:∀t∈T,RelV t.1 t.2.2∧qJ s1.heap t.2=kv kp t.1:=fun t ht=>hT t (hp.mem_iff.mp ht)
   have hv:=tf fun t ht=>(LZ t ht).1
   have NA:(T.map (·.1)).Perm xs:=by have:=hp.map Prod.fst;rw[SU] at this;exact this
   have JH:(T.map (·.1)).length≤sizeLine:=by rw[NA.length_eq];omega
   have SV:zs.map (·.2)=(T.map (·.2.2)).toArray:=by
    apply Array.toList_inj.mp
    rw[Array.toList_map,←hm,List.map_map];rfl
   rw[SV]
   have I2:=I1.FJ (t':=s1.toks) (f:=fun _=>#[]) (ys:=[]) (its':=[]) Gn eo rfl .nil (Nat.zero_le _)
   have NB:(s1.heap.update (l+2) (Obj.mapSeq fun _=>#[])).get? l=some (seqObj "list" #[] ep):=(Heap.get?_update_other _ _ (Nat.ne_of_gt (by omega:l<l+2))).trans eL
   have Gp:=get?_update_seq NB (fun _=>(T.map (·.2.2)).toArray)
   have uK:upd H1 (l+2) (.lst []) l=some (xK l ep):=by rw[av (Nat.ne_of_lt (by omega:l<l+2))];exact Dj
   have mu:Ff (upd H1 (l+2) (.lst []) l):=by rw[uK];exact trivial
   have I3:Inv X pins σ (upd (upd H1 (l+2) (.lst [])) l (.lst (T.map (·.1)))) { s1 with heap:=(s1.heap.update (l+2) (Obj.mapSeq fun _=>#[])).update l (Obj.mapSeq fun _=>(T.map (·.2.2)).toArray) }:=by
    generalize s1.heap.update (l+2) (Obj.mapSeq fun _=>#[])=h5 at I2 NB Gp ⊢
    have kk:∀b u,b≠l→h5.get? b=some u→(h5.update l (Obj.mapSeq fun _=>(T.map (·.2.2)).toArray)).get? b=some u:=fun b u iQ hu=>(Heap.get?_update_other _ _ (Ne.symm iQ)).trans hu
    generalize h5.update l (Obj.mapSeq fun _=>(T.map (·.2.2)).toArray)=h6 at Gp kk ⊢
    exact I2.write (t':=s1.toks) (h':=h6) mu (.inl rfl) kk ⟨_,Gp⟩ ⟨JH,_,_,hv,Gp⟩
   refine⟨.ref l,_,I3,rfl,hQ l _ _ ((Gm.upd Kp).upd Ko) Ko ah NA ?_⟩
   rw[pairwise_map,List.pairwise_iff_getElem]
   intro i j hi hj gv
   have hTl:T.length=vs.length:=by have:=hp.length_eq;rw[List.length_zip] at this;omega
   have g:∀i (hi:i<T.length),kn (qJ s1.heap) zs i=kv kp (T[i]).1:=fun i hi=>by
    rw[←(LZ _ (List.getElem_mem hi)).2]
    unfold kn
    have:zs[i]?=some (T[i]).2:=by rw[←Array.getElem?_toList,←hm,getElem?_map,getElem?_eq_getElem hi];rfl
    rw[this];rfl
   have:=Nz i j gv (by omega)
   rw[g i hi,g j hj] at this
   exact this
end
noncomputable def IE (K:Frag) (sp:Sp) (Q:VK) (x:V) (H1:Hp):Prop:=∃(l0:Addr) (xs:List V) (kp:V→Int×Int),x = .ref l0∧cC K H1 l0 xs∧xs.length<64 ∧
 (∀x H2 (Q':VK),x∈xs→ao H1 H2→(∀q H3,ao H2 H3→H3 q=some (.tup [.int (kp x).1,.int (kp x).2])→Q' (.ref q) H3)→sp [x] H2 Q' E0) ∧
 (∀x∈xs,0≤(kp x).1∧0≤(kp x).2∧(kp x).2<2^64)∧(xs.map (kv kp)).Nodup ∧
 ∀l H' ws,ao H1 H'→H1 l=none→H' l=some (.lst ws)→ws.Perm xs→ws.Pairwise (fun x y=>kv kp x<kv kp y)→Q (.ref l) H'
noncomputable def NC (K:Frag) (sp:Sp) (te:TE):TE:=fun σ H Q=>te σ H (IE K sp Q)
noncomputable def ND (W:V→Hp→Prop):List V→Hp→Prop
 | [x],H=>W x H
 | _,_=>False
section
variable {X:Cx}{k:Nat}{x p:Str}{sp:Sp}{pn pk FA pos:Pos}{e:Expr}{te:TE}
theorem AH (K:Frag) (C:bR X.prog X.w X.K X.mg X.base bu k x [p] sp) (hr:bK (k+2) X.A) (gc:X.mg "sorted"=none) (ha:PE X e te) (Kr:Gl X "sorted":=by rfl) (hg:Gl X x:=by rfl) (og:(x == ("__debug__":Str))=false:=by decide) (hK:X.K=K:=by rfl)
  (hv:bootBuiltins "sorted"=some (.builtin "sorted"):=by decide +kernel) (he:starEach [e] X.env=[(false,eval e X.env)]:=by rfl) :
  PE X (.Call (.Name "sorted" pn) [e] [⟨some "key",.Name x pk,FA⟩] pos) (NC K sp te):=by
 subst hK
 obtain⟨f,fd,F,hm,kp',hb⟩:=C.ex
 intro pins s σ H Q I h
 refine wpAny_Call_Name_kw (i3 I Kr gc hv ?_ (by decide) (by decide))
 refine callWith_kw (bG ((aa ha ai he:PA X [e] _) pos pins s σ H (ND (IE X.K sp Q)) I h) fun us s1 ⟨vs,H1,I1,r,q⟩=>?_) (by rw[he];rfl) (by rw[he];rfl)
 match vs,r,q with
 | [v],r,q =>
  obtain⟨u,rfl,ru⟩:=r.one
  obtain⟨l0,xs,kp,rfl,hl,hn,hk,zi,uL,hQ⟩:=q
  obtain rfl:u = .ref l0:=ru
  refine kws_cons (gw I1 hg hm (kws_nil ?_) og)
  exact xO F hb hr I1 hl hn hk zi uL hQ
end
section
variable {X:Cx}
noncomputable def SW:Value→Bool
 | .bool b=>b
 | _=>false
noncomputable def Gq:V→List V→Hp→VK→Prop:=fun x vs H Q=>∃(l:Addr) (bs:List Bool),x = .ref l∧vs=[.bl true]∧H l=some (.lst (bs.map V.bl))∧Q (.int (bs.countP id:Nat)) H
theorem oQ:∀{bs:List Bool}{its:List Value},Vals (bs.map V.bl) its→its=bs.map Value.bool
 | [],its,r=>by cases r;rfl
 | b::bs,its,r=>by
  cases r with
  | cons ru r =>
   have e:=oQ r
   have:_=Value.bool b:=ru
   rw[List.map_cons,←e,this]
theorem nC:∀bs:List Bool,(bs.map Value.bool).countP SW=bs.countP id
 | []=>rfl
 | b::bs=>by rw[List.map_cons,List.countP_cons,List.countP_cons,nC bs];rfl
theorem Dl:PU X "list.count" Gq:=by
 intro pins s σ H x vs v us Q I rx rv h
 obtain⟨l,bs,rfl,rfl,hH,q⟩:=h
 cases rx
 obtain⟨u,rfl,ru⟩:=rv.one
 have ru':u=Value.bool true:=ru
 subst ru'
 obtain⟨z,its,n,r,hl,e⟩:=I.vc hH
 have ei:=oQ r
 subst ei
 refine call_meets F.slot_list_count ⟨_,e,rfl⟩ F.entry_list_count (F.args_list_count_2 _ _) (SeqAt.list_countAt l (bs.map Value.bool).toArray n none #[] (.bool true) SW) ⟨e,fun y hy=>?_,?_⟩
 ·have hy':y∈bs.map Value.bool:=by simpa using hy
  obtain⟨b,_,rfl⟩:=List.mem_map.mp hy'
  have:=BX (A:=X.A.in1) (s:=s) (y:=.bl b) (x:=.bl true) (u:=.bool b) (v:=.bool true) rfl rfl rfl rfl
  have e:Bt (.bl b) (.bl true)=SW (.bool b):=by cases b<;>rfl
  rw[e] at this
  exact this
 ·rw[nC]
  exact⟨.int _,H,I.tok _,⟨_,rfl⟩,q⟩
end
end L2
namespace TC
open PySem L2
end TC
namespace L2
open PySem PySem.Spec PyProof.Rows
section
variable {κ:Type}[DecidableEq κ]
noncomputable def bW (ar:List (κ×V)) (k:κ):Option V:=(ar.find? fun kv=>decide (kv.1=k)).map (·.2)
noncomputable def putK (ar:List (κ×V)) (k:κ) (v:V):List (κ×V) :=
 if (ar.any fun kv=>decide (kv.1=k))=true then ar.map (fun kv=>if kv.1=k then (kv.1,v) else kv) else ar++[(k,v)]
noncomputable def NF (ar:List (κ×V)) (k:κ):List (κ×V):=ar.filter fun kv=>decide (kv.1≠k)
theorem cN {p:κ×V}{r:List (κ×V)}{k:κ}(e:p.1=k):bW (p::r) k=some p.2:=by simp[bW,List.find?_cons,e]
theorem cO {p:κ×V}{r:List (κ×V)}{k:κ}(e:¬p.1=k):bW (p::r) k=bW r k:=by simp[bW,List.find?_cons,e]
theorem d6 (k:κ):∀ar:List (κ×V),(ar.any fun kv=>decide (kv.1=k))=(bW ar k).isSome
 | []=>rfl
 | p::r=>by
  rw[List.any_cons]
  by_cases e:p.1=k
  ·simp only[cN e,decide_eq_true e,Bool.true_or,Option.isSome_some]
  ·rw[cO e,decide_eq_false e,Bool.false_or];exact d6 k r
theorem vF (k j:κ) (y:V):∀ar:List (κ×V),bW (ar.map fun kv=>if kv.1=k then (kv.1,y) else kv) j=(bW ar j).map fun x=>if j=k then y else x
 | []=>rfl
 | p::r=>by
  have ih:=vF k j y r
  rw[List.map_cons]
  by_cases h:p.1=k
  ·rw[if_pos h]
   by_cases e:p.1=j
   ·rw[cN (p:=(p.1,y)) e,cN e,Option.map_some,if_pos (e.symm.trans h)]
   ·rw[cO (p:=(p.1,y)) e,cO e,ih]
  ·rw[if_neg h]
   by_cases e:p.1=j
   ·rw[cN (p:=p) e,cN e,Option.map_some,if_neg (fun z=>h (e.trans z))]
   ·rw[cO (p:=p) e,cO e,ih]
theorem rL (k j:κ) (y:V):∀ar:List (κ×V),bW ar k=none→bW (ar++[(k,y)]) j=if j=k then some y else bW ar j
 | [],_=>by
  by_cases e:k=j
  ·rw[if_pos e.symm];exact cN (p:=(k,y)) e
  ·rw[if_neg (fun z=>e z.symm)];exact cO (p:=(k,y)) e
 | p::r,hn=>by
  rw[List.cons_append]
  have hk:¬p.1=k:=fun z=>by rw[cN z] at hn;cases hn
  rw[cO hk] at hn
  have ih:=rL k j y r hn
  by_cases e:p.1=j
  ·rw[cN e,cN e,if_neg (fun z=>hk (e.trans z))]
  ·rw[cO e,cO e,ih]
theorem ji (ar:List (κ×V)) (k j:κ) (y:V):bW (putK ar k y) j=if j=k then some y else bW ar j:=by
 unfold putK
 by_cases a:(ar.any fun kv=>decide (kv.1=k))=true
 ·rw[if_pos a,vF]
  rw[d6] at a
  by_cases e:j=k
  ·obtain⟨x,hx⟩:=Option.isSome_iff_exists.mp a
   rw[if_pos e,e,hx,Option.map_some,if_pos rfl]
  ·rw[if_neg e]
   cases bW ar j with
   | none=>rfl
   | some x=>rw[Option.map_some,if_neg e]
 ·rw[if_neg a]
  refine rL k j y ar ?_
  rw[d6] at a
  cases q:bW ar k with
  | none=>rfl
  | some x=>rw[q] at a;exact(a rfl).elim
theorem gC (ar:List (κ×V)) (k:κ) (v:V):(putK ar k v).length≤ar.length+1:=by
 unfold putK
 split
 ·rw[length_map];omega
 ·rw[length_append,List.length_cons,List.length_nil];omega
theorem Dm {ar:List (κ×V)}{k:κ}(v:V) (h:bW ar k=none):putK ar k v=ar++[(k,v)]:=by
 unfold putK
 rw[d6,h]
 exact if_neg (by decide)
theorem fU.ic {o:Option V}{u:Option Value}(r:fU o u):o.isSome=u.isSome:=by
 cases o with
 | none=>cases u with
  | none=>rfl
  | some _=>exact(show False from r).elim
 | some _=>cases u with
  | none=>exact(show False from r).elim
  | some _=>rfl
theorem fU.getD {o:Option V}{u:Option Value}{d:V}{d':Value}(r:fU o u) (rd:RelV d d'):RelV (o.getD d) (u.getD d'):=by
 cases o with
 | none=>cases u with
  | none=>exact rd
  | some _=>exact(show False from r).elim
 | some _=>cases u with
  | none=>exact(show False from r).elim
  | some _=>exact r
theorem KV.val {ar:List (κ×V)}{vs:List (κ×Value)}(r:KV ar vs) (k:κ):fU (bW ar k) (valueAt vs k):=by
 unfold KV at r
 induction r with
 | nil=>exact True.intro
 | @cons p q ps qs h t ih =>
  obtain⟨h1,h2⟩:=h
  by_cases e:p.1=k
  ·have e':q.1=k:=h1.symm.trans e
   have b:valueAt (q::qs) k=some q.2:=by simp[valueAt,List.find?_cons,e']
   rw[cN e,b];exact h2
  ·have e':¬q.1=k:=fun z=>e (h1.trans z)
   have b:valueAt (q::qs) k=valueAt qs k:=by simp[valueAt,List.find?_cons,e']
   rw[cO e,b];exact ih
theorem KV.any {ar:List (κ×V)}{vs:List (κ×Value)}(r:KV ar vs) (k:κ):(ar.any fun kv=>decide (kv.1=k))=vs.any fun kv=>decide (kv.1=k):=by
 unfold KV at r
 induction r with
 | nil=>rfl
 | cons h t ih=>rw[List.any_cons,List.any_cons,ih,h.1]
theorem KV.Ks {ar:List (κ×V)}{vs:List (κ×Value)}(r:KV ar vs) (k:κ) {y:V}{u:Value}(ry:RelV y u) :
  KV (ar.map fun kv=>if kv.1=k then (kv.1,y) else kv) (vs.map fun kv=>if kv.1=k then (kv.1,u) else kv):=by
 unfold KV at r ⊢
 induction r with
 | nil=>exact .nil
 | @cons p q ps qs h t ih =>
  rw[List.map_cons,List.map_cons]
  refine .cons ?_ ih
  obtain⟨h1,h2⟩:=h
  by_cases e:p.1=k
  ·rw[if_pos e,if_pos (h1.symm.trans e)];exact⟨h1,ry⟩
  ·rw[if_neg e,if_neg (fun z=>e (h1.trans z))];exact⟨h1,h2⟩
theorem KV.put {ar:List (κ×V)}{vs:List (κ×Value)}(r:KV ar vs) (k:κ) {y:V}{u:Value}(ry:RelV y u):KV (putK ar k y) (stored vs k u):=by
 unfold putK stored
 rw[r.any k]
 by_cases e:(vs.any fun kv=>decide (kv.1=k))=true
 ·rw[if_pos e,if_pos e];exact r.Ks k ry
 ·rw[if_neg e,if_neg e];exact Paired.snoc r ⟨rfl,ry⟩
theorem KV.length {ar:List (κ×V)}{vs:List (κ×Value)}(r:KV ar vs):ar.length=vs.length:=Paired.length r
end
theorem oR {P:Program}{w:World}{k:Key}{u:Value}(r:RelV (kV k) u):(bC P w).is k u=true:=by
 cases k with
 | inl i=>obtain⟨t,e⟩:=(show ∃t,u=Value.int i t from r);subst e;exact uQ P w i t
 | inr x=>obtain⟨t,e⟩:=(show ∃t,u=Value.str x t from r);subst e;exact uR P w x t
theorem rM {P:Program}{w:World}:∀{ks:List Key}{us:List Value},Vals (ks.map kV) us→ItemsAre (bC P w) ks us
 | [],_,r=>by rw[List.map_nil] at r;cases r;exact .nil
 | k::ks,_,r=>by
  rw[List.map_cons] at r
  cases r with
  | cons h t=>exact .cons (oR h) (rM t)
noncomputable abbrev KT (H:Hp):List (List Key×V)→List (List Key×Addr×Value)→Prop:=Paired fun p q=>p.1=q.1∧H q.2.1=some (.tup (p.1.map kV))∧RelV p.2 q.2.2
theorem KT.val {H:Hp}{ar:List (List Key×V)}{xs:List (List Key×Addr×Value)}(r:KT H ar xs) (k:List Key):fU (bW ar k) ((atKey xs k).map (·.2)):=by
 induction r with
 | nil=>exact True.intro
 | @cons p q ps qs h t ih =>
  obtain⟨h1,_,h2⟩:=h
  by_cases e:p.1=k
  ·have e':q.1=k:=h1.symm.trans e
   have b:atKey (q::qs) k=some q.2:=by simp[atKey,List.find?_cons,e']
   rw[cN e,b];exact h2
  ·have e':¬q.1=k:=fun z=>e (h1.trans z)
   have b:atKey (q::qs) k=atKey qs k:=by simp[atKey,List.find?_cons,e']
   rw[cO e,b];exact ih
theorem KT.Ks {H:Hp}{ar:List (List Key×V)}{xs:List (List Key×Addr×Value)}(r:KT H ar xs) (k:List Key) {y:V}{u:Value}(ry:RelV y u) :
  KT H (ar.map fun kv=>if kv.1=k then (kv.1,y) else kv) (xs.map (putAt k u)):=by
 induction r with
 | nil=>exact .nil
 | @cons p q ps qs h t ih =>
  rw[List.map_cons,List.map_cons]
  refine .cons ?_ ih
  obtain⟨h1,h2,h3⟩:=h
  unfold putAt
  by_cases e:p.1=k
  ·rw[if_pos e,if_pos (h1.symm.trans e)];exact⟨h1,h2,ry⟩
  ·rw[if_neg e,if_neg (fun z=>e (h1.trans z))];exact⟨h1,h2,h3⟩
theorem KT.put {H:Hp}{ar:List (List Key×V)}{xs:List (List Key×Addr×Value)}(r:KT H ar xs) (k:List Key) {b:Addr}{y:V}{u:Value}(hb:H b=some (.tup (k.map kV))) (ry:RelV y u) :
  KT H (putK ar k y) (storedH xs k b u):=by
 have e:(ar.any fun kv=>decide (kv.1=k))=(atKey xs k).isSome:=by
  rw[d6,(r.val k).ic,Option.isSome_map]
 unfold putK storedH
 rw[e]
 by_cases q:(atKey xs k).isSome=true
 ·rw[if_pos q,if_pos q];exact r.Ks k ry
 ·rw[if_neg q,if_neg q];exact Paired.snoc r ⟨rfl,hb,ry⟩
theorem KT.keeps {H H':Hp}{ar:List (List Key×V)}{xs:List (List Key×Addr×Value)}(r:KT H ar xs) (ht:∀b ys,H b=some (.tup ys)→H' b=some (.tup ys)):KT H' ar xs :=
 Paired.Jl r fun _ _ z=>⟨z.1,ht _ _ z.2.1,z.2.2⟩
section
variable {P:Program}{w:World}{H:Hp}{h:Heap}{a:Addr}
theorem IF {u:HO}(ok:gW P w H h) (e:Rd H a u):aX P w H h a u:=e.ok ok
theorem oS {ar:List (Key×V)}(ok:gW P w H h) (e:Rd H a (.dK ar)):ar.length≤sizeLine∧(a == sysModules)=false∧∃vs,KV ar vs∧h.DictOf (bC P w) a vs :=
 show aX P w H h a (.dK ar) from IF ok e
theorem Dp {ar:List (Key×V)}(ok:gW P w H h) (e:H a=some (.dK ar)):ar.length≤sizeLine∧(a == sysModules)=false∧∃vs,KV ar vs∧h.DictOf (bC P w) a vs:=oS ok (.inl e)
theorem kZ {ks:List Key}(ok:gW P w H h) (e:H a=some (.tup (ks.map kV))):(tupleKind (bC P w)).is h ks a:=by
 obtain⟨_,its,r,o,h1,h2,n,h3⟩:=(show aX P w H h a (.tup (ks.map kV)) from ok a _ e)
 exact⟨o,its.toArray,n,h1,h2,h3,by simpa using rM r⟩
theorem rN {ar:List (List Key×V)}(ok:gW P w H h) (e:Rd H a (.dT ar)):ar.length≤sizeLine∧(a == sysModules)=false ∧
  ∃xs,KT H ar xs∧h.DictOfH (tupleKind (bC P w)) a xs:=by
 obtain⟨z,y,xs,r,o,es,ep,h1,h2,h3,h4,h5⟩:=(show aX P w H h a (.dT ar) from IF ok e)
 refine⟨z,y,xs,r,o,es,ep,h1,h2,h3,h4,fun x hx=>?_,h5⟩
 have all:∀{l:List (List Key×V)}{m:List (List Key×Addr×Value)},KT H l m→∀x∈m,(tupleKind (bC P w)).is h x.1 x.2.1:=by
  intro l m q
  induction q with
  | nil=>intro x hx;exact nomatch hx
  | @cons p q ps qs hq t ih =>
   intro x hx
   rcases List.mem_cons.mp hx with e|hx
   ·subst e
    exact kZ ok (by rw[←hq.1];exact hq.2.1)
   ·exact ih x hx
 exact all r x hx
theorem IG {ar:List (List Key×V)}(ok:gW P w H h) (e:H a=some (.dT ar)):ar.length≤sizeLine∧(a == sysModules)=false ∧
  ∃xs,KT H ar xs∧h.DictOfH (tupleKind (bC P w)) a xs:=rN ok (.inl e)
end
noncomputable def lR (H:Hp) (a:Addr) (y:V) (r:Option V):Prop :=
 (∃ar k,Rd H a (.dK ar)∧y=kV k∧r=bW ar k)∨∃ar k b,Rd H a (.dT ar)∧y = .ref b∧H b=some (.tup (k.map kV))∧r=bW ar k
noncomputable def xP (H:Hp) (a:Addr) (y v:V) (H':Hp):Prop :=
 (∃ar k,H a=some (.dK ar)∧y=kV k∧ar.length<sizeLine∧H'=upd H a (.dK (putK ar k v))) ∨
 ∃ar k b,H a=some (.dT ar)∧y = .ref b∧H b=some (.tup (k.map kV))∧ar.length<sizeLine∧H'=upd H a (.dT (putK ar k v))
theorem lR.k {H:Hp}{a:Addr}{ar:List (Key×V)}{k:Key}(e:H a=some (.dK ar)):lR H a (kV k) (bW ar k):=.inl ⟨ar,k,.inl e,rfl,rfl⟩
theorem lR.t {H:Hp}{a b:Addr}{ar:List (List Key×V)}{k:List Key}(e:H a=some (.dT ar)) (eb:H b=some (.tup (k.map kV))):lR H a (.ref b) (bW ar k):=.inr ⟨ar,k,b,.inl e,rfl,eb,rfl⟩
theorem xP.k {H:Hp}{a:Addr}{ar:List (Key×V)}{k:Key}{v:V}(e:H a=some (.dK ar)) (hl:ar.length<sizeLine):xP H a (kV k) v (upd H a (.dK (putK ar k v))):=.inl ⟨ar,k,e,rfl,hl,rfl⟩
theorem xP.t {H:Hp}{a b:Addr}{ar:List (List Key×V)}{k:List Key}{v:V}(e:H a=some (.dT ar)) (eb:H b=some (.tup (k.map kV))) (hl:ar.length<sizeLine) :
  xP H a (.ref b) v (upd H a (.dT (putK ar k v))):=.inr ⟨ar,k,b,e,rfl,eb,hl,rfl⟩
section
variable {X:Cx}{pins:List (Addr×Obj)}{σ:St}{H:Hp}{s:Shared}{a:Addr}{y v:V}{u r:Value}{o:Option V}{A:Around}{E:Value→Shared→Prop}
theorem Inv.big (I:Inv X pins σ H s):sysModules<s.heap.objs.size:=by
 have h:mainGlobals<s.heap.objs.size:=(I.mod.glob.keeps I.bk).lt
 exact Nat.lt_trans (by decide) h
theorem AI {Q:Value→Shared→Prop}(hu:A.units+1<cLine) (I:Inv X pins σ H s) (g:lR H a y (some v)) (ry:RelV y u) (h:∀w' s',Inv X pins σ H s'→RelV v w'→Q w' s') :
  wpAny (model X.prog X.w) A (getItem (.ref a) u) Q E s:=by
 rcases g with⟨ar,k,e,ey,l⟩|⟨ar,k,b,e,ey,eb,l⟩
 ·subst ey
  obtain⟨z,hd,vs,rel,dd⟩:=oS I.aR e
  obtain⟨w',hw,yN⟩:=fU.some_of (v:=v) (o:=valueAt vs k) (by rw[l];exact rel.val k)
  exact wpAny_getItem_of (oR ry) dd.mapOf hw (h w' _ (I.tok _) yN)
 ·subst ey
  cases (show u=Value.ref b from ry)
  obtain⟨z,hd,xs,rel,dd⟩:=rN I.aR e
  obtain⟨w',hw,yN⟩:=fU.some_of (v:=v) (o:=(atKey xs k).map (·.2)) (by rw[l];exact rel.val k)
  obtain⟨p,hp,SX⟩:=Option.map_eq_some_iff.mp hw
  refine wpAny_getItem_heap (tupleKind_room_in1 hu) (kZ I.aR eb) dd hp ?_
  rw[SX]
  exact h w' _ (I.tok _) yN
theorem SY {Q:Value→Shared→Prop}(hu:A.units+1<cLine) (I:Inv X pins σ H s) (g:lR H a y o) (ry:RelV y u) (h:∀s',Inv X pins σ H s'→Q (.bool o.isSome) s') :
  wpAny (model X.prog X.w) A (compareOp .In u (.ref a)) Q E s:=by
 rcases g with⟨ar,k,e,ey,l⟩|⟨ar,k,b,e,ey,eb,l⟩
 ·subst ey
  obtain⟨z,hd,vs,rel,dd⟩:=oS I.aR e
  refine wpAny_in_of (oR ry) hd dd.mapOf ?_
  rw[←(rel.val k).ic,←l]
  exact h _ (I.tok _)
 ·subst ey
  cases (show u=Value.ref b from ry)
  obtain⟨z,hd,xs,rel,dd⟩:=rN I.aR e
  refine wpAny_in_heap (tupleKind_room_in1 hu) (kZ I.aR eb) hd dd ?_
  have q:=(rel.val k).ic
  rw[Option.isSome_map] at q
  rw[←q,←l]
  exact h _ (I.tok _)
theorem Gr {Q:Value→Shared→Prop}(hu:A.units+1<cLine) (I:Inv X pins σ H s) (g:lR H a y o) (ry:RelV y u) (h:∀s',Inv X pins σ H s'→Q (.bool (!o.isSome)) s') :
  wpAny (model X.prog X.w) A (compareOp .NotIn u (.ref a)) Q E s:=by
 rcases g with⟨ar,k,e,ey,l⟩|⟨ar,k,b,e,ey,eb,l⟩
 ·subst ey
  obtain⟨z,hd,vs,rel,dd⟩:=oS I.aR e
  refine wpAny_notIn_of (oR ry) hd dd.mapOf ?_
  rw[←(rel.val k).ic,←l]
  exact h _ (I.tok _)
 ·subst ey
  cases (show u=Value.ref b from ry)
  obtain⟨z,hd,xs,rel,dd⟩:=rN I.aR e
  refine wpAny_notIn_heap (tupleKind_room_in1 hu) (kZ I.aR eb) hd dd ?_
  have q:=(rel.val k).ic
  rw[Option.isSome_map] at q
  rw[←q,←l]
  exact h _ (I.tok _)
theorem nW {h':Heap}{t':Nat}{ob:HO}(I:Inv X pins σ H s) (mu:Ff (H a)) (hs:Heap.SameBut a s.heap h') (he:∃q,h'.get? a=some q) (new:aX X.prog X.w (upd H a ob) h' a ob) :
  Inv X pins σ (upd H a ob) { s with heap:=h',toks:=t' } :=
 I.write (x:=a) (e:=a) mu (.inl rfl) (fun b q hb z=>(hs.2 b hb).trans z) he new
theorem Dq {P:Program}{w:World}{H':Hp}{h':Heap}{ar:List (Key×V)}{vs:List (Key×Value)}(z:ar.length≤sizeLine) (hd:(a == sysModules)=false) (rel:KV ar vs) (dd:h'.DictOf (bC P w) a vs) :
  aX P w H' h' a (.dK ar):=⟨z,hd,vs,rel,dd⟩
theorem rO {H':Hp}{Q:Unit→Shared→Prop}(hu:A.units+1<cLine) (I:Inv X pins σ H s) (g:xP H a y v H') (ry:RelV y u) (rv:RelV v r) (h:∀s',Inv X pins σ H' s'→Q () s') :
  wpAny (model X.prog X.w) A (setItem (.ref a) u r) Q E s:=by
 rcases g with⟨ar,k,e,ey,l,eH⟩|⟨ar,k,b,e,ey,eb,l,eH⟩
 ·subst ey eH
  obtain⟨z,hd,vs,rel,dd⟩:=Dp I.aR e
  have hz:vs.length≤sizeLine:=by rw[←rel.length];exact z
  have hl:(putK ar k v).length≤sizeLine:=by have:=gC ar k v;omega
  refine wpAny_setItem_pairs (hsz:=hz) (oR ry) dd fun h' Gu hs=>h _ ?_
  have he:∃q,h'.get? a=some q:=let ⟨q,_,_,hq,_⟩:=Gu;⟨q,hq⟩
  exact nW I (by rw[e];exact True.intro) hs he (Dq hl hd (rel.put k rv) Gu)
 ·subst ey eH
  cases (show u=Value.ref b from ry)
  obtain⟨z,hd,xs,rel,dd⟩:=IG I.aR e
  have hz:xs.length≤sizeLine:=by rw[←Paired.length rel];exact z
  have hl:(putK ar k v).length≤sizeLine:=by have:=gC ar k v;omega
  refine wpAny_setItem_heap (hsz:=hz) (tupleKind_room_in1 hu) (kZ I.aR eb) dd fun h' Gu hs=>h _ ?_
  obtain⟨q,es,ep,hq,h2,h3,h4,_,h5⟩:=Gu
  refine nW I (by rw[e];exact True.intro) hs ⟨q,hq⟩ ⟨hl,hd,_,(rel.put k eb rv).keeps fun c ys ec=>?_,q,es,ep,hq,h2,h3,h4,h5⟩
  rw[av (iX ec e (fun z=>nomatch z))]
  exact ec
end
noncomputable def lS (h:Heap) (d:Addr) (es:Array DictEntry) (ep:Nat):Prop:=∃o,h.get? d=some o∧o.ExactDict∧o.data = .dict es ep
theorem lS.at {h h':Heap}{d:Addr}{es:Array DictEntry}{ep:Nat}(x:lS h d es ep) (e:∀o,h.get? d=some o→h'.get? d=some o):lS h' d es ep:=by
 obtain⟨o,h1,h2⟩:=x
 exact⟨o,e o h1,h2⟩
theorem lS.ty {s:Shared}{d:Addr}{es:Array DictEntry}{ep:Nat}(x:lS s.heap d es ep):s.TypeIs (.ref d) "dict":=by
 obtain⟨o,h1,h2,_⟩:=x
 exact⟨o,h1,h2.1⟩
section
variable {P0:Program}{w0:World}{A0:Around}{E1:Value→Shared→Prop}{s0:Shared}{I d:Addr}{es:Array DictEntry}{ep i:Nat}
theorem vG {Q:Value→Shared→Prop}(nd:(d == sysModules)=false) (x:lS s0.heap d es ep)
  (q:Q (.ref s0.heap.objs.size) { s0 with heap:=s0.heap.push { cls:=.type "dict_keyiterator",data:=.fields #[.ref d,.int 0 0,.int es.size 0,.int ep 0] } }):wpAny (model P0 w0) A0 (pyIter (.ref d)) Q E1 s0:=by
 have ty:=x.ty
 obtain⟨o,h1,h2,h3⟩:=x
 refine wpAny_pyIter_slot ty PySem.F.slot_dict_iter (wpAny_call_entry PySem.F.slot_dict_iter ty PySem.F.entry_dict_iter ?_ (PySem.F.args_dict_iter_1 _))
 unfold Builtin.«dict.__iter__» Builtin.Dict.dictSlotNone
 refine wpAny_bind (wpAny_bind (wpAny_notOrdered_dict ty (wpAny_pure ?_)))
 show wpAny _ _ (Builtin.Dict.showsAll d >>= fun _=>_) _ _ s0
 unfold Builtin.Dict.showsAll
 rw[nd]
 refine wpAny_bind (wpAny_pure (wpAny_bind (wpAny_dictEntries h1 h3 (wpAny_bind (wpAny_dictEpoch h1 h3 ?_)))))
 exact wpAny_bind (wpAny_newObj_type (wpAny_pure ⟨_,rfl,"dict_keyiterator",_,⟨_,Heap.get?_push_size _ rfl,rfl⟩,PySem.F.slot_dict_keyiterator_next.lookup,by simpa[rawInt] using q⟩))
theorem vH {Q:Option Value→Shared→Prop}(hI:s0.heap.IsKeyIter I d i es.size ep) (x:lS s0.heap d es ep) (hi:i<es.size)
  (q:∀h',h'.IsKeyIter I d (i+1) es.size ep→Heap.SameBut I s0.heap h'→Q (some es[i].key) { s0 with heap:=h' }):wpAny (model P0 w0) A0 (pyNext (.ref I)) Q E1 s0:=by
 have ty:=hI.typeIs
 obtain⟨oi,g1,g2,g3⟩:=hI
 obtain⟨o,h1,h2,h3⟩:=x
 unfold pyNext
 refine wpAny_bind (wpAny_attempt (wpAny_callSpecial?_slot (name:=Str.ofString "__next__") ty PySem.F.slot_dict_keyiterator_next (wpAny_call_entry PySem.F.slot_dict_keyiterator_next ty PySem.F.entry_dict_keyiterator_next ?_ (PySem.F.args_dict_keyiterator_next_1 _))))
 refine wpAny_bind (wpAny_pure (wpAny_bind (wpAny_bind ?_)))
 first
  | refine wpAny_bind (wpAny_typeNameOfWhole_keyiter ty (wpAny_pure (wpAny_bind (wpAny_fieldsOf g1 g3 ?_))))
  | refine wpAny_bind (wpAny_typeNameOf_keyiter ty (wpAny_pure (wpAny_bind (wpAny_fieldsOf g1 g3 ?_))))
 simp only[show Builtin.Dict_items.ownsTuple "dict_keyiterator"=false by decide,Bool.false_eq_true,if_false]
 show wpAny _ _ (if (Value.ref d == Value.none)=true then _ else _) _ _ s0
 rw[if_neg (by exact Bool.false_ne_true)]
 refine wpAny_bind (wpAny_pure (wpAny_bind (wpAny_dictEntries h1 h3 ?_)))
 rw[if_neg (by simp)]
 refine wpAny_bind (wpAny_pure (wpAny_bind (wpAny_dictEpoch h1 h3 ?_)))
 rw[if_neg (by simp)]
 refine wpAny_pure ?_
 simp only[show ¬((i:Int)<0) by omega,if_false,Int.toNat_natCast,Array.getElem?_eq_getElem hi]
 refine wpAny_bind ?_
 first
  | refine wpAny_bind (wpAny_typeNameOfWhole_keyiter ty (wpAny_pure (wpAny_bind (wpAny_isOneOf_keyiter ty ?_))))
  | refine wpAny_bind (wpAny_typeNameOf_keyiter ty (wpAny_pure (wpAny_bind (wpAny_isOneOf_keyiter ty ?_))))
 show wpAny _ _ (setField (.ref I) 1 (rawInt ((i:Int)+1)) >>= fun _=>_) _ _ s0
 refine wpAny_bind (wpAny_setField g1 g3 (by simp) ?_)
 have hn:(s0.heap.update I (Obj.mapFields (·.setIfInBounds 1 (rawInt ((i:Int)+1))))).IsKeyIter I d (i+1) es.size ep:=by
  refine⟨_,Heap.get?_update_self _ g1 (Obj.isFreed_of_fields (Obj.data_mapFields g3 _)),(Obj.cls_mapFields ..).trans g2,?_⟩
  rw[Obj.data_mapFields g3];simp[rawInt]
 refine wpAny_bind (wpAny_holding (wpAny_bind (wpAny_isOneOf_keyiter (s:={ s0 with heap:=s0.heap.update I (Obj.mapFields (·.setIfInBounds 1 (rawInt ((i:Int)+1)))) }) hn.typeIs ?_)))
 show wpAny _ _ (pure es[i].key) _ _ _
 exact wpAny_pure (wpAny_pure ⟨_,rfl,wpAny_pure (q _ hn (Heap.SameBut.update ..))⟩)
theorem zj {Q:Option Value→Shared→Prop}(hh:A0.handled=none) (hI:s0.heap.IsKeyIter I d es.size es.size ep) (x:lS s0.heap d es ep)
  (q:∀h',Heap.ExtBut I s0.heap h'→Q none { s0 with heap:=h' }):wpAny (model P0 w0) A0 (pyNext (.ref I)) Q E1 s0:=by
 have ty:=hI.typeIs
 obtain⟨oi,g1,g2,g3⟩:=hI
 obtain⟨o,h1,h2,h3⟩:=x
 unfold pyNext
 refine wpAny_bind (wpAny_attempt (wpAny_callSpecial?_slot (name:=Str.ofString "__next__") ty PySem.F.slot_dict_keyiterator_next (wpAny_call_entry PySem.F.slot_dict_keyiterator_next ty PySem.F.entry_dict_keyiterator_next ?_ (PySem.F.args_dict_keyiterator_next_1 _))))
 refine wpAny_bind (wpAny_pure (wpAny_bind (wpAny_bind ?_)))
 first
  | refine wpAny_bind (wpAny_typeNameOfWhole_keyiter ty (wpAny_pure (wpAny_bind (wpAny_fieldsOf g1 g3 ?_))))
  | refine wpAny_bind (wpAny_typeNameOf_keyiter ty (wpAny_pure (wpAny_bind (wpAny_fieldsOf g1 g3 ?_))))
 simp only[show Builtin.Dict_items.ownsTuple "dict_keyiterator"=false by decide,Bool.false_eq_true,if_false]
 show wpAny _ _ (if (Value.ref d == Value.none)=true then _ else _) _ _ s0
 rw[if_neg (by exact Bool.false_ne_true)]
 refine wpAny_bind (wpAny_pure (wpAny_bind (wpAny_dictEntries h1 h3 ?_)))
 rw[if_neg (by simp)]
 refine wpAny_bind (wpAny_pure (wpAny_bind (wpAny_dictEpoch h1 h3 ?_)))
 rw[if_neg (by simp)]
 refine wpAny_pure ?_
 simp only[show ¬((es.size:Int)<0) by omega,if_false,Int.toNat_natCast,Array.getElem?_eq_none (Nat.le_refl es.size)]
 refine wpAny_bind ?_
 first
  | refine wpAny_bind (wpAny_typeNameOfWhole_keyiter ty (wpAny_pure ?_))
  | refine wpAny_bind (wpAny_typeNameOf_keyiter ty (wpAny_pure ?_))
 show wpAny _ _ (setField (.ref I) 0 .none >>= fun _=>_) _ _ s0
 refine wpAny_bind (wpAny_setField g1 g3 (by simp) ?_)
 show wpAny _ _ (newExc (.type "StopIteration") [] >>= fun _=>_) _ _ _
 refine wpAny_bind ?_
 simp only[newExc,newTuple]
 refine wpAny_bind (wpAny_newObj_type (wpAny_bind (m:=firstArgMember _ _) (wpAny_of_eq (a:=Value.none) (by first|rfl|(simp only[firstArgMember];rfl)) (wpAny_newObj_type ?_ (by size_fits)))) (by size_fits))
 simp only[raiseNew]
 refine wpAny_bind (wpAny_handled ?_)
 rw[show A0.in1.handled=none from hh]
 refine wpAny_bind (wpAny_pure (wpAny_throw ?_))
 exact wpAny_bind (wpAny_isInstance (b:=true) (T:="StopIteration") ⟨_,Heap.get?_push_size _ rfl,rfl⟩ isSubtype_stop (wpAny_pure (q _ (((Heap.SameBut.update ..).extBut.push _).push _))))
theorem Dr (hh:A0.handled=none) (fG:d≠I):Walks P0 w0 A0 I [I,d] [I] es.size (fun i v=>∃h:i<es.size,v=es[i].key) (fun i h=>h.IsKeyIter I d i es.size ep∧lS h d es ep) where
 sub:=fun b hb=>by rw[mem_singleton.mp hb];exact mem_cons_self
 frame:=fun _ _ _ st hk=>⟨st.1.at fun o e=>hk I (by simp) o e,st.2.at fun o e=>hk d (by simp) o e⟩
 item:=fun i s Q E hi st hQ=>vH st.1 st.2 hi fun h' a b=>hQ _ h' s.toks ⟨hi,rfl⟩ ⟨a,st.2.at fun o e=>b.extBut d o fG e⟩ fun c o hc e=>b.extBut c o (fun z=>hc (by simp[z])) e
 done:=fun s Q E st hQ=>zj hh st.1 st.2 fun h' he=>hQ h' s.toks fun c o hc e=>he c o (fun z=>hc (by simp[z])) e
 self:=fun _ _ _ _ st hQ=>wpAny_pyIter_keyiter st.1 hQ
theorem Gv:typeLookup (.type "dict") "__len__"=pure (some (.builtin "dict.__len__")):=by
 rw[typeLookup_type,builtinLookup_eq_fast]
 kernel_rfl
theorem Ds {Q:Bool→Shared→Prop}(hT:s0.TypeIs (.ref d) "dict") (q:Q false s0):wpAny (model P0 w0) A0 (Builtin.List.listLengthHint (.ref d)) Q E1 s0:=by
 unfold Builtin.List.listLengthHint
 refine wpAny_bind (wpAny_specialOf hT Gv ?_)
 generalize hid:("dict.__len__":String)=id0
 wp_delta
 rw[show splitId id0=some ("dict","__len__") by subst hid;decide +kernel]
 subst hid
 refine wpAny_bind (wpAny_isInstance (b:=true) hT (by rw[isSubtype_type];kernel_rfl) ?_)
 rw[if_neg (by decide)]
 dsimp only
 rw[if_pos (by decide +kernel)]
 exact wpAny_bind (wpAny_typeOf hT (wpAny_pure q))
theorem Gw {R:Result→Shared→Prop}(hh:A0.handled=none) (nd:(d == sysModules)=false) (x:lS s0.heap d es ep) (hz:es.size≤sizeLine) (S:Addr) (L0:S≠d) (res:Value) (k0:Nat)
  (hS:s0.heap.get? S=some { cls:=.type "list",data:=.seq #[] k0 })
  (hR:∀h' tk acc c',(∀b o,b≠S→s0.heap.get? b=some o→h'.get? b=some o)→h'.get? S=some { cls:=.type "list",dict:=none,data:=.seq acc c',slots:=#[] } →
   ItemsOf (fun i v=>∃h:i<es.size,v=es[i].key) acc es.size→R (.ok (.ret res)) { s0 with heap:=h',toks:=tk }) :
  wpAny (model P0 w0) A0.in1 (Builtin.List.listExtendWith (.ref S) (.ref d) res)
   (fun fin s'=>match fin with
    | .done f=>R (.ok f) s'
    | .again c'=>c'.quiet=true∧codeAny (model P0 w0) A0 c' R s') (fun e s'=>R (.error e) s') s0:=by
 have lt:d<s0.heap.objs.size:=by obtain⟨o,h1,_⟩:=x;exact Heap.lt_size h1
 have ltS:S<s0.heap.objs.size:=Heap.lt_size hS
 have W:=(Dr (P0:=P0) (w0:=w0) (A0:=A0.in1) (I:=s0.heap.objs.size) (es:=es) (ep:=ep) hh (Nat.ne_of_lt lt)).toS
 have e1:Builtin.List.listSameRef (.ref S) (.ref d)=false:=by simp[Builtin.List.listSameRef,L0]
 unfold Builtin.List.listExtendWith
 refine wpAny_bind (wpAny_typeOf x.ty ?_)
 rw[if_neg (by rw[e1];decide)]
 refine wpAny_bind (vG nd x ?_)
 have x2:lS (s0.heap.push { cls:=.type "dict_keyiterator",data:=.fields #[.ref d,.int 0 0,.int es.size 0,.int ep 0] }) d es ep:=x.at fun o e=>Heap.get?_push_of_some _ e
 refine wpAny_bind (wpAny_holding (Ds (lS.ty (s:={ s0 with heap:=s0.heap.push { cls:=.type "dict_keyiterator",data:=.fields #[.ref d,.int 0 0,.int es.size 0,.int ep 0] } }) x2) ?_))
 rw[if_pos (by decide)]
 have k1:=Heap.get?_push_of_some { cls:=.type "dict_keyiterator",data:=.fields #[.ref d,.int 0 0,.int es.size 0,.int ep 0] } hS
 generalize hp:s0.heap.push { cls:=.type "dict_keyiterator",data:=.fields #[.ref d,.int 0 0,.int es.size 0,.int ep 0] }=g1 at k1 x2 ⊢
 have hI1:g1.IsKeyIter s0.heap.objs.size d 0 es.size ep:=by rw[←hp];exact⟨_,Heap.get?_push_size _ rfl,rfl,rfl⟩
 refine wpAny_bind (wpAny_rule (wpAny_bind ?_))
 show wpAny _ _ (updateSeq S (·.push .none) >>= fun _=>updateSeq S (·.pop)) _ _ _
 refine wpAny_bind (wpAny_updateSeq k1 rfl ?_)
 have k2:=Heap.get?_update_self (Obj.mapSeq (·.push Value.none)) k1 rfl
 refine wpAny_updateSeq (hz:=by seq_fits) k2 rfl ?_
 have k3:=Heap.get?_update_self (Obj.mapSeq (·.pop)) k2 rfl
 have L1:∀b o,b≠S→g1.get? b=some o→((g1.update S (Obj.mapSeq (·.push Value.none))).update S (Obj.mapSeq (·.pop))).get? b=some o:=fun b o hb e=>by
  rw[Heap.get?_update_other _ _ (Ne.symm hb),Heap.get?_update_other _ _ (Ne.symm hb)];exact e
 refine wpAny_pure ⟨plainId_quiet PySem.F.plain_extend_loop _,codeAny_extend_loopS W hz S (fun z=>(List.mem_cons.mp z).elim (fun y=>Nat.ne_of_lt ltS y) fun y=>L0 (mem_singleton.mp y)) res es.size 0 _ _ _ rfl (Nat.zero_le _) ⟨hI1.at fun o e=>L1 _ o (Nat.ne_of_gt ltS) e,x2.at fun o e=>L1 d o L0.symm e⟩ k3 (ItemsOf.nil _) fun s' acc c' hm hS' ha=>?_⟩
 rw[Moved.eq_with hm]
 refine hR s'.heap s'.toks acc c' (fun b o h1 e=>hm.heap b o (fun z=>?_) (L1 b o h1 (by rw[←hp];exact Heap.get?_push_of_some _ e))) hS' ha
 rcases List.mem_cons.mp z with z|z
 ·exact h1 z
 ·rw[mem_singleton.mp z] at e
  exact absurd (Heap.lt_size e) (Nat.lt_irrefl _)
theorem Dt {R:Result→Shared→Prop}(hh:A0.handled=none) (nd:(d == sysModules)=false) (x:lS s0.heap d es ep) (hz:es.size≤sizeLine) (S:Addr) (L0:S≠d)
  (hS:s0.heap.get? S=some { cls:=.type "list",data:=.seq #[] })
  (hR:∀h' tk acc c',(∀b o,b≠S→s0.heap.get? b=some o→h'.get? b=some o)→h'.get? S=some { cls:=.type "list",dict:=none,data:=.seq acc c',slots:=#[] } →
   ItemsOf (fun i v=>∃h:i<es.size,v=es[i].key) acc es.size→R (.ok (.ret .none)) { s0 with heap:=h',toks:=tk }) :
  wpAny (model P0 w0) A0.in1 (Builtin.«list.__init__» ⟨[.ref S,.ref d],[]⟩)
   (fun fin s'=>match fin with
    | .done f=>R (.ok f) s'
    | .again c'=>c'.quiet=true∧codeAny (model P0 w0) A0 c' R s') (fun e s'=>R (.error e) s') s0:=by
 show wpAny _ _ (do
  let old ←Builtin.List.listItems (.ref S)
  Builtin.List.listUpdate (.ref S) (fun _=>#[])
  letGo old.toList.reverse
  Builtin.List.listExtendWith (.ref S) (.ref d) .none) _ _ s0
 refine wpAny_bind ?_
 unfold Builtin.List.listItems
 refine wpAny_bind (wpAny_seqItems hS rfl (wpAny_pure ?_))
 show wpAny _ _ (do
  updateSeq S (fun _=>#[])
  letGo (#[]:Array Value).toList.reverse
  Builtin.List.listExtendWith (.ref S) (.ref d) .none) _ _ s0
 refine wpAny_bind (wpAny_updateSeq hS rfl ?_)
 have S0:=Heap.get?_update_self (Obj.mapSeq (fun _=>(#[]:Array Value))) hS rfl
 have L1:∀b o,b≠S→s0.heap.get? b=some o→(s0.heap.update S (Obj.mapSeq (fun _=>(#[]:Array Value)))).get? b=some o:=fun b o hb e=>by
  rw[Heap.get?_update_other _ _ (Ne.symm hb)];exact e
 refine wpAny_bind (wpAny_letGo ?_)
 refine Gw hh nd (x.at fun o e=>L1 d o L0.symm e) hz S L0 .none _ S0 fun h' tk acc c' k e2 ha=>?_
 exact hR h' tk acc c' (fun b o h1 e=>k b o h1 (L1 b o h1 e)) e2 ha
theorem Du {Q:Value→Shared→Prop}(hh:A0.handled=none) (nd:(d == sysModules)=false) (x:lS s0.heap d es ep) (hz:es.size≤sizeLine)
  (hQ:∀h' tk acc c',(∀b o,s0.heap.get? b=some o→h'.get? b=some o)→h'.get? s0.heap.objs.size=some { cls:=.type "list",dict:=none,data:=.seq acc c',slots:=#[] } →
   ItemsOf (fun i v=>∃h:i<es.size,v=es[i].key) acc es.size→Q (.ref s0.heap.objs.size) { s0 with heap:=h',toks:=tk }) :
  wpAny (model P0 w0) A0 (call (.type "list") [.ref d]) Q E1 s0:=by
 refine callType_codes (Q₁:=fun ob s1=>ob = .ref s0.heap.objs.size∧s1={ s0 with heap:=s0.heap.push { cls:=.type "list",data:=.seq #[] } }) PySem.F.called_list (PySem.F.typeCall_list_1 _) PySem.F.entry_list_init (code_list_new _ ⟨rfl,rfl⟩) fun ob s1 h1=>?_
 obtain⟨rfl,rfl⟩:=h1
 have hS:(s0.heap.push { cls:=.type "list",data:=.seq #[] }).get? s0.heap.objs.size=some { cls:=.type "list",data:=.seq #[] }:=Heap.get?_push_size _ rfl
 have lt:d<s0.heap.objs.size:=by obtain⟨o,h1,_⟩:=x;exact Heap.lt_size h1
 refine⟨⟨_,hS,rfl⟩,PySem.F.args_list_init_2 _ _,Dt (A0:=A0.in1) hh nd (x.at fun o e=>Heap.get?_push_of_some _ e) hz _ (Nat.ne_of_gt lt) hS fun h' tk acc c' k e2 ha=>?_⟩
 exact⟨rfl,hQ h' tk acc c' (fun b o e=>k b o (Nat.ne_of_lt (Heap.lt_size e)) (Heap.get?_push_of_some _ e)) e2 ha⟩
end
section
variable {X:Cx}
noncomputable def Kt:List V→Hp→VK→Prop:=fun xs H Q=>∃(a:Addr) (ar:List (List Key×V)),xs=[.ref a]∧H a=some (.dT ar) ∧
 ∀(bs:List Addr) (l:Addr),bs.length=ar.length→(∀(i:Nat) b k v,bs[i]?=some b→ar[i]?=some (k,v)→H b=some (.tup (k.map kV)))→H l=none→Q (.ref l) (upd H l (.lst (bs.map V.ref)))
theorem xQ (hc:X.calm=true:=by rfl):fF X (.type "list") Kt:=by
 intro pins s σ H xs us Q I r h
 obtain⟨a,ar,rfl,ea,q⟩:=h
 obtain⟨u,rfl,rx⟩:=vals1 r
 cases rx
 obtain⟨z,nd,ys,rel,o,es,ep,h1,h2,h3,h4,h5⟩:=(show aX X.prog X.w H s.heap a (.dT ar) from I.aR a _ ea)
 have hl:ar.length=ys.length:=Paired.length rel
 have hs:es.size=ys.length:=size_of_entries h4
 refine Du (I.ok.hd hc) nd ⟨o,h1,h2,h3⟩ (by omega) fun h' tk acc c' k e2 ha=>?_
 have ek:∀(i:Nat) (hi:i<es.size),∃y,ys[i]?=some y∧es[i].key = .ref y.2.1:=fun i hi=>by
  obtain⟨y,hy⟩:∃y,ys[i]?=some y:=⟨ys[i]'(by omega),getElem?_eq_getElem _⟩
  have:=entry_at h4 i
  rw[hy,Array.getElem?_eq_getElem hi] at this
  have e3:=Option.some.inj this
  exact⟨y,hy,by rw[e3];rfl⟩
 have Ce:acc.toList=(ys.map (·.2.1)).map Value.ref:=by
  refine List.ext_getElem? fun j=>?_
  have hsz:acc.size=es.size:=ha.1
  rcases Nat.lt_or_ge j es.size with hj|hj
  ·have hg:acc[j]?=some (acc[j]'(by omega)):=Array.getElem?_eq_getElem _
   obtain⟨hj',e3⟩:=ha.2 j _ hg
   obtain⟨y,hy,e4⟩:=ek j hj
   rw[Array.getElem?_toList,hg,getElem?_map,getElem?_map,hy,e3,e4];rfl
  ·rw[getElem?_eq_none (by rw[Array.length_toList];omega),getElem?_eq_none (by rw[length_map,length_map];omega)]
 have hv:Vals ((ys.map (·.2.1)).map V.ref) acc.toList:=by
  rw[Ce]
  generalize ys.map (·.2.1)=bs
  induction bs with
  | nil=>exact .nil
  | cons b bs ih=>exact .cons rfl ih
 refine⟨.ref _,_,I.laid (t':=tk) (o:=.lst ((ys.map (·.2.1)).map V.ref)) k (Nat.le_refl _) ⟨by rw[length_map,length_map];omega,acc.toList,c',hv,by rw[e2]⟩,rfl,q (ys.map (·.2.1)) _ (by rw[length_map,hl]) (fun i b kk v hb hk=>?_) (I.aR.fresh (Nat.le_refl _))⟩
 rw[getElem?_map] at hb
 have get:∀{l1:List (List Key×V)}{l2:List (List Key×Addr×Value)},KT H l1 l2→∀(i:Nat) y,l1[i]?=some (kk,v)→l2[i]?=some y→H y.2.1=some (.tup (kk.map kV)):=by
  intro l1 l2 r
  induction r with
  | nil=>intro i y h;cases h
  | @cons p q ps qs hq t ih =>
   intro i y e1 e2
   cases i with
   | zero=>cases e1;cases e2;exact hq.2.1
   | succ i=>exact ih i y e1 e2
 obtain⟨y,hy,rfl⟩:=Option.map_eq_some_iff.mp hb
 exact get rel i y hk hy
end
section
variable {X:Cx}
noncomputable def S5:R2:=fun x y H Q=>∃(a b:Addr) (ar:List (List Key×V)) (k:List Key),x = .ref b∧y = .ref a∧H a=some (.dT ar)∧H b=some (.tup (k.map kV))∧Q (.bl (bW ar k).isSome) H
theorem Ku (hu:X.A.units+1<cLine):kQ X (compareOp .In) S5:=by
 intro pins s σ H x y v u Q I rx ry h
 obtain⟨a,b,ar,k,rfl,rfl,ea,eb,q⟩:=h
 cases rx
 cases ry
 exact SY hu I (lR.t ea eb) (show RelV (.ref b) (.ref b) from rfl) fun s' I'=>⟨.bl _,H,I',rfl,q⟩
noncomputable def NG:Af:=fun o i v H Q=>∃(a b:Addr) (ar:List (List Key×V)) (k:List Key),o = .ref a∧i = .ref b∧H a=some (.dT ar)∧H b=some (.tup (k.map kV))∧ar.length<sizeLine∧Q (upd H a (.dT (putK ar k v)))
theorem Kv (hu:X.A.units+1<cLine):Fo X NG:=by
 intro pins s σ H o i v ov iv u Q I ro ri rv h
 obtain⟨a,b,ar,k,rfl,rfl,ea,eb,hl,q⟩:=h
 cases ro
 cases ri
 exact rO hu I (xP.t ea eb hl) (show RelV (.ref b) (.ref b) from rfl) rv fun s' I'=>⟨_,I',q⟩
noncomputable def tD1 (tk tv:TE):TE:=fun σ H Q=>∀p,H p=none→tk σ (upd H p (.dT [])) fun x H1=>tv σ H1 fun y H2=>∃(b:Addr) (k:List Key),x = .ref b∧H2 b=some (.tup (k.map kV))∧H2 p=some (.dT [])∧Q (.ref p) (upd H2 p (.dT [(k,y)]))
theorem NH {kx vx:Expr}{pos:Pos}{tk tv:TE}(hu:X.A.units+1<cLine) (hk:PE X kx tk) (hv:PE X vx tv):PE X (.Dict [some kx] [vx] pos) (tD1 tk tv):=by
 intro pins s σ H Q I q
 have hn:=I.aR.fresh (Nat.le_refl s.heap.objs.size)
 have I1:=I.laid (a:=s.heap.objs.size) (o:=.dT []) (h':=s.heap.push { cls:=.type "dict",data:=.dict #[] }) (t':=s.toks) (fun _ _ q=>Heap.get?_push_of_some _ q) (Nat.le_refl _) ⟨Nat.zero_le _,Nat.ne_of_gt (show sysModules<s.heap.objs.size from I.big) |> fun h=>beq_eq_false_iff_ne.mpr h,[],.nil,_,#[],0,Heap.get?_push_size _ rfl,⟨rfl,rfl,rfl⟩,rfl,rfl,List.nodup_nil⟩
 refine wpAny_Dict_any rfl rfl (by simp) (by show 1≤15;decide) ?_
 refine pairTrees_cons_walk (bG (hk pins _ σ _ _ I1 (q _ hn)) fun u s1 ⟨x,H1,I2,rx,q1⟩=>bG (hv pins s1 σ H1 _ I2 q1) fun w2 s2 ⟨y,H2,I3,ry,q2⟩=>pairTrees_nil_walk ?_)
 obtain⟨b,k,rfl,eb,ep,q3⟩:=q2
 cases rx
 show wpAny _ _ (storeAll s.heap.objs.size [(Value.ref b,w2)]) _ _ s2
 obtain⟨z,nd,ys,rel,dd⟩:=IG I3.aR ep
 cases rel
 have lP:(tupleKind (bC X.prog X.w)).room X.A:=by first|exact hu|exact Nat.lt_of_succ_lt hu|(show _<_;omega)
 have Sw:wpAny (model X.prog X.w) X.A (dictSet s.heap.objs.size (.ref b) w2) (fun _ s3=>EP X pins σ Q (.ref s.heap.objs.size) s3) X.xe s2:=by
  refine wpAny_dictSet_heap (hsz:=Nat.zero_le _) (show (tupleKind (bC X.prog X.w)).room X.A from lP) (kZ I3.aR eb) dd fun h' Gu hs=>?_
  obtain⟨o,es,e0,hq,h2,h3,h4,_,h5⟩:=Gu
  refine⟨.ref _,_,nW (ob:=.dT [(k,y)]) I3 (by rw[ep];exact True.intro) hs ⟨o,hq⟩ ⟨aI (by show 1≤1000;decide),nd,_,.cons (b:=(k,b,w2)) ⟨rfl,?_,ry⟩ .nil,o,es,e0,hq,h2,h3,h4,h5⟩,rfl,q3⟩
  rw[av (iX eb ep (fun z=>nomatch z))]
  exact eb
 unfold storeAll
 rw[List.forIn_cons]
 refine wpAny_bind (wpAny_bind (wpAny_mono Sw (fun _ s3 h3=>wpAny_pure ?_) fun _ _ e=>e))
 show wpAny _ _ (pure PUnit.unit) _ _ s3
 exact wpAny_pure h3
end
section
variable {X:Cx}
noncomputable def rEqTs (K:Frag):R2:=fun x y H Q=>∃(p q:Addr) (as bs:List Addr) (e:Nat→Bool),x = .ref p∧y = .ref q∧cC K H p (as.map V.ref)∧cC K H q (bs.map V.ref)∧as.length=bs.length ∧
 (∀(j:Nat) a b,as[j]?=some a→bs[j]?=some b→(a=b∧e j=true)∨(a≠b∧∃xs ys,fh K H a xs∧fh K H b ys∧xs.all gy=true∧ys.all gy=true∧Aq xs ys=e j))∧Q (.bl ((List.range as.length).all e)) H
end
end L2
namespace TC
open PySem L2
structure Pds (rs ps:List Rw):Prop where
 n:ps.Nodup
 s:∀p∈ps,Sn rs p
 u:ip∈ps
 c:∀p∈ps,∀r∈rs,bz p r∈ps
noncomputable def iD (rs:List Rw) (n:Nat):Nat→Rw
 | 0=>ip
 | i+1=>if n.testBit i=true then bz (iD rs n i) (ra rs i) else iD rs n i
noncomputable def pm (rs:List Rw) (n:Nat):Rw:=iD rs n rs.length
theorem tw {rs:List Rw}(n:Nat):∀i,i≤rs.length→Sn rs (iD rs n i)
 | 0,_=>.ip
 | i+1,h=>by
  unfold iD
  have ih:=tw (rs:=rs) n i (by omega)
  split
  ·exact .mul ih (mem_of_getElem? (iA (by omega)))
  ·exact ih
theorem IH (rs:List Rw) (n:Nat):Sn rs (pm rs n):=tw n _ (Nat.le_refl _)
theorem zk {m:Nat}{rs:List Rw}(c:Cm m rs) {a b:Rw}(ha:Sn rs a) (hb:Sn rs b):bz a b=bz b a:=oK (Sn.ag c ha hb)
theorem NI {m:Nat}{rs:List Rw}(c:Cm m rs) {a:Rw}(ha:Sn rs a):bz a a=ip:=oM (Sn.good c ha).2 (Sn.good c ha).1.s
theorem zl {m:Nat}{rs:List Rw}(c:Cm m rs) (n k:Nat):∀i,i≤rs.length→iD rs (n^^^k) i=bz (iD rs n i) (iD rs k i)
 | 0,_=>by unfold iD;rw[fI]
 | i+1,h=>by
  have ih:=zl c n k i (by omega)
  have hn:=tw (rs:=rs) n i (by omega)
  have hk:=tw (rs:=rs) k i (by omega)
  have hr:Sn rs (ra rs i):=.gen (mem_of_getElem? (iA (by omega)))
  unfold iD
  rw[Nat.testBit_xor,ih]
  generalize iD rs n i=a at hn;generalize iD rs k i=b at hk;generalize ra rs i=r at hr
  cases n.testBit i<;>cases k.testBit i
  ·rfl
  ·show bz (bz a b) r=bz a (bz b r);rw[bA]
  ·show bz (bz a b) r=bz (bz a r) b
   rw[bA,zk c hk hr,←bA]
  ·show bz a b=bz (bz a r) (bz b r)
   rw[bA,←bA r b r,zk c hr hk,bA b r r,NI c hr,fI]
theorem Dv {m:Nat}{rs:List Rw}(c:Cm m rs) (n k:Nat):pm rs (n^^^k)=bz (pm rs n) (pm rs k):=zl c n k _ (Nat.le_refl _)
theorem zm {rs:List Rw}(i:Nat):∀j,iD rs (2^i) j=if i<j then bz ip (ra rs i) else ip
 | 0=>by unfold iD;rw[if_neg (by omega)]
 | j+1=>by
  unfold iD
  rw[Nat.testBit_two_pow,zm i j]
  by_cases e:i=j
  ·subst e
   rw[if_pos (by simp),if_neg (by omega),if_pos (by omega)]
  ·rw[if_neg (by simpa using e)]
   by_cases h:i<j
   ·rw[if_pos h,if_pos (by omega)]
   ·rw[if_neg h,if_neg (by omega)]
theorem Kw {rs:List Rw}{i:Nat}(h:i<rs.length):pm rs (2^i)=ra rs i:=by unfold pm;rw[zm,if_pos h,sV]
theorem zo {rs:List Rw}{n k:Nat}:∀{i},i≤k→iD rs (n+2^k) i=iD rs n i∧iD rs (n%2^k) i=iD rs n i
 | 0,_=>⟨rfl,rfl⟩
 | i+1,h=>by
  obtain⟨h1,h2⟩:=zo (rs:=rs) (n:=n) (i:=i) (k:=k) (by omega)
  have t1:(n+2^k).testBit i=n.testBit i:=by
   rw[Nat.add_comm,Nat.testBit_two_pow_add_gt (by omega)]
  have t2:(n%2^k).testBit i=n.testBit i:=by rw[Nat.testBit_mod_two_pow];simp;omega
  unfold iD
  rw[t1,t2,h1,h2]
  exact⟨rfl,rfl⟩
theorem zp {m:Nat}{rs ds:List Rw}(F:Fr m rs ds) (n:Nat) {j:Nat}(hj:j<rs.length):∀i,i≤rs.length→sy (iD rs n i) (ra ds j)=(decide (j<i)&&n.testBit j)
 | 0,_=>by
  unfold iD
  have:sy ip (ra ds j)=false:=by
   unfold sy ip
   simp
  rw[this];simp
 | i+1,h=>by
  have ih:=zp F n hj i (by omega)
  unfold iD
  by_cases e:i=j
  ·subst e
   cases ht:n.testBit i with
   | true =>
    rw[if_pos rfl,iB,ih,F.d i i (by omega) (by omega)]
    simp
   | false=>rw[if_neg (by decide),ih];simp[ht]
  ·have hd:decide (j<i+1)=decide (j<i):=by
    by_cases h':j<i
    ·rw[decide_eq_true h',decide_eq_true (by omega)]
    ·rw[decide_eq_false h',decide_eq_false (by omega)]
   rw[hd]
   split
   ·rw[iB,ih,F.d i j (by omega) (by omega),decide_eq_false e,Bool.xor_false]
   ·exact ih
theorem Dw {m:Nat}{rs ds:List Rw}(F:Fr m rs ds) (n:Nat) {j:Nat}(hj:j<rs.length):sy (pm rs n) (ra ds j)=n.testBit j:=by
 unfold pm
 rw[zp F n hj _ (Nat.le_refl _),decide_eq_true hj,Bool.true_and]
theorem Kx {m:Nat}{rs ds:List Rw}(F:Fr m rs ds) {n k:Nat}(hn:n<2^rs.length) (hk:k<2^rs.length) (hx:(pm rs n).x=(pm rs k).x) (hz:(pm rs n).z=(pm rs k).z):n=k:=by
 refine Nat.eq_of_testBit_eq fun j=>?_
 by_cases hj:j<rs.length
 ·rw[←Dw F n hj,←Dw F k hj,Ga hx hz rfl rfl]
 ·rw[Nat.testBit_lt_two_pow (Nat.lt_of_lt_of_le hn (Nat.pow_le_pow_right (by decide) (by omega))),Nat.testBit_lt_two_pow (Nat.lt_of_lt_of_le hk (Nat.pow_le_pow_right (by decide) (by omega)))]
noncomputable def sc (s:Int) (r:Rw):Rw:=⟨s*r.sg,r.x,r.z⟩
theorem Ky (s:Int) (a b:Rw):bz (sc s a) b=sc s (bz a b):=by
 unfold bz sc
 simp only[Rw.mk.injEq,and_true]
 unfold chg
 split
 ·rw[Int.mul_assoc,Int.mul_neg]
 ·rw[Int.mul_assoc]
theorem NJ (s:Int) (r:Rw) (j:Nat):cb (sc s r) j=cb r j:=rfl
theorem Dx (s:Int):∀(C:List Rw) (t:Rw),lD C (sc s t)=sc s (lD C t)
 | [],t=>rfl
 | c::C,t=>by
  show lD C (nB (sc s t) c)=sc s (lD C (nB t c))
  have:nB (sc s t) c=sc s (nB t c):=by
   unfold nB
   rw[NJ]
   split
   ·rw[Ky]
   ·rfl
  rw[this,Dx s C]
theorem Dy {m:Nat}{rs L:List Rw}(G:Got m rs L) {t:Rw}(s:Int) (h:Sn rs t):lD L (sc s t)=sc s ip:=by
 rw[Dx]
 congr 1
 have ht:Sn L t:=Sn.of G.to h
 obtain⟨s',FP,e⟩:=xI (Q:=L) (r:=t) (C:=L) (t:=t) (s:=ip) (fun _ h=>h) .ip (fI t).symm
 have hc:Sn L (lD L t):=by rw[e];exact ht.bz FP
 exact G.r.zero G.c hc fun l hl=>sX G.r.p G.r.n l hl
end TC
namespace L2
open PySem PySem.Spec PyProof.Rows
section
variable {X:Cx}
noncomputable def rIxD:R2:=fun x y H Q=>∃(a b:Addr) (ar:List (List Key×V)) (k:List Key) (v:V),x = .ref a∧y = .ref b∧H a=some (.dT ar)∧H b=some (.tup (k.map kV))∧bW ar k=some v∧Q v H
noncomputable def S6 (K:Frag):R2:=fun x y H Q=>∃p q xs ys,x = .ref p∧y = .ref q∧fh K H p xs∧fh K H q ys∧xs.length=ys.length∧(∀(j:Nat) x y,xs[j]?=some x→ys[j]?=some y→Nm K H x y)∧Q (.bl true) H
end
end L2
namespace TC
open PySem L2
noncomputable def dlt (l:Rw):Rw:=if ld l<6 then ⟨1,0,2^ld l⟩ else ⟨1,2^(ld l-6),0⟩
noncomputable def adj (a t d:Rw):Rw:=if sy d t=true then bz d a else d
end TC
namespace L2
open PySem PySem.Spec PyProof.Rows
noncomputable def asc (z:Str):Prop:=(z.cps.all fun x=>decide (x<128))=true
noncomputable def Its (z:Str):It :=
 ⟨fun i H=>∃c,z.cps[i]?=some c,fun i H x H'=>∃p c,H p=none∧x = .ref p∧H'=upd H p (.tup [.int i,.str ⟨#[c]⟩])∧z.cps[i]?=some c,fun i H=>z.cps.size≤i⟩
section
variable {X:Cx}
noncomputable def S7 (ta:TA):TI:=fun σ H R=>ta σ H fun vs H1=>∃z,vs=[.str z]∧asc z∧R (Its z) H1
end
noncomputable def Itx (z:Str):It :=
 ⟨fun i H=>∃c,z.cps[i]?=some c,fun i H x H'=>H'=H∧∃c,z.cps[i]?=some c∧x = .str ⟨#[c]⟩,fun i H=>z.cps.size≤i⟩
section
variable {X:Cx}{tg:Expr}
noncomputable def iText (tl:TE):TI:=fun σ H R=>tl σ H fun x H1=>∃z,x = .str z∧asc z∧R (Itx z) H1
end
noncomputable def jn (sep:Str):List Str→Str
 | [z]=>z
 | zs=>Builtin.Str.glued sep zs
section
variable {X:Cx}
noncomputable def rJoin (K:Frag):V→List V→Hp→VK→Prop:=fun x vs H Q=>∃(sep:Str) (a:Addr) (zs:List Str),x = .str sep∧vs=[.ref a]∧cC K H a (zs.map V.str)∧zs.toArray.foldl (fun n z=>n+z.length+sep.length) 0≤sizeLine∧(jn sep zs).length≤sizeLine∧Q (.str (jn sep zs)) H
end
end L2
namespace TC
open PySem L2
structure Kpt (m:Nat) (L:List Rw) (u:List Int):Prop where
 c:Cm m L
 r:Rd L
 l:L.length=m
 v:u.length=2^m
 s:Il u
 k:∀r∈L,lay r u=u
noncomputable def xo (r:Rw):Rw:=⟨1,r.x,0⟩
noncomputable def XB (L:List Rw):List Rw:=(L.filter fun l=>decide (ld l<6)).map xo
noncomputable def zz (p:Rw→Bool):List Rw→Nat
 | []=>0
 | w::W=>(if p w then 2^ld w else 0)+zz p W
structure Xrd (m:Nat) (W:List Rw):Prop where
 c:Cm m W
 r:Rd W
 x:∀w∈W,w=xo w
noncomputable def sst (bs:List Bool):Str:=⟨(bs.map fun b=>if b then 43 else 48).toArray⟩
noncomputable def chl (bs:List Bool) (c:Nat):Rw:=if bs.getD c false then ⟨1,2^c,0⟩ else ⟨1,0,2^c⟩
noncomputable def chd (bs:List Bool) (c:Nat):Rw:=if bs.getD c false then ⟨1,0,2^c⟩ else ⟨1,2^c,0⟩
noncomputable def chs (bs:List Bool) (m:Nat) (gs:List Gt):List Rw:=(List.range m).map fun c=>mG gs (chl bs c)
noncomputable def fcs (bs:List Bool):Nat:=(List.range 6).foldr (fun c n=>(if bs.getD c true then 0 else 2^c)^^^n) 0
noncomputable def slt (m f:Nat):List Int:=(List.range (2^m)).map fun p=>if p&&&f=0 then 1 else 0
end TC
namespace L2
open PySem PySem.Spec PyProof.Rows
noncomputable def iS (a:Addr) (cls:Value) (od:Option Addr:=none):HO:=.ext fun h=>∃o vs t,h.get? a=some o∧o.cls=cls∧o.dict=od∧o.data = .fields vs∧vs[0]?=some (.ref t)∧vs[1]?=some .none∧vs[2]?=some .none
theorem tD {P:Program}{w:World}{H:Hp}{h:Heap}{a:Addr}{cls:Value}{od:Option Addr}(x:∃o vs t,h.get? a=some o∧o.cls=cls∧o.dict=od∧o.data = .fields vs∧vs[0]?=some (Value.ref t)∧vs[1]?=some .none∧vs[2]?=some .none):aX P w H h a (iS a cls od):=by
 have x':=x
 obtain⟨o,vs,t,e,r⟩:=x
 exact⟨x',⟨o,e⟩,fun ha hb ⟨o,vs,t,z1,z⟩ k=>⟨o,vs,t,k o z1,z⟩⟩
theorem nX {P:Program}{w:World}{H:Hp}{h:Heap}{a:Addr}{cls:Value}{od:Option Addr}(x:aX P w H h a (iS a cls od)):∃o vs t,h.get? a=some o∧o.cls=cls∧o.dict=od∧o.data = .fields vs∧vs[0]?=some (Value.ref t)∧vs[1]?=some .none∧vs[2]?=some .none:=x.1
noncomputable def gf (H:Hp) (e:Addr):Hp:=fun b=>if b=e then none else H b
theorem lg {H:Hp}{e:Addr}:gf H e e=none:=if_pos rfl
theorem d7 {H:Hp}{e b:Addr}(h:b≠e):gf H e b=H b:=if_neg h
theorem ao.gf {H H':Hp}{e:Addr}(s:ao H H') (n:H e=none):ao H (L2.gf H' e):=fun a o h=>by
 have:a≠e:=fun z=>by rw[z,n] at h;cases h
 rw[d7 this];exact s a o h
theorem Dz {H:Hp}{a:Addr}{o:HO}(h:H a=some o):upd H a o=H:=by
 funext b
 by_cases e:b=a
 ·rw[e,ah,h]
 ·rw[av e]
section
variable {X:Cx}{pins:List (Addr×Obj)}{σ:St}{H:Hp}{s:Shared}{e:Addr}{φ:Heap→Prop}
theorem gW.gf {P:Program}{w:World}{h:Heap}(ok:gW P w H h) (hx:H e=some (.ext φ)):gW P w (L2.gf H e) h:=fun a o q=>by
 have ne:a≠e:=fun z=>by rw[z,lg] at q;cases q
 rw[d7 ne] at q
 refine(ok a o q).iY (fun _ _ _ z=>z) (fun b z=>?_) fun b xs z=>?_
 ·rw[d7 (iX z hx (by intro y;cases y))];exact z
 ·rw[d7 (iX z hx (by intro y;cases y))];exact z
theorem Inv.gf (I:Inv X pins σ H s) (hx:H e=some (.ext φ)):Inv X pins σ (L2.gf H e) s:=by
 refine I.rA (h':=s.heap) (g':=s.gens) (d':=s.drawn) (t':=s.toks) (ch:=[]) (fun b hb=>nomatch hb) (fun b o _ _ _ q _=>q) (fun b o _ _ _ q _=>⟨o.slots,q⟩) (fun b o _ _ n=>?_) (fun b o _ q=>⟨o,q⟩) (fun b xs q=>?_) (fun b o u q=>?_) (fun b ps q=>⟨#[],?_⟩) (fun m hm=>hm) (I.aR.gf hx) I.bare
 ·by_cases z:b=e
  ·rw[z];exact lg
  ·rw[d7 z];exact n
 ·rw[d7 (iX q hx (by intro y;cases y))];exact q
 ·rw[d7 (iX q hx (by intro y;cases y))];exact q
 ·rw[d7 (iX q hx (by intro y;cases y)),q];simp
theorem Inv.kF {h':Heap}{o:HO}{t':Nat}(I:Inv X pins σ H s) (hex:X.ex=[]) (k:∀b u,s.heap.get? b=some u→h'.get? b=some u) (hn:s.heap.get? e=none) (new:aX X.prog X.w (upd H e o) h' e o):Inv X pins σ (upd H e o) { s with heap:=h',toks:=t' }:=by
 obtain⟨n1,n2⟩:=I.vi hex hn
 have I2:Inv X pins σ H { s with heap:=h',toks:=t' }:=I.kept k
 refine I2.rA (s:={ s with heap:=h',toks:=t' }) (h':=h') (g':=s.gens) (d':=s.drawn) (t':=t') (ch:=[e]) (fun b hb=>?_) (fun b o _ _ _ q _=>q) (fun b o _ _ _ q _=>⟨o.slots,q⟩) (fun b o hb q n=>?_)
  (fun b o _ q=>⟨o,q⟩) (fun b xs q=>by rw[av (aE q n1)];exact q) (fun b o u q=>by rw[av (aE q n1)];exact q) (fun b ps q=>⟨#[],by rw[av (aE q n1),q];simp⟩) (fun m hm=>hm) (I2.aR.kF n1 new) I2.bare
 ·have z:=mem_singleton.mp hb
  subst z
  refine⟨.inr n2.1,fun z=>?_,fun y c hc z=>?_,n2.2⟩
  ·obtain⟨m,⟨o',es,ep,iU,_⟩,_⟩:=I.loc
   rw[z,iU] at hn;cases hn
  ·obtain⟨v,o',iU,_⟩:=I.cell y c hc
   rw[z,hn] at iU;cases iU
 ·rw[av (by intro z;exact hb (by simp[z]))];exact n
end
noncomputable def kG (K:Frag) (C f:Addr):Bool:=match K.lookup C with
 | some ⟨.type "type",_,.cls cd,sl⟩=>(match cd.mro,sl.toList with
  | .ref C'::bm,[_,_,_,_,some (.builtin n),_]=>C' == C&&n == "ValueError.__new__"&&!cd.hasDel&&PySem.W.tailIn K FW bm&&PySem.W.nsOkIn K cd.ns&&nsIn K cd.ns "__init__" == some (some (.ref f))
  | _,_=>false)
 | _=>false
theorem qK {K:Frag}{h:Heap}{N:Addr}{x:Str}{v:Value}(X:K.In h) (e:PySem.W.nsOkIn K N=true) (q:nsIn K N x=some (some v)):h.nsMap N x=some v:=by
 obtain⟨o,es,ep,ho,hd,_,hf⟩:=Heap.Ns.of_isNs (PySem.W.isNs_of_in X e)
 unfold nsIn at q
 split at q
 ·rename_i c d PB n' sl iU
  have z:=(X _ _ iU).symm.trans ho
  cases z
  dsimp only at hd
  cases hd
  split at q
  ·rename_i en he
   rw[←hf]
   unfold nsFind findBy
   rw[←Array.find?_toList,he]
   cases q
   rfl
  ·split at q<;>cases q
 ·cases q
section
variable {X:Cx}{C f:Addr}{x:Str}{np dc pos:Pos}{e:Expr}{es:List Expr}{t:TA}{E:XS}
theorem rP {K:Frag}{h:Heap}(X:K.In h) (q:kG K C f=true) :
  ∃bm N nm qn bs hdct sn sub ab col dd k0 k1 k2 k3 k5 mN,h.get? C=some (excClassObj nm qn C N bs bm hdct sn sub ab col dd k0 k1 k2 k3 k5 "ValueError.__new__")∧h.Ns N mN∧mN "__init__"=some (.ref f)∧OwnTail h FW bm:=by
 unfold kG at q
 split at q
 ·rename_i dd cd sl ho
  split at q
  ·rename_i C' bm k0 k1 k2 k3 n k5 hm hs
   simp only[Bool.and_eq_true,beq_iff_eq,Bool.not_eq_true'] at q
   obtain⟨⟨⟨⟨⟨rfl,rfl⟩,NK⟩,ht⟩,aR⟩,CK⟩:=q
   obtain⟨nm,bs,mro,ns,qn,hd,sn,sub,ab,col,del⟩:=cd
   dsimp only at hm NK aR CK
   subst hm NK
   have S8:sl=#[k0,k1,k2,k3,some (.builtin "ValueError.__new__"),k5]:=by
    obtain⟨l⟩:=sl
    simp only at hs
    rw[hs]
   subst S8
   exact⟨bm,ns,nm,qn,bs,hd,sn,sub,ab,col,dd,k0,k1,k2,k3,k5,_,X _ _ ho,.of_isNs (PySem.W.isNs_of_in X aR),qK X aR CK,PySem.W.tail_of_in X ht⟩
  ·cases q
 ·cases q
noncomputable def zq (C:Addr) (sp:Sp) (E:XS) (t:TA):TS:=fun _ σ H=>t σ H fun vs H1=>vs.length≤sizeLine∧∀e,H1 e=none →
 sp (.ref e::vs) (upd H1 e (iS e (.ref C))) (fun v H2=>v = .cK∧∃od,H2 e=some (iS e (.ref C) od)∧E (.ref C) od σ (gf H2 e)) (fun _ _ _=>False)
theorem AJ {k:Nat}{fd:FuncData}{ps:List Str}{sp:Sp}(hc:X.calm=true) (hex:X.ex=[]) (hg:Gl X x) (hm:X.mg x=some (.ref C)) (q:kG X.K C f=true) (qf:PySem.W.typeIn X.K (.ref f)=some (.type "function"))
  (F:fj X.prog X.w X.K X.mg X.base bu k f fd ps sp) (hr:bK (k+1) X.A) (hb:Binds X.K fd ps []) (R:Rs X E) (ha:PA X (e::es) t)
  (og:(x == ("__debug__":Str))=false:=by decide) (he:starEach (e::es) X.env=(false,eval e X.env)::starEach es X.env:=by rfl) (lG:(backTo dc (starEach es X.env)).any (·.1)=false:=by rfl) :
  PS X (.Raise (some (.Call (.Name x np) (e::es) [] dc)) none pos) (zq C sp E t):=by
 intro pins s σ H D I h
 obtain⟨tl,N,nm,qn,bs,hdct,sn,sub,ab,col,dd,k0,k1,k2,k3,k5,mN,hC,hN,CK,T⟩:=rP I.ok.mod.BD q
 obtain⟨of,S9,Kd⟩:=Option.map_eq_some_iff.mp (show (X.K.lookup f).map (·.cls)=some (.type "function") from qf)
 have hof:X.base.get? f=some of:=I.ok.mod.BD _ _ S9
 refine Az (C:=C) (nm:=nm) (q:=qn) (N:=N) (bs:=bs) (bm:=tl) (hdct:=hdct) (sn:=sn) (sub:=sub) (ab:=ab) (col:=col) (dd:=dd) (k0:=k0) (k1:=k1) (k2:=k2) (k3:=k3) (k5:=k5)
  PySem.F.excBase_ValueError (by decide +kernel) PySem.F.excBase_ValueError (mN:=mN) (of:=of) (f:=f) (T.hasType PySem.F.excBase_ValueError.hasBase) (I.ok.hd hc) (by rw[he];show (false||(backTo dc (starEach es X.env)).any (·.1))=false;rw[lG];rfl) CK Kd (gw I hg hm ⟨rfl,?_⟩ og)
 have Ir:=ha dc pins s σ H _ I h
 rw[he] at Ir ⊢
 refine Calls.evalArgs_plain (bG Ir fun us s1 ⟨vs,H1,I1,r,hz,q⟩=>?_)
 refine⟨rfl,by show us.length≤sizeLine;rw[←r.length];exact hz,I1.bk _ _ hC,hN.keeps I1.bk,T.keeps I1.bk,I1.bk _ _ hof,fun h' ea me=>?_⟩
 obtain⟨n1,n2⟩:=I1.vi hex me.new
 obtain⟨tt,m1,m2,m3⟩:=me.there
 have I3:Inv X pins σ (upd H1 ea (iS ea (.ref C))) { s1 with heap:=h',toks:=s1.toks }:=I1.kF (t':=s1.toks) hex me.keeps me.new (tD ⟨_,_,tt,m1,rfl,rfl,rfl,rfl,rfl,rfl⟩)
 have hq:=q ea n1
 have r2:Vals (V.ref ea::vs) (Value.ref ea::us):=.cons rfl r
 have hl:(Value.ref ea::us++[]).length=ps.length:=by
  rw[List.append_nil,←r2.length];exact F.len _ _ _ _ hq
 refine wpAny_call (codeAny_mono (F.run _ X.stack _ _ ⟨Value.ref ea::us,[]⟩ (Value.ref ea::us) _ _ _ (hr.make C us []) (I3.Ak.make C us []) (by have:=hb _ (Value.ref ea::us) I3.iR hl;rwa [List.append_nil] at this) r2 hq) fun r s' wJ=>?_)
 cases r with
 | error v=>exact False.elim wJ
 | ok fl =>
  cases fl with
  | ret u =>
   obtain⟨v,H2,I4,rv,ev,od,hx,q4⟩:=I3.after wJ
   subst ev
   obtain⟨o,fs,t4,g1,g2,g3,g4,g5,g6,g7⟩:=nX (I4.aR ea _ hx)
   have P1:s'.heap.get? ea=some ⟨.ref C,od,.fields fs,o.slots⟩:=by rw[g1,←g2,←g3,←g4]
   refine⟨rv,I4.bk _ _ hC,⟨od,fs,o.slots,P1,g6⟩,?_⟩
   exact R pins σ (gf H2 ea) s' ea (.ref C) od (I4.gf hx) ⟨lg,n2,_,_,P1,rfl,rfl,rfl,(Array.getElem?_eq_some_iff.mp g6).1,g7,.inl g6⟩ q4
  | next=>exact False.elim wJ
  | brk=>exact False.elim wJ
  | cont=>exact False.elim wJ
end
end L2
namespace L2
open PySem PySem.Spec PyProof.Rows Builtin Builtin.ObjectAttr
section
variable {X:Cx}{pins:List (Addr×Obj)}{σ:St}{H:Hp}{s:Shared}{a C f:Addr}{od:Option Addr}{A:Around}{E:Value→Shared→Prop}
theorem AK {rest:List Value}{Q:Value→Shared→Prop}(I:Inv X pins σ H s) (q:kG X.K C f=true) (hx:H a=some (iS a (.ref C) od)) (hl:rest.length≤sizeLine) (h:∀s',Inv X pins σ H s'→Q .none s') :
  wpAny (model X.prog X.w) A (call (.builtin "ValueError.__init__") (.ref a::rest)) Q E s:=by
 obtain⟨tl,N,nm,qn,bs,hdct,sn,sub,ab,col,dd,k0,k1,k2,k3,k5,mN,hC,hN,CK,T⟩:=rP I.ok.mod.BD q
 obtain⟨o,vs,tt,g1,g2,g3,g4,g5,g6,g7⟩:=nX (I.aR a _ hx)
 have Sk:=I.bk _ _ hC
 have T':=T.keeps I.bk
 have fin:∀s',Inv X pins σ H s'→Q .none s':=h
 have I':=I
 obtain⟨hp,gg,dr,tk,os⟩:=s
 refine wpAny_call (codeAny_call_builtin F.excBase_ValueError.init.plain F.excBase_ValueError.initEntry (wpAny_check_init_subU F.excBase_ValueError T' Sk g1 g2 ?_))
 unfold Builtin.«BaseException.__init__» newTuple Builtin.BaseException.bexcPut
 dsimp only
 rw[if_neg (show ¬((!([]:List (Str×Value)).isEmpty)=true) by simp)]
 have sz:0<vs.size:=(Array.getElem?_eq_some_iff.mp g5).1
 have e1:=Heap.get?_push_of_some (h:=hp) { cls:=.type "tuple",data:=.seq rest.toArray } g1
 refine wpAny_bind (wpAny_newObj_type ?_ (by show rest.toArray.size≤sizeLine;rw[List.size_toArray];exact hl))
 refine wpAny_bind (wpAny_bind (wpAny_field e1 g4 g5 (wpAny_bind (wpAny_setField e1 g4 sz ?_))))
 refine wpAny_letGo (wpAny_pure ?_)
 refine fin _ ?_
 have I1:Inv X pins σ H ⟨hp.push { cls:=.type "tuple",data:=.seq rest.toArray },gg,dr,tk,os⟩:=I'.kept (t':=tk) fun b u e=>Heap.get?_push_of_some _ e
 have e2:=Heap.get?_update_self (Obj.mapFields (·.setIfInBounds 0 (Value.ref hp.objs.size))) e1 (Obj.isFreed_of_fields (Obj.data_mapFields g4 _))
 have w:=I1.write (x:=a) (e:=a) (o:=iS a (.ref C) od) (t':=tk) (h':=(hp.push { cls:=.type "tuple",data:=.seq rest.toArray }).update a (Obj.mapFields (·.setIfInBounds 0 (Value.ref hp.objs.size)))) (by rw[hx];exact True.intro) (.inl rfl) (fun b u hb e=>(Heap.get?_update_other _ _ (Ne.symm hb)).trans e) ⟨_,e2⟩
  (tD ⟨_,_,hp.objs.size,e2,(Obj.cls_mapFields _ _).trans g2,(sL _ _).trans g3,Obj.data_mapFields g4 _,by rw[Array.getElem?_setIfInBounds_self_of_lt sz],by rw[Array.getElem?_setIfInBounds_ne (by decide)];exact g6,by rw[Array.getElem?_setIfInBounds_ne (by decide)];exact g7⟩)
 rw[Dz hx] at w
 exact w
end
section
variable {X:Cx}{B C f:Addr}{mc:Value}{x:Str}{np apos pos:Pos}{e:Expr}{es:List Expr}{t:TA}{pl:Sem Bool}
noncomputable def Kz (C:Addr) (t:TA):TE:=fun σ H Q=>t σ H fun vs H1=>∃a od rest,vs = .ref a::rest∧H1 a=some (iS a (.ref C) od)∧rest.length≤sizeLine∧Q .cK H1
structure KA (K:Frag) (B:Addr):Prop where
 ga:PySem.W.specialIn K (.ref B) "__getattribute__"=some (some (.builtin "type.__getattribute__"))
 rd:PySem.W.readsIn K B (.type "type")=true
 ini:PySem.W.findCls K (.ref B) (.type "type") "__init__"=some (.val (.builtin "ValueError.__init__"))
theorem DA (hg:Gl X x) (hm:X.mg x=some (.ref B)) (b:KA X.K B) (q:kG X.K C f=true) (ha:PA X (e::es) t)
  (og:(x == ("__debug__":Str))=false:=by decide) (BJ:starEach (e::es) X.env=(false,eval e X.env)::starEach es X.env:=by rfl) (lG:(backTo pos (starEach es X.env)).any (·.1)=false:=by rfl)
  (ht:eval (.Call (.Attribute (.Name x np) "__init__" apos) (e::es) [] pos) X.env=(do
   let ov ←eval (.Name x np) X.env
   standAt apos.atName
   let (f,first) ←holding [ov] (getMethod ov "__init__" pl)
   callWith pos f first (backTo pos (starEach (e::es) X.env)) (backToKw pos (keywordEach [] X.env))):=by rfl) :
  PE X (.Call (.Attribute (.Name x np) "__init__" apos) (e::es) [] pos) (Kz C t):=by
 intro pins s σ H Q I h
 refine PySem.W.methodCall_KW (pl:=pl) (gw I hg hm ?_ og) ht
 refine PySem.W.method_cls I.iR b.ga (PySem.W.cls_value I.iR b.rd b.ini (by decide +kernel) ?_)
 have I0:Inv X pins σ H { s with toks:=s.toks+1 }:=I.tok _
 have hA:=ha pos pins _ σ H _ I0 h
 rw[BJ] at hA ⊢
 refine Calls.callWith_builtin (by show (false||(backTo pos (starEach es X.env)).any (·.1))=false;rw[lG]<;>rfl) (Calls.evalArgs_plain (bG hA fun us s2 ⟨vs,H2,I2,r2,q2⟩=>?_))
 obtain⟨a,od,rest,rfl,hx,hl,q2⟩:=q2
 cases r2 with
 | @cons _ u _ us ru r2 =>
  cases (show u=Value.ref a from ru)
  exact AK I2 q hx (by rw[←r2.length];exact hl) fun s' I'=>⟨.cK,H2,I',rfl,q2⟩
end
noncomputable def isRef:Value→Bool
 | .ref _=>true
 | _=>false
noncomputable def tE:List Value→Bool
 | []=>false
 | v::r=>(v::r) == FW||(isRef v&&tE r)
noncomputable def xR (K:Frag) (C:Addr):Bool:=(PySem.W.clsIn K C).any fun cd=>tE cd.mro
theorem kH (self:Value):∀{l:List Value},tE l=true→refuseLoop self "__setattr__" l=pure ()
 | [],e=>by cases e
 | v::r,e=>by
  rcases Bool.or_eq_true_iff.mp e with e|e
  ·rw[beq_iff_eq.mp e];exact F.store_ValueError.passes self
  ·obtain⟨e1,e2⟩:=Bool.and_eq_true_iff.mp e
   cases v with
   | ref c=>rw[refuseLoop_ref];exact kH self e2
   | _=>cases e1
theorem oU:∀{l:List Value},tE l=true→l.contains (.type "object")=true
 | [],e=>by cases e
 | v::r,e=>by
  rcases Bool.or_eq_true_iff.mp e with e|e
  ·rw[beq_iff_eq.mp e];decide +kernel
  ·obtain⟨e1,e2⟩:=Bool.and_eq_true_iff.mp e
   rw[List.contains_cons,oU e2,Bool.or_true]
structure KC (K:Frag) (C:Addr):Prop where
 sa:PySem.W.findIn K (.ref C) "__setattr__"=some (some (.builtin "object.__setattr__"))
 ov:xR K C=true
 hd:PySem.W.hasDictIn K C=true
section
variable {prog:Program}{w:World}{A:Around}{E:Value→Shared→Prop}{s:Shared}{K:Frag}{x C:Addr}{name:Str}{v:Value}{ox:Obj}
theorem vI {tk:Tok}{R:Result→Shared→Prop}(X:K.In s.heap) (hx:s.heap.get? x=some ox) (nD:ox.cls = .ref C) (c:KC K C) (hn:bE K C name)
  (h:wpAny (model prog w) A.in1 (storeInOwnDict (.ref x) (.ref C) (.str name tk) name v false) (fun fin s'=>match fin with | .done f=>R (.ok f) s' | .again c'=>c'.quiet=true∧codeAny (model prog w) A c' R s') (fun e s'=>R (.error e) s') s) :
  codeAny (model prog w) A (.call (.builtin "object.__setattr__") ⟨[.ref x,.str name tk,v],[]⟩) R s:=by
 have SF:=F.store_object
 obtain⟨cd,hc,ho⟩:=PySem.W.any_some c.ov
 have ty:PySem.W.Looks (model prog w) s.heap (typeOf (.ref x)) (.ref C):=nD▸(PySem.W.Looks.ld hx).andThen .now
 have ne:cd.mro.isEmpty=false:=by
  cases q:cd.mro with
  | nil=>rw[q] at ho;cases ho
  | cons _ _=>rfl
 have sub:PySem.W.Looks (model prog w) s.heap (isInstance (.ref x) (.type "object")) true:=ty.andThen (PySem.W.looks_mroIn X (by unfold PySem.W.mroIn;rw[hc,Option.bind_some,if_neg (by rw[ne];decide),oU ho]))
 refine codeAny_call_builtin SF.slot.plain SF.entry (@PySem.W.check_slot (model prog w) _ _ s "object.__setattr__" "object" "__setattr__" (.ref x) [.str name tk,v] [] _ SF.kind SF.split sub (SF.args (.ref x) (.str name tk) v) ?_)
 have mro:PySem.W.Looks (model prog w) s.heap (mroOf (.ref C)) cd.mro:=(PySem.W.looks_clsIn X hc).andThen .now
 rw[PySem.W.osa_eq,refuse_eq]
 refine wpAny_bind (wpAny_bind (ty.here (wpAny_bind (mro.here ?_))))
 rw[kH _ ho]
 have fnd:PySem.W.Looks (model prog w) s.heap (typeLookup (.ref C) name) none:=PySem.W.looks_findIn X hn
 refine wpAny_pure (wpAny_bind (ty.here (wpAny_bind (fnd.here (wpAny_bind (wpAny_pure ?_))))))
 exact h
theorem DB {vs:Array Value}{Q:Unit→Shared→Prop}(X:K.In s.heap) (hx:s.heap.get? x=some ox) (nD:ox.cls = .ref C) (zr:ox.data = .fields vs) (zt:ox.dict=none) (c:KC K C) (hn:bE K C name)
  (h:∀h' d tk,(∀b o,b≠x→s.heap.get? b=some o→h'.get? b=some o)→s.heap.objs.size≤d→h'.get? x=some { ox with dict:=some d }→h'.Ns1 d (fun y=>if y=name then some v else none)→Q () { s with heap:=h',toks:=tk }) :
  wpAny (model prog w) A (setAttr (.ref x) name v) Q E s:=by
 have J:PySem.W.InstAt s.heap x ox C none:=⟨hx,nD,by unfold PySem.W.notCls;rw[zr],by rw[zt];exact True.intro⟩
 refine PySem.W.set_plain X J c.sa (vI (s:={ s with toks:=s.toks+1 }) X hx nD c hn ?_)
 obtain⟨cd,hc,j4⟩:=PySem.W.any_some c.hd
 obtain⟨oc,od,oda,oh⟩:=ox
 dsimp only at nD zt zr
 subst nD zt zr
 have ne:x≠s.heap.objs.size:=Nat.ne_of_lt (Heap.lt_size hx)
 refine wpAny_bind (wpAny_pure (wpAny_bind (wpAny_bind (wpAny_loadPart hx (wpAny_bind (PySem.W.Looks.here (s:={ s with toks:=s.toks+1 }) (PySem.W.looks_clsIn X hc) ?_))))))
 rw[j4]
 have e1:=Heap.get?_push_of_some (h:=s.heap) { cls:=.type "dict",data:=.dict #[] } hx
 refine wpAny_bind (wpAny_alloc (wpAny_bind (wpAny_update e1 (wpAny_pure ?_))))
 show wpAny _ _ (storeInDict s.heap.objs.size (.str name s.toks) name v) _ _ _
 have e2:((s.heap.push { cls:=.type "dict",data:=.dict #[] }).update x fun o=>{ cls:=o.cls,dict:=some s.heap.objs.size,data:=o.data,slots:=o.slots }).get? x=some { cls:=.ref C,dict:=some s.heap.objs.size,data:=.fields vs,slots:=oh }:=Heap.get?_update_self _ e1 rfl
 have e3:((s.heap.push { cls:=.type "dict",data:=.dict #[] }).update x fun o=>{ cls:=o.cls,dict:=some s.heap.objs.size,data:=o.data,slots:=o.slots }).get? s.heap.objs.size=some { cls:=.type "dict",data:=.dict #[] }:=(Heap.get?_update_other _ _ ne).trans (Heap.get?_push_size _ rfl)
 have e4:∀b o,b≠x→s.heap.get? b=some o→((s.heap.push { cls:=.type "dict",data:=.dict #[] }).update x fun o=>{ cls:=o.cls,dict:=some s.heap.objs.size,data:=o.data,slots:=o.slots }).get? b=some o:=fun b o hb e=>(Heap.get?_update_other _ _ (Ne.symm hb)).trans (Heap.get?_push_of_some _ e)
 dsimp only
 generalize ((s.heap.push { cls:=.type "dict",data:=.dict #[] }).update x fun o=>{ cls:=o.cls,dict:=some s.heap.objs.size,data:=o.data,slots:=o.slots })=h1 at e2 e3 e4 ⊢
 have nn:h1.Ns s.heap.objs.size (fun _=>none):=⟨_,#[],_,e3,rfl,fun e he=>absurd he (by simp),fun _=>rfl⟩
 unfold storeInDict newKeyGuard
 refine wpAny_bind (wpAny_pure (wpAny_bind (wpAny_nsSet1 (Heap.Ns1.of_empty nn) fun h2 n2 sb=>?_)))
 obtain⟨oD,esD,epD,Rn,Ro,BS⟩:=n2.count (Within.cons name v Within.nil)
 refine wpAny_bind (wpAny_lookBehind Rn (by rw[Ro];exact pastItsLine_dict (Nat.le_trans BS (by rw[List.length_cons,List.length_nil,sizeLine_eq];omega))) (wpAny_pure ?_))
 exact h h2 s.heap.objs.size _ (fun b o hb e=>(sb.2 b (Nat.ne_of_lt (Heap.lt_size e))).trans (e4 b o hb e)) (Nat.le_refl _) ((sb.2 x ne).trans e2) n2
theorem AL {vs:Array Value}{d:Addr}{mA:Str→Option Value}{ns:List Str}{Q:Unit→Shared→Prop}(X:K.In s.heap) (hx:s.heap.get? x=some ox) (nD:ox.cls = .ref C) (zr:ox.data = .fields vs) (zt:ox.dict=some d) (fG:d≠x) (hN:s.heap.Ns1 d mA) (hw:Within mA ns) (hz:ns.length<1000) (c:KC K C) (hn:bE K C name)
  (h:∀h' tk,Heap.SameBut d s.heap h'→h'.Ns1 d (fun y=>if y=name then some v else mA y)→Q () { s with heap:=h',toks:=tk }) :
  wpAny (model prog w) A (setAttr (.ref x) name v) Q E s:=by
 obtain⟨oD,esD,epD,e0,_⟩:=id hN
 have J:PySem.W.InstAt s.heap x ox C (some oD):=⟨hx,nD,by unfold PySem.W.notCls;rw[zr],by rw[zt];exact e0⟩
 refine PySem.W.set_plain X J c.sa (vI (s:={ s with toks:=s.toks+1 }) X hx nD c hn ?_)
 obtain⟨cd,hc,j4⟩:=PySem.W.any_some c.hd
 obtain⟨oc,od,oda,oh⟩:=ox
 dsimp only at nD zt zr
 subst nD zt zr
 refine wpAny_bind (wpAny_pure (wpAny_bind (wpAny_bind (wpAny_loadPart hx (wpAny_bind (PySem.W.Looks.here (s:={ s with toks:=s.toks+1 }) (PySem.W.looks_clsIn X hc) ?_))))))
 rw[j4]
 refine wpAny_pure ?_
 show wpAny _ _ (storeInDict d (.str name s.toks) name v) _ _ _
 unfold storeInDict newKeyGuard
 refine wpAny_bind (wpAny_pure (wpAny_bind (wpAny_nsSet1 (s:={ s with toks:=s.toks+1 }) hN fun h2 n2 sb=>?_)))
 obtain⟨oE,esE,epE,hoE,hdE,hcE⟩:=n2.count (Within.cons name v hw)
 refine wpAny_bind (wpAny_lookBehind hoE (by rw[hdE];exact pastItsLine_dict (Nat.le_trans hcE (by rw[List.length_cons,sizeLine_eq];omega))) (wpAny_pure ?_))
 exact h h2 _ sb n2
end
section
variable {X:Cx}{pins:List (Addr×Obj)}{σ:St}{H H0:Hp}{s s0:Shared}{a d C:Addr}{f:Str}
theorem Inv.Gx {o:HO}(I0:Inv X pins σ H0 s0) (I:Inv X pins σ H s) (hd:s0.heap.objs.size≤d) (n1:H d=none) (new:aX X.prog X.w (upd H d o) s.heap d o):Inv X pins σ (upd H d o) s:=by
 obtain⟨_,n2⟩:=I0.young d hd
 refine I.rA (h':=s.heap) (g':=s.gens) (d':=s.drawn) (t':=s.toks) (ch:=[d]) (fun b hb=>?_) (fun b o _ _ _ q _=>q) (fun b o _ _ _ q _=>⟨o.slots,q⟩) (fun b o hb q n=>?_)
  (fun b o _ q=>⟨o,q⟩) (fun b xs q=>by rw[av (aE q n1)];exact q) (fun b o u q=>by rw[av (aE q n1)];exact q) (fun b ps q=>⟨#[],by rw[av (aE q n1),q];simp⟩) (fun m hm=>hm) (I.aR.kF n1 new) I.bare
 ·have z:=mem_singleton.mp hb
  subst z
  refine⟨.inr n2.1,fun z=>?_,fun y c hc z=>?_,n2.2⟩
  ·exact absurd (Nat.lt_of_lt_of_le I0.lt hd) (by rw[z];exact Nat.lt_irrefl _)
  ·obtain⟨v,o',iU,_⟩:=I0.cell y c hc
   exact absurd (Nat.lt_of_lt_of_le (Heap.lt_size iU) hd) (by rw[z];exact Nat.lt_irrefl _)
 ·rw[av (by intro z;exact hb (by simp[z]))];exact n
theorem Inv.Gy {fs Fg:List (Str×V)}{h':Heap}{t':Nat}(I:Inv X pins σ H s) (hH:H d=some (.xd fs)) (sb:Heap.SameBut d s.heap h') (new:aX X.prog X.w (upd H d (.xd Fg)) h' d (.xd Fg)):Inv X pins σ (upd H d (.xd Fg)) { s with heap:=h',toks:=t' }:=by
 have ne:∀{b:Addr}{o:HO},H b=some o→o≠.xd fs→b≠d:=fun hb ho=>iX hb hH ho
 refine I.rA (h':=h') (g':=s.gens) (d':=s.drawn) (t':=t') (ch:=[]) (fun b hb=>nomatch hb) (fun b o _ _ _ q n=>?_) (fun b o _ _ _ q n=>⟨o.slots,?_⟩) (fun b o _ q n=>?_) (fun b o _ q=>?_)
  (fun b xs q=>by rw[av (ne q (by intro y;cases y))];exact q) (fun b o u q=>by rw[av (ne q (by intro y;cases y))];exact q) (fun b ps q=>⟨#[],by rw[av (ne q (by intro y;cases y)),q];simp⟩) (fun m hm=>?_) (fun b o q=>?_) I.bare
 ·exact(sb.2 b (fun z=>by rw[z,hH] at n;cases n)).trans q
 ·exact(sb.2 b (fun z=>by rw[z,hH] at n;cases n)).trans q
 ·rw[av (fun z=>by rw[z,hH] at n;cases n)];exact n
 ·by_cases z:b=d
  ·subst z;obtain⟨mA,⟨od,_,_,e,_⟩,_⟩:=new;exact⟨od,e⟩
  ·exact⟨o,(sb.2 b z).trans q⟩
 ·have nl:X.env.locals≠d:=fun z=>by have:=I.free;rw[z,hH] at this;cases this
  obtain⟨o,es,ep,ho,r⟩:=hm
  exact⟨o,es,ep,(sb.2 _ nl).trans ho,r⟩
 ·by_cases z:b=d
  ·subst z;rw[ah] at q;cases q;exact new
  ·rw[av z] at q
   refine(I.aR b o q).iY (fun c u hc e=>(sb.2 c ?_).trans e) (fun c hc=>?_) fun c xs hc=>?_
   ·rcases hc with rfl|hc
    ·exact z
    ·exact ne hc (by intro y;cases y)
   ·rw[av (ne hc (by intro y;cases y))];exact hc
   ·rw[av (ne hc (by intro y;cases y))];exact hc
theorem DC {y:V}{u:Value}(ry:RelV y u) (f g:Str):fU (([(f,y)]:List (Str×V)).lookup g) (if g=f then some u else none):=by
 by_cases e:g=f
 ·rw[if_pos e,e]
  have:([(f,y)]:List (Str×V)).lookup f=some y:=by simp[List.lookup]
  rw[this];exact ry
 ·rw[if_neg e]
  have:([(f,y)]:List (Str×V)).lookup g=none:=by
   have:(g == f)=false:=by simpa using e
   simp[List.lookup,this]
  rw[this];exact True.intro
theorem xS {y:V}{u:Value}{A:Around}{E:Value→Shared→Prop}{Q:Unit→Shared→Prop}(I:Inv X pins σ H s) (hx:H a=some (iS a (.ref C))) (c:KC X.K C) (n:bE X.K C f) (ry:RelV y u)
  (h:∀d s',H d=none→d≠a→Inv X pins σ (upd (upd H a (iS a (.ref C) (some d))) d (.xd [(f,y)])) s'→Q () s'):wpAny (model X.prog X.w) A (setAttr (.ref a) f u) Q E s:=by
 obtain⟨o,vs,t,g1,g2,g3,g4,g5,g6,g7⟩:=nX (I.aR a _ hx)
 refine DB I.iR g1 g2 g4 g3 c n fun h' d tk k hd e2 nd=>?_
 have Qm:d≠a:=fun z=>absurd (Nat.lt_of_lt_of_le (Heap.lt_size g1) hd) (by rw[z];exact Nat.lt_irrefl _)
 have hn:H d=none:=I.aR.fresh hd
 have I2:Inv X pins σ (upd H a (iS a (.ref C) (some d))) { s with heap:=h',toks:=tk }:=I.write (x:=a) (e:=a) (t':=tk) (by rw[hx];exact True.intro) (.inl rfl) (fun b u hb e=>k b u hb e) ⟨_,e2⟩ (tD ⟨_,vs,t,e2,g2,rfl,g4,g5,g6,g7⟩)
 exact h d _ hn Qm (I.Gx I2 hd (by rw[av Qm];exact hn) ⟨_,nd,fun g=>DC ry f g⟩)
theorem AM {fs:List (Str×V)}{mA:Str→Option Value}(r:∀g,fU (fs.lookup g) (mA g)):Within mA (fs.map (·.1)):=fun y hy=>by
 cases e:fs.lookup y with
 | none=>exact absurd (fU.none_of (by rw[←e];exact r y)) hy
 | some v =>
  have:∀{l:List (Str×V)},l.lookup y=some v→y∈l.map (·.1):=fun {l}=>by
   induction l with
   | nil=>intro h;cases h
   | cons p l ih =>
    intro h
    rw[List.lookup_cons] at h
    split at h
    ·rename_i q;rw[List.map_cons,beq_iff_eq.mp q];exact mem_cons_self
    ·exact mem_cons_of_mem _ (ih h)
  exact this e
theorem vJ {y:V}{u:Value}{fs:List (Str×V)}{A:Around}{E:Value→Shared→Prop}{Q:Unit→Shared→Prop}(I:Inv X pins σ H s) (hx:H a=some (iS a (.ref C) (some d))) (hd:H d=some (.xd fs)) (hl:fs.length<1000) (c:KC X.K C) (n:bE X.K C f) (ry:RelV y u)
  (h:∀s',Inv X pins σ (upd H d (.xd (gr f y fs))) s'→Q () s'):wpAny (model X.prog X.w) A (setAttr (.ref a) f u) Q E s:=by
 obtain⟨o,vs,t,g1,g2,g3,g4,g5,g6,g7⟩:=nX (I.aR a _ hx)
 obtain⟨mA,nA,r⟩:=(show aX X.prog X.w H s.heap d (.xd fs) from I.aR d _ hd)
 refine AL I.iR g1 g2 g4 g3 (iX hd hx (by intro z;cases z)) nA (AM r) (by rw[length_map];exact hl) c n fun h' tk sb nd=>h _ (I.Gy hd sb ⟨_,nd,fun g=>?_⟩)
 rw[je]
 by_cases q:g=f
 ·rw[if_pos q,if_pos q];exact ry
 ·rw[if_neg q,if_neg q];exact r g
end
noncomputable def NL (K:Frag) (ta tv:TE) (f:Str):TS:=fun D σ H=>tv σ H fun y H1=>ta σ H1 fun x H2=>∃a C,x = .ref a∧KC K C∧bE K C f ∧
 ((H2 a=some (iS a (.ref C))∧∀d,H2 d=none→d≠a→D.nx σ (upd (upd H2 a (iS a (.ref C) (some d))) d (.xd [(f,y)]))) ∨
  ∃d fs,H2 a=some (iS a (.ref C) (some d))∧H2 d=some (.xd fs)∧fs.length<1000∧D.nx σ (upd H2 d (.xd (gr f y fs))))
section
variable {X:Cx}{o e value:Expr}{f:Str}{pos pos':Pos}{ta tv:TE}
theorem zu (ha:PE X o ta) (hv:PE X value tv) (hs:swapsWith value (some (.Attribute o f pos')) pos.line X.env=pure false:=by rfl):PS X (.Assign [.Attribute o f pos'] value pos) (NL X.K ta tv f):=by
 intro pins s σ H D I h
 refine plainObj_wpAny_Assign_Attribute (bG (hv pins s σ H _ I h) fun u s1 ⟨y,H1,I1,ry,q⟩=>bG (ha pins s1 σ H1 _ I1 q) fun ov s2 ⟨x,H2,I2,rx,a,C,ex,c,n,q2⟩=>?_) hs
 subst ex
 obtain rfl:ov=Value.ref a:=rx
 rcases q2 with⟨hx,q2⟩|⟨d,fs,hx,hd,hl,q2⟩
 ·exact xS I2 hx c n ry fun d s3 nd Qm I3=>⟨σ,_,I3,q2 d nd Qm⟩
 ·exact vJ I2 hx hd hl c n ry fun s3 I3=>⟨σ,_,I3,q2⟩
end
section
variable {prog:Program}{w:World}{A:Around}{E:Value→Shared→Prop}{h:Heap}{g:Array GenState}{dr:Drawn}{t:Nat}{os:OsState}{a C d:Addr}{o:Obj}{K:Frag}{name:Str}{v:Value}{mA:Str→Option Value}
theorem DD {tk:Tok}{Q:Fin→Shared→Prop}{vs:Array Value}(X:K.In h) (hh:PySem.W.hasDictIn K C=true) (n:bE K C name) (hx:h.get? a=some o) (hc:o.cls = .ref C) (zr:o.data = .fields vs) (zt:o.dict=some d) (hN:h.Ns1 d mA) (hv:mA name=some v)
  (hq:Q (.done (.ret v)) ⟨h,g,dr,t,os⟩):wpAny (model prog w) A (Builtin.«object.__getattribute__» ⟨[.ref a,.str name tk],[]⟩) Q E ⟨h,g,dr,t,os⟩:=by
 have hl:PySem.W.Looks (model prog w) h (typeLookup (.ref C) name) none:=PySem.W.looks_findIn X n
 obtain⟨cd,wQ,j4⟩:=PySem.W.any_some hh
 have nD:PySem.W.Looks (model prog w) h (classData C) cd:=PySem.W.looks_clsIn X wQ
 repeat (any_goals (first|assumption|(with_reducible refine wpAny_loadPart_at hx ?_;rw[hc])|with_reducible refine hl.at ?_|wp_step))
 obtain⟨oc,od,oda,oh⟩:=o
 dsimp only at hc zr zt ⊢
 subst hc zr zt
 unfold instanceDict
 refine wpAny_bind (wpAny_loadPart hx (wpAny_bind (nD.here (s:=⟨h,g,dr,t,os⟩) ?_)))
 rw[j4]
 refine wpAny_pure ?_
 show wpAny _ _ (nsGet d name) _ _ _
 refine wpAny_nsGet (s:=⟨h,g,dr,t,os⟩) hN.ns ?_
 rw[hv]
 exact wpAny_bind (wpAny_rule (wpAny_pure (wpAny_pure hq)))
theorem Gz {tk:Tok}{R:Result→Shared→Prop}{vs:Array Value}(X:K.In h) (c:lJ K C) (hh:PySem.W.hasDictIn K C=true) (n:bE K C name) (hx:h.get? a=some o) (hc:o.cls = .ref C) (zr:o.data = .fields vs) (zt:o.dict=some d) (hN:h.Ns1 d mA) (hv:mA name=some v)
  (hq:R (.ok (.ret v)) ⟨h,g,dr,t,os⟩):codeAny (model prog w) A (.call (.builtin "BaseException.__getattribute__") ⟨[.ref a,.str name tk],[]⟩) R ⟨h,g,dr,t,os⟩ :=
 codeAny_call_builtin F.attr_ValueError.ga.plain F.entry_bexc_ga (vj X c hx hc (DD X hh n hx hc zr zt hN hv hq))
theorem GA {expr:Bool}{Q:Value→Shared→Prop}{vs:Array Value}(X:K.In h) (c:lJ K C) (hh:PySem.W.hasDictIn K C=true) (n:bE K C name) (hx:h.get? a=some o) (hc:o.cls = .ref C) (zr:o.data = .fields vs) (zt:o.dict=some d) (hN:h.Ns1 d mA) (hv:mA name=some v) (hho:handedOut v=pure v)
  (hq:Q v ⟨h,g,dr,t+1,os⟩):wpAny (model prog w) A (getAttr (.ref a) name expr) Q E ⟨h,g,dr,t,os⟩:=by
 have f3:=F.attr_ValueError.ga.bind (.ref a)
 have P7:(expr&&onTheHeap (Value.builtin "BaseException.__getattribute__"))=false:=by cases expr<;>rfl
 have Sd:(Value.builtin "BaseException.__getattribute__" == Value.builtin "object.__getattribute__")=false:=by decide +kernel
 have hx1:(onTheHeap (Value.ref C)&&Value.builtin "BaseException.__getattribute__" == Value.builtin "object.__getattribute__")=false:=by rw[Sd];rfl
 have l1:PySem.W.Looks (model prog w) h (typeLookup (.ref C) "__getattribute__") (some (.builtin "BaseException.__getattribute__")):=PySem.W.looks_findIn X c.ga
 have l2:PySem.W.Looks (model prog w) h (typeLookup (.ref C) "__getattr__") none:=PySem.W.looks_findIn X c.gt
 unfold getAttr
 repeat (any_goals (first|assumption|(with_reducible refine wpAny_loadPart_at hx ?_;rw[hc])|with_reducible refine l1.at ?_|with_reducible refine l2.at ?_|wp_step))
 refine Gz X c hh n hx hc zr zt hN hv ?_
 repeat (any_goals (first|assumption|wp_step))
end
noncomputable def NM (K:Frag) (ta:TE) (f:Str):TE:=fun σ H Q=>ta σ H fun x H1=>∃a C d fs v,x = .ref a∧H1 a=some (kB a (.ref C) (some d))∧H1 d=some (.xd fs)∧lJ K C∧PySem.W.hasDictIn K C=true∧bE K C f∧fs.lookup f=some v∧Q v H1
section
variable {X:Cx}{e:Expr}{f:Str}{pos:Pos}{ta:TE}
theorem j9 (he:PE X e ta) (hb:attributeBase e f X.env (eval e X.env)=eval e X.env:=by rfl):PE X (.Attribute e f pos) (NM X.K ta f):=by
 intro pins s σ H Q I h
 refine yI hb (bG (he pins s σ H _ I h) fun u s1 ⟨x,H1,I1,rx,a,C,d,fs,v,ex,ea,ed,c,hh,n,l,q⟩=>?_)
 subst ex
 obtain rfl:u=Value.ref a:=rx
 obtain⟨⟨o,vs,g1,g2,g3,g4,g5⟩,_,_⟩:=(show aX X.prog X.w H1 s1.heap a (kB a (.ref C) (some d)) from I1.aR a _ ea)
 obtain⟨mA,nA,r⟩:=(show aX X.prog X.w H1 s1.heap d (.xd fs) from I1.aR d _ ed)
 obtain⟨u',hu,ru⟩:=fU.some_of (v:=v) (o:=mA f) (by rw[←l];exact r f)
 have BD:=I1.iR
 have I1':=I1
 obtain⟨hp,gg,dr,tk,os⟩:=s1
 exact GA BD c hh n g1 g2 g4 g3 nA hu (PySem.W.handedOut_of (q8 ru)) ⟨v,H1,I1'.tok _,ru,q⟩
end
end L2
namespace L2
open PySem PySem.Spec PyProof.Rows
noncomputable def vK (s:Stmt) (i:Nat):Stmt:=match s with
 | .ClassDef _ _ _ body ..=>body.getD i (.Pass ⟨0,0,0,0⟩)
 | _=>.Pass ⟨0,0,0,0⟩
structure AN (K:Frag) (C:Addr) (qual:Str) (st:Stmt) (ps:List Str):Prop where
 ex:∃f fd,Bu K "__init__" qual st f fd∧kG K C f=true∧PySem.W.typeIn K (.ref f)=some (.type "function")∧Binds K fd ps []
 c:lJ K C
 self:PySem.W.subIn K (.ref C) (.ref C)=some true
 fl:KC K C
theorem GC {K:Frag}{C f:Addr}{cd:ClassData}{qual:Str}{st:Stmt}{ps:List Str}{oc:Value}{od an:Option Addr}{oh:Array (Option Value)}{kV doc pm bf ct:Value}
  (l:K.lookup f=some ⟨oc,od,.func (fnOf "__init__" qual (ax st) (aw st) (af st) .none kV doc pm an bf ct),oh⟩) (c:codeIn K bf qual=true) (kp:keepIn K (.ref f)=true)
  (hb:∀(kV doc pm:Value) (an:Option Addr) (bf ct:Value) (us:List Value),us.length=ps.length→bindArgs (fnOf "__init__" qual (ax st) (aw st) (af st) .none kV doc pm an bf ct) ⟨us,[]⟩=pure (ps.zip us))
  (x:kG K C f=true) (fn:PySem.W.typeIn K (.ref f)=some (.type "function"))
  (y1:PySem.W.findIn K (.ref C) "__getattribute__"=some (some (.builtin "BaseException.__getattribute__"))) (y2:PySem.W.findIn K (.ref C) "__getattr__"=some none) (y3:PySem.W.findIn K (.ref C) "__class__"=some (some (.builtin "object.__class__")))
  (y4:PySem.W.subIn K (.ref C) (.type "BaseException")=some true) (y5:PySem.W.subIn K (.ref C) (.type "object")=some true) (y6:PySem.W.clsIn K C=some cd) (y7:PySem.W.subIn K (.ref C) (.ref C)=some true)
  (y8:PySem.W.findIn K (.ref C) "__setattr__"=some (some (.builtin "object.__setattr__"))) (y9:xR K C=true) (y10:PySem.W.hasDictIn K C=true):AN K C qual st ps:=by
 have F:=ot (st:=st) l c kp
 exact⟨⟨f,_,F,x,fn,F.binds hb⟩,⟨y1,y2,y3,y4,y5,by rw[y6];rfl⟩,y7,⟨y8,y9,y10⟩⟩
structure GD (P:Program) (w:World) (K:Frag) (mg:Str→Option Value) (base:Heap) (k:Nat) (C:Addr) (sp:Sp):Prop where
 ex:∃f fd ps,fj P w K mg base bu k f fd ps sp∧kG K C f=true∧PySem.W.typeIn K (.ref f)=some (.type "function")∧Binds K fd ps []
section
variable {P:Program}{w:World}{K:Frag}{mg:Str→Option Value}{base:Heap}{C:Addr}{qual:Str}{st:Stmt}{ps N:List Str}{k:Nat}{sp:Sp}
theorem AN.ok (D:AN K C qual st ps) (S:az N ps (af st)) (len:∀vs H Q E,sp vs H Q E→vs.length=ps.length)
  (fV:∀(f:Addr) (bf:Value) (A:Around) (outer:List Env) (s:Shared) (H:Hp) (vs:List V) (Q:VK) (E:XK),kG K C f=true→bK k (A.deeper (envOfC qual (af st) s.heap.objs.size f bf))→sp vs H Q E →
   ∃t,nQ (kS bu P w K mg base N qual (af st) f bf A outer s H E).wU (aw st) t∧t { nx:=fun _ H'=>Q .cK H',rt:=Q } (start N vs) H):GD P w K mg base (k+1) C sp:=by
 obtain⟨f,fd,F,q,t,b⟩:=D.ex
 exact⟨f,fd,ps,F.ok S len (fun bf A outer s H vs Q E hr h=>fV f bf A outer s H vs Q E q hr h),q,t,b⟩
end
section
variable {X:Cx}{C:Addr}{x:Str}{np dc pos:Pos}{e:Expr}{es:List Expr}{t:TA}{E:XS}{k:Nat}{sp:Sp}
theorem AO (hc:X.calm=true) (hex:X.ex=[]) (hg:Gl X x) (hm:X.mg x=some (.ref C)) (D:GD X.prog X.w X.K X.mg X.base k C sp) (hr:bK (k+1) X.A) (R:Rs X E) (ha:PA X (e::es) t)
  (og:(x == ("__debug__":Str))=false:=by decide) (he:starEach (e::es) X.env=(false,eval e X.env)::starEach es X.env:=by rfl) (lG:(backTo dc (starEach es X.env)).any (·.1)=false:=by rfl) :
  PS X (.Raise (some (.Call (.Name x np) (e::es) [] dc)) none pos) (zq C sp E t):=by
 obtain⟨f,fd,ps,F,q,t,b⟩:=D.ex
 exact AJ hc hex hg hm q t F hr b R ha og he lG
end
theorem NN {H H3:Hp}{e d:Addr}{o1 o2 o3:HO}(s:ao H H3) (ne:H3 e=none) (nd:upd H3 e o1 d=none) (II:d≠e) :
  upd (upd (upd H3 e o1) e o2) d o3 e=some o2∧ao H (gf (upd (upd (upd H3 e o1) e o2) d o3) e)∧H d=none∧gf (upd (upd (upd H3 e o1) e o2) d o3) e d=some o3:=by
 have n3:H3 d=none:=by rw[av II] at nd;exact nd
 have he:H e=none:=s.free ne
 refine⟨by rw[av (Ne.symm II),ah],ao.gf (fun a o h=>?_) he,s.free n3,by rw[d7 II,ah]⟩
 have h3:=s a o h
 rw[av (aE h3 n3),av (aE h3 ne),av (aE h3 ne)]
 exact h3
theorem DE {P:Program}{w:World}{H:Hp}(h:Heap) (hb:sysModules<h.objs.size):aX P w H (h.push { cls:=.type "dict",data:=.dict #[] }) h.objs.size (.dK []) :=
 ⟨Nat.zero_le _,beq_eq_false_iff_ne.mpr (Ne.symm (Nat.ne_of_lt hb)),[],.nil,Heap.DictOf.new h⟩
noncomputable def KD:TE:=fun _ H Q=>∀p,H p=none→Q (.ref p) (upd H p (.dK []))
noncomputable def Ta:TE:=fun _ H Q=>∀p,H p=none→Q (.ref p) (upd H p (.dT []))
section
variable {X:Cx}{pos:Pos}
theorem vL:PE X (.Dict [] [] pos) KD:=fun pins s σ H Q I h =>
 wpAny_Dict_empty ⟨.ref s.heap.objs.size,_,I.laid (a:=s.heap.objs.size) (o:=.dK []) (t':=s.toks) (fun _ _ q=>Heap.get?_push_of_some _ q) (Nat.le_refl _) (DE s.heap I.big),rfl,h _ (I.aR.fresh (Nat.le_refl _))⟩
end
noncomputable def xU:List (TE×TE)→St→Hp→(List (V×V)→Hp→Prop)→Prop
 | [],_,H,Q=>Q [] H
 | (tk,tv)::r,σ,H,Q=>tk σ H fun x H1=>tv σ H1 fun y H2=>xU r σ H2 fun ps H3=>Q ((x,y)::ps) H3
noncomputable abbrev VV:List (V×V)→List (Value×Value)→Prop:=Paired fun p q=>RelV p.1 q.1∧RelV p.2 q.2
noncomputable def PPs (X:Cx) (pos:Pos) (keys:List (Option Expr)) (values:List Expr) (Tc:List (TE×TE)):Prop :=
 ∀(pins:List (Addr×Obj)) (s:Shared) (σ:St) (H:Hp) (Q:List (V×V)→Hp→Prop),Inv X pins σ H s→xU Tc σ H Q →
  wpAny (model X.prog X.w) X.A (evalPairs (pairTrees keys values X.env pos)) (fun vs s'=>∃ps H',Inv X pins σ H' s'∧VV ps vs∧Q ps H') X.xe s
noncomputable def KG (ar more:List (Key×V)):List (Key×V):=more.foldl (fun acc kv=>putK acc kv.1 kv.2) ar
noncomputable def tDisp (Tc:List (TE×TE)):TE:=fun σ H Q=>∀p,H p=none→xU Tc σ (upd H p (.dK [])) fun ps H2=>H2 p=some (.dK [])∧∃ar:List (Key×V),ps=ar.map (fun kv=>(kV kv.1,kv.2))∧ar.length≤15∧Q (.ref p) (upd H2 p (.dK (KG [] ar)))
structure M1 (X:Cx) (o:Expr) (m:Str) (apos:Pos) (e:Expr) (dc:Pos):Prop where
 base:attributeBase o m X.env (eval o X.env)=eval o X.env
 vn:((backTo dc (starEach [e] X.env)).all (fun x=>!x.1)&&(backToKw dc (keywordEach [] X.env)).all (fun x=>x.1.isSome)
  && decide (([e]:List Expr).length+([]:List Keyword).length+(if ([]:List Keyword).isEmpty then 0 else 1)<30))=true
 line:(apos.endLine == dc.line)=true
 trees:backTo dc (starEach [e] X.env)=[(false,eval e X.env)]
structure M2 (X:Cx) (o:Expr) (m:Str) (apos:Pos) (e f:Expr) (dc:Pos):Prop where
 base:attributeBase o m X.env (eval o X.env)=eval o X.env
 vn:((backTo dc (starEach [e,f] X.env)).all (fun x=>!x.1)&&(backToKw dc (keywordEach [] X.env)).all (fun x=>x.1.isSome)
  && decide (([e,f]:List Expr).length+([]:List Keyword).length+(if ([]:List Keyword).isEmpty then 0 else 1)<30))=true
 line:(apos.endLine == dc.line)=true
 trees:backTo dc (starEach [e,f] X.env)=[(false,eval e X.env),(false,eval f X.env)]
noncomputable def Qn (H:Hp) (a:Addr):Prop:=(∃ar,Rd H a (.dK ar))∨∃ar,Rd H a (.dT ar)
theorem KH {X:Cx}{pins:List (Addr×Obj)}{σ:St}{H:Hp}{s:Shared}{a:Addr}(I:Inv X pins σ H s) (d:Qn H a) :
  s.TypeIs (.ref a) "dict"∧(∀b,Value.ref a = .ref b→∃ob,s.heap.get? b=some ob∧ob.dict=none)∧(a == sysModules)=false:=by
 rcases d with⟨ar,e⟩|⟨ar,e⟩
 ·obtain⟨_,hd,vs,_,dd⟩:=oS I.aR e
  refine⟨dd.typeIs,fun b q=>?_,hd⟩
  cases q
  obtain⟨ob,_,_,h1,h2,_⟩:=dd
  exact⟨ob,h1,h2.2.1⟩
 ·obtain⟨_,hd,xs,_,dd⟩:=rN I.aR e
  refine⟨dd.typeIs,fun b q=>?_,hd⟩
  cases q
  obtain⟨ob,_,_,h1,h2,_⟩:=dd
  exact⟨ob,h1,h2.2.1⟩
section
variable {X:Cx}{pins:List (Addr×Obj)}{σ:St}{H:Hp}{s:Shared}{a:Addr}{y d:V}{u r:Value}{o:Option V}{A:Around}{E:Value→Shared→Prop}
theorem KI {Q:Value→Shared→Prop}(hu:A.units+1<cLine) (I:Inv X pins σ H s) (g:lR H a y o) (ry:RelV y u) (rd:RelV d r) (h:∀w' s',Inv X pins σ H s'→RelV (o.getD d) w'→Q w' s') :
  wpAny (model X.prog X.w) A (call (.builtin "dict.get") [.ref a,u,r]) Q E s:=by
 rcases g with⟨ar,k,e,ey,l⟩|⟨ar,k,b,e,ey,eb,l⟩
 ·subst ey
  obtain⟨z,hd,vs,rel,dd⟩:=oS I.aR e
  refine call_meetsIn PySem.F.slot_dict_get dd.typeIs PySem.F.entry_dict_get (PySem.F.args_dict_get_3 _ _ _) (meets_dict_get_default (bC X.prog X.w) a (oR ry) hd r) ⟨_,dd.mapOf,h _ _ (I.tok _) ?_⟩
  rw[l]
  exact(rel.val k).getD rd
 ·subst ey
  cases (show u=Value.ref b from ry)
  obtain⟨z,hd,xs,rel,dd⟩:=rN I.aR e
  refine call_meetsIn PySem.F.slot_dict_get dd.typeIs PySem.F.entry_dict_get (PySem.F.args_dict_get_3 _ _ _) (meetsH_dict_get_default (tupleKind (bC X.prog X.w)) a b hd r) ⟨tupleKind_room_in1 hu,k,xs,kZ I.aR eb,dd,h _ _ (I.tok _) ?_⟩
  rw[l]
  exact(rel.val k).getD rd
end
noncomputable def Td (td ty:TE):TE:=fun σ H Q=>td σ H fun x H1=>∃a,x = .ref a∧Qn H1 a∧ty σ H1 fun y H2=>∃o,lR H2 a y o∧Q (o.getD .cK) H2
noncomputable def KJ (td ty tx:TE):TE:=fun σ H Q=>td σ H fun x H1=>∃a,x = .ref a∧Qn H1 a∧ty σ H1 fun y H2=>tx σ H2 fun z H3=>∃o,lR H3 a y o∧Q (o.getD z) H3
section
variable {X:Cx}{o e f:Expr}{apos dc:Pos}{td ty tx:TE}
theorem DF (hu:X.A.units+1<cLine) (ho:PE X o td) (he:PE X e ty) (hf:PE X f tx) (m:M2 X o "get" apos e f dc):PE X (.Call (.Attribute o "get" apos) [e,f] [] dc) (KJ td ty tx):=by
 intro pins s σ H Q I h
 refine wpAny_Call_method m.base m.vn m.line PySem.F.plainAttrs_dict PySem.F.slot_dict_get PySem.F.type_dict_get (bG (ho pins s σ H _ I h) fun u s1 ⟨x,H1,I1,rx,a,ex,d,q1⟩=>?_)
 subst ex
 obtain rfl:u=Value.ref a:=rx
 obtain⟨t1,t2,_⟩:=KH I1 d
 refine⟨t1,t2,?_⟩
 rw[m.trees]
 refine Calls.callWith_builtin rfl (Calls.evalArgs_plain (Calls.spliced_cons (bG (he pins s1 σ H1 _ I1 q1) fun iv s2 ⟨y,H2,I2,ry,q2⟩ =>
  Calls.spliced_cons (bG (hf pins s2 σ H2 _ I2 q2) fun fv s3 ⟨z,H3,I3,rz,ov,g,q3⟩=>Calls.spliced_nil ?_))))
 exact KI hu I3 g ry rz fun w' s4 I4 yN=>⟨_,H3,I4,yN,q3⟩
end
structure oV (K:Frag) (C:Addr) (m qual:Str) (st:Stmt) (ps:List Str):Prop where
 ex:∃(f:Addr) (fd:FuncData),Bu K m qual st f fd∧Meth K C m f∧Binds K fd ps []
 c:uJ K C
structure xV (P:Program) (w:World) (K:Frag) (mg:Str→Option Value) (base:Heap) (k:Nat) (C:Addr) (m:Str) (sp:Sp):Prop where
 ex:∃(f:Addr) (fd:FuncData) (ps:List Str),fj P w K mg base bu k f fd ps sp∧Meth K C m f∧Binds K fd ps []
 c:uJ K C
structure DG (K:Frag) (mg:Str→Option Value) (x:Str) (C:Addr) (qual:Str) (st:Stmt) (ps:List Str):Prop where
 ex:∃(f:Addr) (fd:FuncData),Bu K "__init__" qual st f fd∧Mk K C f∧Binds K fd ps []
 m:mg x=some (.ref C)
 c:uJ K C
structure GG (P:Program) (w:World) (K:Frag) (mg:Str→Option Value) (base:Heap) (k:Nat) (x:Str) (C:Addr) (sp:Sp):Prop where
 ex:∃(f:Addr) (fd:FuncData) (ps:List Str),fj P w K mg base bu k f fd ps sp∧Mk K C f∧Binds K fd ps []
 m:mg x=some (.ref C)
 c:uJ K C
section
variable {P:Program}{w:World}{K:Frag}{mg:Str→Option Value}{base:Heap}{C:Addr}{m x qual:Str}{st:Stmt}{ps N:List Str}{k:Nat}{sp:Sp}
theorem oV.ok (D:oV K C m qual st ps) (S:az N ps (af st)) (len:∀vs H Q E,sp vs H Q E→vs.length=ps.length)
  (fV:∀(f:Addr) (bf:Value) (A:Around) (outer:List Env) (s:Shared) (H:Hp) (vs:List V) (Q:VK) (E:XK),bK k (A.deeper (envOfC qual (af st) s.heap.objs.size f bf))→sp vs H Q E →
   ∃t,nQ (kS bu P w K mg base N qual (af st) f bf A outer s H E).wU (aw st) t∧t { nx:=fun _ H'=>Q .cK H',rt:=Q } (start N vs) H):xV P w K mg base (k+1) C m sp:=by
 obtain⟨f,fd,F,q,b⟩:=D.ex
 exact⟨⟨f,fd,ps,F.ok S len (fun bf A outer s H vs Q E hr h=>fV f bf A outer s H vs Q E hr h),q,b⟩,D.c⟩
theorem DG.ok (D:DG K mg x C qual st ps) (S:az N ps (af st)) (len:∀vs H Q E,sp vs H Q E→vs.length=ps.length)
  (fV:∀(f:Addr) (bf:Value) (A:Around) (outer:List Env) (s:Shared) (H:Hp) (vs:List V) (Q:VK) (E:XK),bK k (A.deeper (envOfC qual (af st) s.heap.objs.size f bf))→sp vs H Q E →
   ∃t,nQ (kS bu P w K mg base N qual (af st) f bf A outer s H E).wU (aw st) t∧t { nx:=fun _ H'=>Q .cK H',rt:=Q } (start N vs) H):GG P w K mg base (k+1) x C sp:=by
 obtain⟨f,fd,F,q,b⟩:=D.ex
 exact⟨⟨f,fd,ps,F.ok S len (fun bf A outer s H vs Q E hr h=>fV f bf A outer s H vs Q E hr h),q,b⟩,D.m,D.c⟩
theorem tF {f:Addr}{oc:Value}{od an:Option Addr}{oh:Array (Option Value)}{kV doc pm bf ct:Value}
  (l:K.lookup f=some ⟨oc,od,.func (fnOf m qual (ax st) (aw st) (af st) .none kV doc pm an bf ct),oh⟩) (c:codeIn K bf qual=true) (kp:keepIn K (.ref f)=true)
  (hb:∀(kV doc pm:Value) (an:Option Addr) (bf ct:Value) (us:List Value),us.length=ps.length→bindArgs (fnOf m qual (ax st) (aw st) (af st) .none kV doc pm an bf ct) ⟨us,[]⟩=pure (ps.zip us))
  (a:PySem.W.findIn K (.ref C) m=some (some (.ref f))) (fn:PySem.W.isFn K (.ref f)=true) (y1:PySem.W.plainGet K C Str.empty=true) (y2:PySem.W.hasDictIn K C=true) (y3:PySem.W.plainOver K C=true) (y4:PySem.W.findIn K (.ref C) "__setattr__"=some (some (.builtin "object.__setattr__"))):oV K C m qual st ps:=by
 have F:=ot (st:=st) l c kp
 exact⟨⟨f,_,F,⟨a,fn,kp⟩,F.binds hb⟩,⟨y1,y2,y3,y4⟩⟩
theorem GH {h:Heap}{f:Addr}{oc:Value}{od an:Option Addr}{oh:Array (Option Value)}{kV doc pm bf ct:Value}(X:K.In h) (G:h.Ns mainGlobals mg) (g:nsIn K mainGlobals x=some (some (.ref C)))
  (l:K.lookup f=some ⟨oc,od,.func (fnOf "__init__" qual (ax st) (aw st) (af st) .none kV doc pm an bf ct),oh⟩) (c:codeIn K bf qual=true) (kp:keepIn K (.ref f)=true)
  (hb:∀(kV doc pm:Value) (an:Option Addr) (bf ct:Value) (us:List Value),us.length=ps.length→bindArgs (fnOf "__init__" qual (ax st) (aw st) (af st) .none kV doc pm an bf ct) ⟨us,[]⟩=pure (ps.zip us))
  (mk:PySem.W.makesIn K C=true) (a:PySem.W.findIn K (.ref C) "__init__"=some (some (.ref f))) (fn:PySem.W.isFn K (.ref f)=true) (kc:keepIn K (.ref C)=true)
  (y1:PySem.W.plainGet K C Str.empty=true) (y2:PySem.W.hasDictIn K C=true) (y3:PySem.W.plainOver K C=true) (y4:PySem.W.findIn K (.ref C) "__setattr__"=some (some (.builtin "object.__setattr__"))):DG K mg x C qual st ps:=by
 have F:=ot (st:=st) l c kp
 exact⟨⟨f,_,F,⟨mk,a,fn,kc⟩,F.binds hb⟩,PySem.W.mg_of X G g,⟨y1,y2,y3,y4⟩⟩
end
section
variable {X:Cx}{k:Nat}{x m:Str}{C:Addr}{sp:Sp}{p pos apos:Pos}{o e:Expr}{es:List Expr}{ta:TE}{t:TA}
theorem zv {pl:Sem Bool}(D:xV X.prog X.w X.K X.mg X.base k C m sp) (hr:bK k X.A) (he:PE X o ta) (ha:PA X (e::es) t)
  (BJ:starEach (e::es) X.env=(false,eval e X.env)::starEach es X.env:=by rfl) (lG:(backTo pos (starEach es X.env)).any (·.1)=false:=by rfl)
  (ht:eval (.Call (.Attribute o m apos) (e::es) [] pos) X.env=(do
   let ov ←eval o X.env
   standAt apos.atName
   let (f,first) ←holding [ov] (getMethod ov m pl)
   callWith pos f first (backTo pos (starEach (e::es) X.env)) (backToKw pos (keywordEach [] X.env))):=by rfl):PE X (.Call (.Attribute o m apos) (e::es) [] pos) (yK C m sp [] E0 ta t):=by
 obtain⟨f,fd,ps,F,hm,hb⟩:=D.ex
 exact Fy he D.c hm F hr hb .nil yP ha BJ lG ht
theorem zw (D:GG X.prog X.w X.K X.mg X.base k x C sp) (hr:bK (k+1) X.A) (ha:PA X (e::es) t) (hg:Gl X x:=by rfl) (og:(x == ("__debug__":Str))=false:=by decide)
  (he:starEach (e::es) X.env=(false,eval e X.env)::starEach es X.env:=by rfl) (lG:(backTo pos (starEach es X.env)).any (·.1)=false:=by rfl):PE X (.Call (.Name x p) (e::es) [] pos) (Ic C sp [] E0 t):=by
 obtain⟨f,fd,ps,F,M,hb⟩:=D.ex
 exact Fz M F hr hg D.m hb .nil yP ha og he lG
theorem tG (K:Frag) {f:Str}(he:PE X e ta) (hK:X.K=K:=by rfl) (hb:attributeBase e f X.env (eval e X.env)=eval e X.env:=by rfl):PE X (.Attribute e f pos) (MH K ta f):=hK▸Jx he hb
theorem zB (K:Frag) {f:Str}{value:Expr}{tv:TE}{pos':Pos}(ha:PE X o ta) (hv:PE X value tv) (hK:X.K=K:=by rfl) (hs:swapsWith value (some (.Attribute o f pos')) pos.line X.env=pure false:=by rfl):PS X (.Assign [.Attribute o f pos'] value pos) (MI K ta tv f):=hK▸Jy ha hv hs
end
noncomputable abbrev Te:=Bool→Keyed→Array Keyed→Nat→Nat→Nat→StateT SortSt Sem (Option Nat)
noncomputable abbrev NO:=Array Keyed→Array Keyed→StateT SortSt Sem (Array Keyed)
noncomputable abbrev Tf:=Nat→StateT SortSt Sem Unit
noncomputable abbrev DH:Te:=sortPriv% PySem.Builtin.gallop
noncomputable abbrev Tg:NO:=sortPriv% PySem.Builtin.mergeLo
noncomputable abbrev Th:NO:=sortPriv% PySem.Builtin.mergeHi
noncomputable abbrev smg:Tf:=sortPriv% PySem.Builtin.setMinGallop
noncomputable def tH (kf:Keyed→Nat) (left:Bool) (key x:Keyed):Bool:=if left then decide (kf x<kf key) else !decide (kf key<kf x)
section
variable {prog:Program}{w:World}{A:Around}{E:Value→Shared→Prop}{s:Shared}{kd:SortKind}{kf:Keyed→Nat}{z:Array Keyed}{st:SortSt}
theorem Jg2 {ι κ:Sort _}{C G:ι→κ→Prop}{A:Prop}(h:(∀i j,C i j→G i j)→A) (k:∀i j,C i j→G i j):A:=h k
theorem vN (C:oN prog w A s kd kf z) (hk:kindOf st=kd) {x y:Keyed}{Q:Option Bool→SortSt→Prop}(hx:x∈z.toList) (hy:y∈z.toList) (h:Q (some (decide (kf x<kf y))) st):wpS (model prog w) A E s (lt' x y) Q st:=by
 rw[lt'_eq]
 refine wpS_bind (wpS_get ?_)
 rw[hk]
 exact wpS_bind (wpS_lift (wpAny_attempt (C x y _ _ hx hy ⟨rfl,wpS_pure h⟩)))
theorem bD {arr:Array Keyed}{i:Nat}{x:Keyed}{Q:Keyed→SortSt→Prop}(e:arr[i]?=some x) (h:Q x st):wpS (model prog w) A E s (elem' arr i) Q st:=by
 rw[elem'_eq,e]
 exact wpS_pure h
theorem GI (C:oN prog w A s kd kf z) (hk:kindOf st=kd) {left:Bool}{key x:Keyed}{arr:Array Keyed}{base i:Nat}{Q:Option Bool→SortSt→Prop}(e:arr[base+i]?=some x) (hx:x∈z.toList) (hy:key∈z.toList) (h:Q (some (tH kf left key x)) st):wpS (model prog w) A E s (elem' arr (base+i) >>= fun x=>if left=true then lt' x key else lt' key x >>= fun r=>pure (r.map fun b=>!b)) Q st:=by
 refine wpS_bind (bD e ?_)
 cases left with
 | true=>exact vN C hk hx hy h
 | false=>exact wpS_bind (vN C hk hy hx (wpS_pure h))
theorem tI (C:oN prog w A s kd kf z) (hk:kindOf st=kd) {left:Bool}{key:Keyed}{arr:Array Keyed}{base n hint:Nat}{xs:Nat→Keyed}{Q:Option Nat→SortSt→Prop}(hy:key∈z.toList) (hh:hint<n)
  (he:∀i,i<n→arr[base+i]?=some (xs i)∧xs i∈z.toList) (hm:∀i j,i<j→j<n→tH kf left key (xs j)=true→tH kf left key (xs i)=true)
  (h:∀k,k≤n→(∀i,i<k→tH kf left key (xs i)=true)→(∀i,k≤i→i<n→tH kf left key (xs i)=false)→Q (some k) st):wpS (model prog w) A E s (DH left key arr base n hint) Q st:=by
 generalize hb:(fun i=>tH kf left key (xs i))=b at hm h
 have iQ:∀i,tH kf left key (xs i)=b i:=fun i=>by rw[←hb]
 simp only[iQ] at hm h
 clear hb
 have dn:∀i j,i≤j→j<n→b j=true→b i=true:=fun i j h1 h2 h3=>by
  rcases Nat.lt_or_eq_of_le h1 with q|rfl
  ·exact hm i j q h2 h3
  ·exact h3
 have up:∀i j,i≤j→j<n→b i=false→b j=false:=fun i j h1 h2 h3=>by
  cases q:b j with
  | false=>rfl
  | true=>rw[dn i j h1 h2 q] at h3;cases h3
 have bo:∀{i}{Q:Option Bool→SortSt→Prop}{wI:SortSt},i<n→wI=st→Q (some (b i)) wI→wpS (model prog w) A E s (elem' arr (base+i) >>= fun x=>if left=true then lt' x key else lt' key x >>= fun r=>pure (r.map fun b=>!b)) Q wI:=fun {i Q wI} hi e q=>by
  subst e
  exact GI C hk (he i hi).1 (he i hi).2 hy (by rw[iQ i];exact q)
 refine wpS_bind (bo hh rfl ?_)
 refine Jg2 (C:=fun lo hi=>lo≤hi∧hi≤n∧(∀i,i<lo→b i=true)∧(∀i,hi≤i→i<n→b i=false)) (G:=?G) (fun fin=>?ja) ?jk
 case ja =>
  dsimp only
  cases hbh:b hint with
  | true =>
   rw[if_pos rfl]
   refine wpS_bind (wpS_mono (wpS_forRange (Q:=fun c q=>q=st∧∃l o,c=(none,l,o)∧l<o∧l<n-hint∧b (hint+l)=true∧(n-hint≤o∨(o<n-hint∧b (hint+o)=false))) (fun x c q=>q=st∧∃l o,c=(none,l,o)∧l<o∧l<n-hint∧b (hint+l)=true∧x+1≤o) (fun x c q _ hx hI=>?_) (fun c q hI=>?_) ⟨rfl,0,1,rfl,by omega,by omega,hbh,by omega⟩) fun c q hI=>?_)
   ·obtain⟨hq,l,o,rfl,g1,g2,g3,g4⟩:=hI
    rw[hq]
    dsimp only
    by_cases hc:o ≥ n-hint
    ·rw[if_pos hc]
     exact wpS_pure ⟨rfl,l,o,rfl,g1,g2,g3,.inl hc⟩
    ·rw[if_neg hc]
     refine wpS_bind (bo (by omega) rfl ?_)
     dsimp only
     cases IJ:b (hint+o) with
     | true=>exact wpS_pure ⟨rfl,_,_,rfl,by omega,by omega,IJ,by omega⟩
     | false=>exact wpS_pure ⟨rfl,_,_,rfl,g1,g2,g3,.inr ⟨by omega,IJ⟩⟩
   ·obtain⟨hq,l,o,rfl,g1,g2,g3,g4⟩:=hI
    rw[hq]
    exact⟨rfl,l,o,rfl,g1,g2,g3,.inl (by omega)⟩
   ·obtain⟨hq,l,o,rfl,g1,g2,g3,g4⟩:=hI
    rw[hq]
    dsimp only
    have Ti:hint+l+1≤hint+min o (n-hint)∧hint+min o (n-hint)≤n∧(∀i,i<hint+l+1→b i=true)∧(∀i,hint+min o (n-hint)≤i→i<n→b i=false):=⟨by omega,by omega,fun i hi=>dn i (hint+l) (by omega) (by omega) g3,fun i h1 h2=>by
     rcases g4 with g4|⟨g4,g5⟩
     ·omega
     ·exact up (hint+o) i (by omega) h2 g5⟩
    generalize hint+l+1=lo1 at Ti ⊢
    generalize hint+min o (n-hint)=hi1 at Ti ⊢
    exact fin lo1 hi1 Ti
  | false =>
   rw[if_neg (by decide)]
   refine wpS_bind (wpS_mono (wpS_forRange (Q:=fun c q=>q=st∧∃l o,c=(none,l,o)∧l<o∧l<hint+1∧b (hint-l)=false∧(hint+1≤o∨(o<hint+1∧b (hint-o)=true))) (fun x c q=>q=st∧∃l o,c=(none,l,o)∧l<o∧l<hint+1∧b (hint-l)=false∧x+1≤o) (fun x c q _ hx hI=>?_) (fun c q hI=>?_) ⟨rfl,0,1,rfl,by omega,by omega,hbh,by omega⟩) fun c q hI=>?_)
   ·obtain⟨hq,l,o,rfl,g1,g2,g3,g4⟩:=hI
    rw[hq]
    dsimp only
    by_cases hc:o ≥ hint+1
    ·rw[if_pos hc]
     exact wpS_pure ⟨rfl,l,o,rfl,g1,g2,g3,.inl hc⟩
    ·rw[if_neg hc]
     refine wpS_bind (bo (by omega) rfl ?_)
     dsimp only
     cases IJ:b (hint-o) with
     | true=>exact wpS_pure ⟨rfl,_,_,rfl,g1,g2,g3,.inr ⟨by omega,IJ⟩⟩
     | false=>exact wpS_pure ⟨rfl,_,_,rfl,by omega,by omega,IJ,by omega⟩
   ·obtain⟨hq,l,o,rfl,g1,g2,g3,g4⟩:=hI
    rw[hq]
    exact⟨rfl,l,o,rfl,g1,g2,g3,.inl (by omega)⟩
   ·obtain⟨hq,l,o,rfl,g1,g2,g3,g4⟩:=hI
    rw[hq]
    dsimp only
    exact fin (hint+1-min o (hint+1)) (hint-l) ⟨by omega,by omega,fun i hi=>by
     rcases g4 with g4|⟨g4,g5⟩
     ·omega
     ·exact dn i (hint-o) (by omega) (by omega) g5,fun i h1 h2=>up (hint-l) i (by omega) h2 g3⟩
 case jk =>
  rintro lo hi ⟨h1,h2,h3,h4⟩
  refine wpS_bind (wpS_mono (wpS_forRange (Q:=fun c q=>q=st∧∃k,c=(none,k,k)∧k≤n∧(∀i,i<k→b i=true)∧(∀i,k≤i→i<n→b i=false)) (fun x c q=>q=st∧∃lo hi,c=(none,lo,hi)∧lo≤hi∧hi≤n∧hi-lo+x≤n∧(∀i,i<lo→b i=true)∧(∀i,hi≤i→i<n→b i=false)) (fun x c q _ hx hI=>?_) (fun c q hI=>?_) ⟨rfl,lo,hi,rfl,h1,h2,by omega,h3,h4⟩) fun c q hI=>?_)
  ·obtain⟨rfl,lo,hi,rfl,g1,g2,g3,g4,g5⟩:=hI
   dsimp only
   by_cases hc:lo ≥ hi
   ·rw[if_pos hc]
    obtain rfl:lo=hi:=by omega
    exact wpS_pure ⟨rfl,lo,rfl,g2,g4,g5⟩
   ·rw[if_neg hc]
    refine wpS_bind (bo (by omega) rfl ?_)
    dsimp only
    cases IJ:b (lo+(hi-lo)/2) with
    | true =>
     rw[if_pos rfl]
     exact wpS_pure ⟨rfl,_,_,rfl,by omega,g2,by omega,fun i E3=>dn i _ (by omega) (by omega) IJ,g5⟩
    | false =>
     rw[if_neg (by decide)]
     exact wpS_pure ⟨rfl,_,_,rfl,by omega,by omega,by omega,g4,fun i h1 h2=>up _ i h1 h2 IJ⟩
  ·obtain⟨rfl,lo,hi,rfl,g1,g2,g3,g4,g5⟩:=hI
   obtain rfl:lo=hi:=by omega
   exact⟨rfl,lo,rfl,g2,g4,g5⟩
  ·obtain⟨rfl,k,rfl,g2,g4,g5⟩:=hI
   exact wpS_pure (h k g2 g4 g5)
end
structure Mg (R:Keyed→Keyed→Prop) (la lb o:List Keyed) (ia ib:Nat):Prop where
 a:ia≤la.length
 b:ib≤lb.length
 s:o.Pairwise R
 c:∀x∈o,∀y,y∈la.drop ia∨y∈lb.drop ib→R x y
 p:o.Perm (la.take ia++lb.take ib)
noncomputable def tJ (R:Keyed→Keyed→Prop) (la lb r:List Keyed):Prop:=r.Pairwise R∧r.Perm (la++lb)
theorem NP {α:Type}(A1 B1 A2 B2:List α):((A1++B1)++(A2++B2)).Perm ((A1++A2)++(B1++B2)):=by
 simp only[List.append_assoc]
 refine List.Perm.append_left A1 ?_
 rw[←List.append_assoc,←List.append_assoc]
 exact List.Perm.append_right B2 List.perm_append_comm
section
variable {R:Keyed→Keyed→Prop}{la lb o:List Keyed}{ia ib:Nat}
theorem Mg.symm (h:Mg R la lb o ia ib):Mg R lb la o ib ia:=⟨h.b,h.a,h.s,fun x hx y hy=>h.c x hx y hy.symm,h.p.trans List.perm_append_comm⟩
theorem Mg.nil:Mg R la lb [] 0 0:=⟨Nat.zero_le _,Nat.zero_le _,.nil,fun x hx=>(nomatch hx),by simp⟩
theorem Mg.GJ (h:Mg R la lb o ia ib) (sa:la.Pairwise R) {k:Nat}(hk:ia+k≤la.length) (hc:∀x∈(la.drop ia).take k,∀y∈lb.drop ib,R x y):Mg R la lb (o++(la.drop ia).take k) (ia+k) ib:=by
 have sd:(la.drop ia).Pairwise R:=sa.sublist (List.drop_sublist ..)
 have e:(la.drop ia).take k++la.drop (ia+k)=la.drop ia:=by rw[←List.drop_drop,List.take_append_drop]
 refine⟨hk,h.b,List.pairwise_append.mpr ⟨h.s,sd.sublist (List.take_sublist ..),fun x hx y hy=>h.c x hx y (.inl (List.mem_of_mem_take hy))⟩,fun x hx y hy=>?_,?_⟩
 ·rcases mem_append.mp hx with hx|hx
  ·rcases hy with hy|hy
   ·exact h.c x hx y (.inl (by rw[←e];exact mem_append_right _ hy))
   ·exact h.c x hx y (.inr hy)
  ·rcases hy with hy|hy
   ·rw[←e] at sd
    exact(List.pairwise_append.mp sd).2.2 x hx y hy
   ·exact hc x hx y hy
 ·rw[List.take_add]
  refine(List.Perm.append_right _ h.p).trans ?_
  rw[List.append_assoc,List.append_assoc]
  exact List.Perm.append_left _ List.perm_append_comm
theorem Mg.NQ (h:Mg R la lb o ia ib) (sb:lb.Pairwise R) {k:Nat}(hk:ib+k≤lb.length) (hc:∀x∈(lb.drop ib).take k,∀y∈la.drop ia,R x y):Mg R la lb (o++(lb.drop ib).take k) ia (ib+k):=(h.symm.GJ sb hk hc).symm
theorem take_one {α:Type}{l:List α}{i:Nat}{x:α}(e:l[i]?=some x):(l.drop i).take 1=[x]:=by
 obtain⟨h,rfl⟩:=List.getElem?_eq_some_iff.mp e
 rw[List.drop_eq_getElem_cons h];rfl
theorem Mg.rQ (h:Mg R la lb o ia ib) (sa:la.Pairwise R) {x:Keyed}(e:la[ia]?=some x) (hc:∀y∈lb.drop ib,R x y):Mg R la lb (o++[x]) (ia+1) ib:=by
 have:=h.GJ sa (k:=1) (List.getElem?_eq_some_iff.mp e).1 (by rw[take_one e];intro y hy;rw[mem_singleton.mp hy];exact hc)
 rw[take_one e] at this;exact this
theorem Mg.vO (h:Mg R la lb o ia ib) (sb:lb.Pairwise R) {x:Keyed}(e:lb[ib]?=some x) (hc:∀y∈la.drop ia,R x y):Mg R la lb (o++[x]) ia (ib+1):=(h.symm.rQ sb e hc).symm
theorem Mg.close (h:Mg R la lb o ia ib) {t:List Keyed}(st:t.Pairwise R) (pt:t.Perm (la.drop ia++lb.drop ib)):tJ R la lb (o++t):=by
 refine⟨List.pairwise_append.mpr ⟨h.s,st,fun x hx y hy=>h.c x hx y (mem_append.mp (pt.mem_iff.mp hy))⟩,?_⟩
 have:=(h.p.append pt).trans (NP ..)
 rw[List.take_append_drop,List.take_append_drop] at this
 exact this
end
noncomputable def Gs (st q:SortSt):Prop:=kindOf q=kindOf st∧arrOf q=arrOf st∧pendingOf q=pendingOf st∧failedOf q=failedOf st
theorem zC (a:Array Keyed) (i k:Nat):(a.extract i (i+k)).toList=(a.toList.drop i).take k:=by
 rw[Array.toList_extract,List.extract_eq_drop_take',List.drop_take];congr 1;omega
theorem tK (a:Array Keyed) (i:Nat):(a.extract i a.size).toList=a.toList.drop i:=by
 rw[Array.toList_extract,List.extract_eq_drop_take',←Array.length_toList,take_length]
section
variable {prog:Program}{w:World}{A:Around}{E:Value→Shared→Prop}{s:Shared}{kd:SortKind}{kf:Keyed→Nat}{z:Array Keyed}{st:SortSt}
theorem tL {n:Nat}{Q:Unit→SortSt→Prop}{q:SortSt}(g:Gs st q) (h:∀q',Gs st q'→Q () q'):wpS (model prog w) A E s (smg n) Q q:=wpS_modify (h _ g)
theorem ft {l:List Keyed}{i:Nat}{x:Keyed}(e:l[i]?=some x) {R:Keyed→Keyed→Prop}(h:l.Pairwise R) (r:R x x):∀y∈l.drop i,R x y:=fun y hy=>by
 obtain⟨hi,rfl⟩:=List.getElem?_eq_some_iff.mp e
 have sd:=h.sublist (List.drop_sublist i l)
 rw[List.drop_eq_getElem_cons hi] at hy sd
 rcases List.mem_cons.mp hy with rfl|hy
 ·exact r
 ·exact(pairwise_cons.mp sd).1 y hy
end
theorem Jn1 {ι:Sort _}{G:ι→Prop}{A:Prop}(h:(∀i,G i)→A) (k:∀i,G i):A:=h k
theorem NR {ι κ:Sort _}{C G:ι→κ→Prop}{A:Prop}(h:(∀i j,C i j→G i j)→A) (k:∀i j,C i j→G i j):A:=h k
noncomputable def fD (kf:Keyed→Nat) (x y:Keyed):Prop:=kf x≤kf y
section
variable {prog:Program}{w:World}{A:Around}{E:Value→Shared→Prop}{s:Shared}{kd:SortKind}{kf:Keyed→Nat}{z:Array Keyed}{st:SortSt}
theorem di {a:Array Keyed}(ha:∀x∈a.toList,x∈z.toList) {i:Nat}(hi:i<a.size):∃x,a[i]?=some x∧a.toList[i]?=some x∧x∈z.toList :=
 ⟨a[i],Array.getElem?_eq_getElem hi,by rw[Array.getElem?_toList];exact Array.getElem?_eq_getElem hi,ha _ (Array.mem_toList_iff.mpr (Array.getElem_mem hi))⟩
theorem IK (C:oN prog w A s kd kf z) {q:SortSt}(hk:kindOf q=kd) {key:Keyed}{a:Array Keyed}(ha:∀x∈a.toList,x∈z.toList) (sa:a.toList.Pairwise (fD kf)) {base n hint:Nat}{Q:Option Nat→SortSt→Prop}(hy:key∈z.toList) (hh:hint<n) (hn:base+n≤a.size)
  (h:∀k,k≤n→(∀i x,i<k→a.toList[base+i]?=some x→kf x≤kf key)→(∀i x,k≤i→i<n→a.toList[base+i]?=some x→kf key<kf x)→Q (some k) q):wpS (model prog w) A E s (DH false key a base n hint) Q q:=by
 refine tI C hk (xs:=fun i=>(a[base+i]?).getD key) hy hh (fun i hi=>?_) (fun i j gv hj hb=>?_) fun k Gg h1 h2=>h k Gg (fun i x hi hx=>?_) (fun i x hi uM hx=>?_)
 ·obtain⟨x,h1,_,h3⟩:=di ha (i:=base+i) (by omega)
  rw[h1];exact⟨rfl,h3⟩
 ·obtain⟨x,x1,x2,_⟩:=di ha (i:=base+i) (by omega)
  obtain⟨y,y1,y2,_⟩:=di ha (i:=base+j) (by omega)
  rw[y1] at hb
  rw[x1]
  have hle:kf x≤kf y:=by
   obtain⟨u1,e1⟩:=List.getElem?_eq_some_iff.mp x2
   obtain⟨u2,e2⟩:=List.getElem?_eq_some_iff.mp y2
   have:=List.pairwise_iff_getElem.mp sa (base+i) (base+j) u1 u2 (by omega)
   rw[e1,e2] at this;exact this
  unfold tH at hb ⊢
  rw[if_neg (by decide)] at hb ⊢
  rw[Bool.not_eq_true',decide_eq_false_iff_not] at hb ⊢
  show ¬kf key<kf x
  have hb:¬kf key<kf y:=hb
  omega
 ·have:=h1 i hi
  rw[Array.getElem?_toList] at hx
  rw[hx] at this
  unfold tH at this
  rw[if_neg (by decide),Bool.not_eq_true',decide_eq_false_iff_not] at this
  exact Nat.le_of_not_lt this
 ·have:=h2 i hi uM
  rw[Array.getElem?_toList] at hx
  rw[hx] at this
  unfold tH at this
  rw[if_neg (by decide),Bool.not_eq_false',decide_eq_true_eq] at this
  exact this
theorem IL (C:oN prog w A s kd kf z) {q:SortSt}(hk:kindOf q=kd) {key:Keyed}{a:Array Keyed}(ha:∀x∈a.toList,x∈z.toList) (sa:a.toList.Pairwise (fD kf)) {base n hint:Nat}{Q:Option Nat→SortSt→Prop}(hy:key∈z.toList) (hh:hint<n) (hn:base+n≤a.size)
  (h:∀k,k≤n→(∀i x,i<k→a.toList[base+i]?=some x→kf x<kf key)→(∀i x,k≤i→i<n→a.toList[base+i]?=some x→kf key≤kf x)→Q (some k) q):wpS (model prog w) A E s (DH true key a base n hint) Q q:=by
 refine tI C hk (xs:=fun i=>(a[base+i]?).getD key) hy hh (fun i hi=>?_) (fun i j gv hj hb=>?_) fun k Gg h1 h2=>h k Gg (fun i x hi hx=>?_) (fun i x hi uM hx=>?_)
 ·obtain⟨x,h1,_,h3⟩:=di ha (i:=base+i) (by omega)
  rw[h1];exact⟨rfl,h3⟩
 ·obtain⟨x,x1,x2,_⟩:=di ha (i:=base+i) (by omega)
  obtain⟨y,y1,y2,_⟩:=di ha (i:=base+j) (by omega)
  rw[y1] at hb
  rw[x1]
  have hle:kf x≤kf y:=by
   obtain⟨u1,e1⟩:=List.getElem?_eq_some_iff.mp x2
   obtain⟨u2,e2⟩:=List.getElem?_eq_some_iff.mp y2
   have:=List.pairwise_iff_getElem.mp sa (base+i) (base+j) u1 u2 (by omega)
   rw[e1,e2] at this;exact this
  unfold tH at hb ⊢
  rw[if_pos rfl,decide_eq_true_eq] at hb ⊢
  exact Nat.lt_of_le_of_lt hle hb
 ·have:=h1 i hi
  rw[Array.getElem?_toList] at hx
  rw[hx] at this
  unfold tH at this
  rw[if_pos rfl,decide_eq_true_eq] at this
  exact this
 ·have:=h2 i hi uM
  rw[Array.getElem?_toList] at hx
  rw[hx] at this
  unfold tH at this
  rw[if_pos rfl,decide_eq_false_iff_not] at this
  exact Nat.le_of_not_lt this
theorem mem_mid {l:List Keyed}{i k:Nat}{x:Keyed}(h:x∈(l.drop i).take k):∃j,j<k∧l[i+j]?=some x:=by
 obtain⟨j,hj⟩:=mem_iff_getElem?.mp h
 rw[List.getElem?_take] at hj
 split at hj
 ·rename_i NS
  exact⟨j,NS,by rw[List.getElem?_drop] at hj;exact hj⟩
 ·cases hj
theorem mJ {l:List Keyed}{i:Nat}{x:Keyed}(h:x∈l.drop i):∃j,i+j<l.length∧l[i+j]?=some x:=by
 obtain⟨j,hj⟩:=mem_iff_getElem?.mp h
 rw[List.getElem?_drop] at hj
 exact⟨j,(List.getElem?_eq_some_iff.mp hj).1,hj⟩
theorem cD {M:Model}{α:Type}{c:Prop}[Decidable c] {p q:StateT SortSt Sem α}{Q:α→SortSt→Prop}(h1:c→wpS M A E s p Q st) (h2:¬c→wpS M A E s q Q st):wpS M A E s (if c then p else q) Q st:=by
 by_cases h:c
 ·rw[if_pos h];exact h1 h
 ·rw[if_neg h];exact h2 h
theorem KL (C:oN prog w A s kd kf z) (hk:kindOf st=kd) {a b:Array Keyed}{Q:Array Keyed→SortSt→Prop}(ha:∀x∈a.toList,x∈z.toList) (hb:∀x∈b.toList,x∈z.toList) (sa:a.toList.Pairwise (fD kf)) (sb:b.toList.Pairwise (fD kf)) (a1:1≤a.size) (b1:1≤b.size)
  (h0:∀x y,b.toList[0]?=some x→y∈a.toList→kf x≤kf y) (hl:∀x y,x∈b.toList→a.toList[a.size-1]?=some y→kf x≤kf y)
  (h:∀r q,tJ (fD kf) a.toList b.toList r.toList→Gs st q→Q r q):wpS (model prog w) A E s (Tg a b) Q st:=by
 have wK:a.toList.length=a.size:=Array.length_toList
 have vP:b.toList.length=b.size:=Array.length_toList
 have DI:∀(out:Array Keyed) (ia ib:Nat),Mg (fD kf) a.toList b.toList out.toList ia ib→(ib=b.size∨ia=a.size)→tJ (fD kf) a.toList b.toList (out++a.extract ia a.size++b.extract ib b.size).toList:=fun out ia ib m e=>by
  rw[Array.toList_append,Array.toList_append,tK,tK,List.append_assoc]
  refine m.close ?_ (.refl _)
  rcases e with rfl|rfl
  ·rw[←vP,List.drop_length,List.append_nil];exact sa.sublist (List.drop_sublist ..)
  ·rw[←wK,List.drop_length,List.nil_append];exact sb.sublist (List.drop_sublist ..)
 have lst:∀(out:Array Keyed) (ia ib:Nat),Mg (fD kf) a.toList b.toList out.toList ia ib→ia+1=a.size→tJ (fD kf) a.toList b.toList (out++b.extract ib b.size++a.extract ia a.size).toList:=fun out ia ib m e=>by
  rw[Array.toList_append,Array.toList_append,tK,tK,List.append_assoc]
  refine m.close (List.pairwise_append.mpr ⟨sb.sublist (List.drop_sublist ..),sa.sublist (List.drop_sublist ..),fun x hx y hy=>?_⟩) List.perm_append_comm
  obtain⟨j,hj,ej⟩:=mJ hy
  exact hl x y (List.mem_of_mem_drop hx) (by rw[←ej];congr 1;omega)
 refine wpS_bind (wpS_lift (wpAny_rule ⟨rfl,?_⟩))
 obtain⟨b0,eb0,NT,zb0⟩:=di hb (i:=0) (by omega)
 refine wpS_bind (bD eb0 ?_)
 have m0:Mg (fD kf) a.toList b.toList (#[b0]:Array Keyed).toList 0 1:=(Mg.nil (la:=a.toList) (lb:=b.toList)).vO sb NT (fun y hy=>h0 b0 y NT hy)
 dsimp only
 by_cases nK:1=b.size
 ·rw[if_pos (by rw[←nK];rfl)]
  exact wpS_pure (h _ _ (DI _ 0 1 m0 (.inl nK)) ⟨rfl,rfl,rfl,rfl⟩)
 rw[if_neg (by simpa using nK)]
 by_cases rR:0+1=a.size
 ·rw[if_pos (by rw[←rR];rfl)]
  exact wpS_pure (h _ _ (lst _ 0 1 m0 rR) ⟨rfl,rfl,rfl,rfl⟩)
 rw[if_neg (by simpa using rR)]
 refine wpS_bind (wpS_get ?_)
 refine wpS_bind (wpS_mono (wpS_forRange (Q:=fun c q=>Gs st q∧∃r,c.1=some r∧tJ (fD kf) a.toList b.toList r.toList) (fun x c q=>Gs st q∧∃out ia ib g,c=(none,out,ia,ib,g)∧Mg (fD kf) a.toList b.toList out.toList ia ib∧ia+1<a.size∧ib<b.size∧x≤ia+ib) (fun x c q _ hx hI=>?_) (fun c q hI=>?_) ⟨⟨rfl,rfl,rfl,rfl⟩,_,_,_,_,rfl,m0,by omega,by omega,by omega⟩) fun c q hI=>?_)
 rotate_left
 ·obtain⟨_,out,ia,ib,g,rfl,_,h1,h2,h3⟩:=hI
  exfalso;omega
 ·obtain⟨g,r,e,hr⟩:=hI
  rw[e]
  exact wpS_pure (h r q hr g)
 ·obtain⟨gs,out,ia,ib,g,rfl,mg,h1,h2,h3⟩:=hI
  have Tj:1≤a.size+b.size:=by omega
  refine wpS_bind (wpS_mono (wpS_forRange (Q:=fun c q=>Gs st q∧((∃r,c.1=some r∧tJ (fD kf) a.toList b.toList r.toList)∨∃out iq fJ ac bc,c=(none,out,iq,fJ,ac,bc)∧Mg (fD kf) a.toList b.toList out.toList iq fJ∧iq+1<a.size∧fJ<b.size∧ia+ib+1≤iq+fJ)) (fun x c q=>Gs st q∧∃out iq fJ ac bc,c=(none,out,iq,fJ,ac,bc)∧Mg (fD kf) a.toList b.toList out.toList iq fJ∧iq+1<a.size∧fJ<b.size∧iq+fJ=ia+ib+x) (fun x c q _ hx hI=>?_) (fun c q hI=>?_) ⟨gs,_,_,_,_,_,rfl,mg,h1,h2,rfl⟩) fun c q hI=>?_)
  ·clear mg h1 h2 gs
   obtain⟨gs,out,iq,fJ,ac,bc,rfl,mg,h1,h2,h4⟩:=hI
   dsimp only
   obtain⟨xb,eb,GK,zb⟩:=di hb (i:=fJ) h2
   obtain⟨xa,ea,GL,za⟩:=di ha (i:=iq) (by omega)
   refine wpS_bind (bD eb ?_)
   refine wpS_bind (bD ea ?_)
   refine wpS_bind (vN C (gs.1.trans hk) zb za ?_)
   dsimp only
   by_cases bZ:kf xb<kf xa
   ·rw[decide_eq_true bZ,if_pos rfl]
    refine wpS_bind (bD eb ?_)
    have tM:=mg.vO sb GK (fun y hy=>Nat.le_trans (Nat.le_of_lt bZ) (ft GL sa (Nat.le_refl _) y hy))
    rw[←Array.toList_push] at tM
    by_cases hd:fJ+1=b.size
    ·rw[if_pos (by simpa using hd)]
     exact wpS_pure ⟨gs,.inl ⟨_,rfl,DI _ _ _ tM (.inl hd)⟩⟩
    ·rw[if_neg (by simpa using hd)]
     refine cD (fun _=>wpS_pure ⟨gs,.inr ⟨_,_,_,_,_,rfl,tM,h1,by omega,by omega⟩⟩) (fun _=>wpS_pure ⟨gs,_,_,_,_,_,rfl,tM,h1,by omega,by omega⟩)
   ·rw[decide_eq_false bZ,if_neg (by decide)]
    refine wpS_bind (bD ea ?_)
    have tM:=mg.rQ sa GL (fun y hy=>Nat.le_trans (Nat.le_of_not_lt bZ) (ft GK sb (Nat.le_refl _) y hy))
    rw[←Array.toList_push] at tM
    by_cases hd:iq+1+1=a.size
    ·rw[if_pos (by simpa using hd)]
     exact wpS_pure ⟨gs,.inl ⟨_,rfl,lst _ _ _ tM hd⟩⟩
    ·rw[if_neg (by simpa using hd)]
     refine cD (fun _=>wpS_pure ⟨gs,.inr ⟨_,_,_,_,_,rfl,tM,by omega,h2,by omega⟩⟩) (fun _=>wpS_pure ⟨gs,_,_,_,_,_,rfl,tM,by omega,h2,by omega⟩)
  ·obtain⟨gs,out,iq,fJ,ac,bc,rfl,mg,h1,h2,h4⟩:=hI
   exact⟨gs,.inr ⟨_,_,_,_,_,rfl,mg,h1,h2,by omega⟩⟩
  ·obtain⟨gs,⟨r,e,hr⟩|⟨out,iq,fJ,ac,bc,rfl,mg,h1,h2,h4⟩⟩:=hI
   ·rw[e]
    exact wpS_pure ⟨gs,_,rfl,hr⟩
   dsimp only
   refine wpS_bind (wpS_lift (wpAny_rule ⟨rfl,?_⟩))
   refine wpS_bind (wpS_mono (wpS_forRange (Q:=fun c q=>Gs st q∧((∃r,c.1=some r∧tJ (fD kf) a.toList b.toList r.toList)∨∃out iq fJ g ac bc,c=(none,out,iq,fJ,g,ac,bc)∧Mg (fD kf) a.toList b.toList out.toList iq fJ∧iq+1<a.size∧fJ<b.size∧ia+ib+1≤iq+fJ)) (fun x c q=>Gs st q∧∃out iq fJ g ac bc,c=(none,out,iq,fJ,g,ac,bc)∧Mg (fD kf) a.toList b.toList out.toList iq fJ∧iq+1<a.size∧fJ<b.size∧ia+ib+1≤iq+fJ) (fun x c q _ hx hI=>?_) (fun c q hI=>?_) ⟨gs,_,_,_,_,_,_,rfl,mg,h1,h2,h4⟩) fun c q hI=>?_)
   ·clear mg h1 h2 h4 gs
    obtain⟨gs,out,iq,fJ,g,ac,bc,rfl,mg,h1,h2,h4⟩:=hI
    dsimp only
    refine Jn1 (ι:=Nat) (G:=?G0) (fun rest=>?j0) ?k0
    case j0 =>
     refine cD (fun _=>?_) (fun _=>?_)
     ·generalize g-1=g1
      exact rest g1
     ·exact rest g
    case k0 =>
    intro g1
    refine wpS_bind (tL gs fun q' oW=>?_)
    obtain⟨xb,eb,GK,zb⟩:=di hb (i:=fJ) h2
    refine wpS_bind (bD eb ?_)
    refine wpS_bind (IK C (oW.1.trans hk) ha sa zb (by omega) (by omega) fun k k1 k2 k3=>?_)
    dsimp only
    have E4:=mg.GJ sa (k:=k) (by omega) (fun x hx y hy=>by
     obtain⟨j,hj,ej⟩:=mem_mid hx
     exact Nat.le_trans (k2 j x hj ej) (ft GK sb (Nat.le_refl _) y hy))
    rw[←zC,←Array.toList_append] at E4
    have xW:∀y∈a.toList.drop (iq+k),kf xb≤kf y:=fun y hy=>by
     obtain⟨j,hj,ej⟩:=mJ hy
     exact Nat.le_of_lt (k3 (k+j) y (by omega) (by omega) (by rw[←ej];congr 1;omega))
    clear k2 k3
    refine NR (C:=fun(o:Array Keyed) (i:Nat)=>Mg (fD kf) a.toList b.toList o.toList i fJ∧i+1<a.size∧(∀y∈a.toList.drop i,kf xb≤kf y)∧ia+ib+1≤i+fJ) (G:=?G1) (fun rest=>?j1) ?k1
    case j1 =>
     refine cD (fun k0=>?_) (fun k0=>?_)
     ·by_cases nK:iq+k+1=a.size
      ·rw[if_pos (by simpa using nK)]
       exact wpS_pure ⟨oW,.inl ⟨_,rfl,lst _ _ _ E4 nK⟩⟩
      rw[if_neg (by simpa using nK)]
      by_cases rR:iq+k=a.size
      ·rw[if_pos (by simpa using rR)]
       exact wpS_pure ⟨oW,.inl ⟨_,rfl,DI _ _ _ E4 (.inr rR)⟩⟩
      rw[if_neg (by simpa using rR)]
      have hh:Mg (fD kf) a.toList b.toList (out++a.extract iq (iq+k)).toList (iq+k) fJ∧iq+k+1<a.size∧(∀y∈a.toList.drop (iq+k),kf xb≤kf y)∧ia+ib+1≤iq+k+fJ:=⟨E4,by omega,xW,by omega⟩
      generalize out++a.extract iq (iq+k)=mK at hh ⊢
      generalize iq+k=E5 at hh ⊢
      exact rest mK E5 hh
     ·have Tn:k=0:=by omega
      exact rest out iq ⟨mg,h1,by have:=xW;rw[Tn] at this;exact this,h4⟩
    case k1 =>
    clear E4 mg xW h1 h4
    rintro mK E5 ⟨To,hi1,xW,h5⟩
    refine wpS_bind (bD eb ?_)
    have GN:=To.vO sb GK xW
    rw[←Array.toList_push] at GN
    by_cases hd:fJ+1=b.size
    ·rw[if_pos (by simpa using hd)]
     exact wpS_pure ⟨oW,.inl ⟨_,rfl,DI _ _ _ GN (.inl hd)⟩⟩
    rw[if_neg (by simpa using hd)]
    obtain⟨xa,ea,GL,za⟩:=di ha (i:=E5) (by omega)
    refine wpS_bind (bD ea ?_)
    refine wpS_bind (IL C (oW.1.trans hk) hb sb za (by omega) (by omega) fun l l1 l2 l3=>?_)
    dsimp only
    have IM:=GN.NQ sb (k:=l) (by omega) (fun x hx y hy=>by
     obtain⟨j,hj,ej⟩:=mem_mid hx
     exact Nat.le_trans (Nat.le_of_lt (l2 j x hj ej)) (ft GL sa (Nat.le_refl _) y hy))
    rw[←zC,←Array.toList_append] at IM
    have rG:∀y∈b.toList.drop (fJ+1+l),kf xa≤kf y:=fun y hy=>by
     obtain⟨j,hj,ej⟩:=mJ hy
     exact l3 (l+j) y (by omega) (by omega) (by rw[←ej];congr 1;omega)
    clear l2 l3
    refine NR (C:=fun(o:Array Keyed) (i:Nat)=>Mg (fD kf) a.toList b.toList o.toList E5 i∧i<b.size∧(∀y∈b.toList.drop i,kf xa≤kf y)∧ia+ib+1≤E5+i) (G:=?G2) (fun rest=>?j2) ?k2
    case j2 =>
     refine cD (fun l0=>?_) (fun l0=>?_)
     ·by_cases nK:fJ+1+l=b.size
      ·rw[if_pos (by simpa using nK)]
       exact wpS_pure ⟨oW,.inl ⟨_,rfl,DI _ _ _ IM (.inl nK)⟩⟩
      rw[if_neg (by simpa using nK)]
      have hh:Mg (fD kf) a.toList b.toList (mK.push xb++b.extract (fJ+1) (fJ+1+l)).toList E5 (fJ+1+l)∧fJ+1+l<b.size∧(∀y∈b.toList.drop (fJ+1+l),kf xa≤kf y)∧ia+ib+1≤E5+(fJ+1+l):=⟨IM,by omega,rG,by omega⟩
      generalize mK.push xb++b.extract (fJ+1) (fJ+1+l)=DJ at hh ⊢
      generalize fJ+1+l=ib2 at hh ⊢
      exact rest DJ ib2 hh
     ·have Tp:l=0:=by omega
      have hh:Mg (fD kf) a.toList b.toList (mK.push xb).toList E5 (fJ+1)∧fJ+1<b.size∧(∀y∈b.toList.drop (fJ+1),kf xa≤kf y)∧ia+ib+1≤E5+(fJ+1):=⟨GN,by omega,by have:=rG;rw[Tp] at this;exact this,by omega⟩
      exact rest (mK.push xb) (fJ+1) hh
    case k2 =>
    rintro DJ ib2 ⟨Tq,IP,rG,h6⟩
    refine wpS_bind (bD ea ?_)
    have GO:=Tq.rQ sa GL rG
    rw[←Array.toList_push] at GO
    by_cases hd:E5+1+1=a.size
    ·rw[if_pos (by simpa using hd)]
     exact wpS_pure ⟨oW,.inl ⟨_,rfl,lst _ _ _ GO hd⟩⟩
    rw[if_neg (by simpa using hd)]
    exact cD (fun _=>wpS_pure ⟨oW,.inr ⟨_,_,_,_,_,_,rfl,GO,by omega,IP,by omega⟩⟩) (fun _=>wpS_pure ⟨oW,_,_,_,_,_,_,rfl,GO,by omega,IP,by omega⟩)
   ·obtain⟨gs,out,iq,fJ,g,ac,bc,rfl,mg,h1,h2,h4⟩:=hI
    exact⟨gs,.inr ⟨_,_,_,_,_,_,rfl,mg,h1,h2,h4⟩⟩
   ·obtain⟨gs,⟨r,e,hr⟩|⟨out,iq,fJ,g,ac,bc,rfl,mg,h1,h2,h4⟩⟩:=hI
    ·rw[e]
     exact wpS_pure ⟨gs,_,rfl,hr⟩
    dsimp only
    refine wpS_bind (tL gs fun q' oW=>?_)
    exact wpS_pure ⟨oW,_,_,_,_,rfl,mg,h1,h2,by omega⟩
end
noncomputable def vQ (kf:Keyed→Nat) (x y:Keyed):Prop:=kf y≤kf x
theorem ke {l:List Keyed}(n:Nat):(l.take n).reverse=l.reverse.drop (l.length-n):=List.reverse_take
theorem vR {l:List Keyed}{n:Nat}{x:Keyed}(h:1≤n) (hn:n≤l.length) (e:l[n-1]?=some x):l.reverse[l.length-n]?=some x:=by
 rw[List.getElem?_reverse (by omega),←e];congr 1;omega
theorem xX {l:List Keyed}{n:Nat}{x:Keyed}(h:x∈l.reverse.drop (l.length-n)):∃i,i<n∧l[i]?=some x:=by
 rw[←ke,List.mem_reverse] at h
 obtain⟨j,hj⟩:=mem_iff_getElem?.mp h
 rw[List.getElem?_take] at hj
 split at hj
 ·rename_i NS;exact⟨j,NS,hj⟩
 ·cases hj
theorem xY {l:List Keyed}{k n:Nat}(hn:n≤l.length):((l.take n).drop k).reverse=(l.reverse.drop (l.length-n)).take (n-k):=by
 rw[←ke,List.reverse_drop,length_take,Nat.min_eq_left hn]
theorem rS {l:List Keyed}{k n:Nat}{x:Keyed}(hn:n≤l.length) (h:x∈(l.reverse.drop (l.length-n)).take (n-k)):∃i,k≤i∧i<n∧l[i]?=some x:=by
 rw[←xY hn,List.mem_reverse] at h
 obtain⟨j,hj⟩:=mem_iff_getElem?.mp h
 rw[List.getElem?_drop,List.getElem?_take] at hj
 split at hj
 ·rename_i NS;exact⟨k+j,by omega,NS,hj⟩
 ·cases hj
theorem IQ (a:Array Keyed) (k n:Nat):(a.extract k n).reverse.toList=((a.toList.take n).drop k).reverse:=by
 rw[Array.toList_reverse,Array.toList_extract,List.extract_eq_drop_take']
theorem GP (a:Array Keyed) (n:Nat):(a.extract 0 n).toList=a.toList.take n:=by
 rw[Array.toList_extract,List.extract_eq_drop_take'];rfl
theorem tJ.rv {kf:Keyed→Nat}{la lb r:List Keyed}(h:tJ (vQ kf) la.reverse lb.reverse r.reverse):tJ (fD kf) la lb r:=by
 refine⟨(List.pairwise_reverse.mp h.1).imp fun h=>h,?_⟩
 have:=h.2
 exact((List.reverse_perm r).symm.trans this).trans ((List.reverse_perm la).append (List.reverse_perm lb))
section
variable {prog:Program}{w:World}{A:Around}{E:Value→Shared→Prop}{s:Shared}{kd:SortKind}{kf:Keyed→Nat}{z:Array Keyed}{st:SortSt}
theorem KN (C:oN prog w A s kd kf z) (hk:kindOf st=kd) {a b:Array Keyed}{Q:Array Keyed→SortSt→Prop}(ha:∀x∈a.toList,x∈z.toList) (hb:∀x∈b.toList,x∈z.toList) (sa:a.toList.Pairwise (fD kf)) (sb:b.toList.Pairwise (fD kf)) (a1:1≤a.size) (b1:1≤b.size)
  (h0:∀x y,b.toList[0]?=some x→y∈a.toList→kf x≤kf y) (hl:∀x y,x∈b.toList→a.toList[a.size-1]?=some y→kf x≤kf y)
  (h:∀r q,tJ (fD kf) a.toList b.toList r.toList→Gs st q→Q r q):wpS (model prog w) A E s (Th a b) Q st:=by
 have wK:a.toList.length=a.size:=Array.length_toList
 have vP:b.toList.length=b.size:=Array.length_toList
 have ra:a.toList.reverse.Pairwise (vQ kf):=List.pairwise_reverse.mpr (sa.imp fun h=>h)
 have rb:b.toList.reverse.Pairwise (vQ kf):=List.pairwise_reverse.mpr (sb.imp fun h=>h)
 have DI:∀(out:Array Keyed) (na nb:Nat),Mg (vQ kf) a.toList.reverse b.toList.reverse out.toList (a.toList.length-na) (b.toList.length-nb)→(na=0∨nb=0)→tJ (fD kf) a.toList b.toList (a.extract 0 na++b.extract 0 nb++out.reverse).toList:=fun out na nb m e=>by
  refine tJ.rv ?_
  rw[Array.toList_append,Array.toList_append,Array.toList_reverse,List.reverse_append,List.reverse_reverse,GP,GP,List.reverse_append,ke,ke]
  refine m.close ?_ List.perm_append_comm
  rcases e with rfl|rfl
  ·rw[Nat.sub_zero,←List.length_reverse (as:=a.toList),List.drop_length,List.append_nil];exact rb.sublist (List.drop_sublist ..)
  ·rw[Nat.sub_zero,←List.length_reverse (as:=b.toList),List.drop_length,List.nil_append];exact ra.sublist (List.drop_sublist ..)
 have fst:∀(out:Array Keyed) (na nb:Nat),Mg (vQ kf) a.toList.reverse b.toList.reverse out.toList (a.toList.length-na) (b.toList.length-nb)→nb=1→tJ (fD kf) a.toList b.toList (b.extract 0 nb++a.extract 0 na++out.reverse).toList:=fun out na nb m e=>by
  refine tJ.rv ?_
  rw[Array.toList_append,Array.toList_append,Array.toList_reverse,List.reverse_append,List.reverse_reverse,GP,GP,List.reverse_append,ke,ke]
  refine m.close (List.pairwise_append.mpr ⟨ra.sublist (List.drop_sublist ..),rb.sublist (List.drop_sublist ..),fun x hx y hy=>?_⟩) (.refl _)
  obtain⟨j,hj,ej⟩:=xX hy
  obtain rfl:j=0:=by omega
  exact h0 y x ej (List.mem_reverse.mp (List.mem_of_mem_drop hx))
 refine wpS_bind (wpS_lift (wpAny_rule ⟨rfl,?_⟩))
 obtain⟨x0,ex0,NU,zx0⟩:=di ha (i:=a.size-1) (by omega)
 refine wpS_bind (bD ex0 ?_)
 have m0:Mg (vQ kf) a.toList.reverse b.toList.reverse (#[x0]:Array Keyed).toList (a.toList.length-(a.size-1)) (b.toList.length-b.size):=by
  have:=(Mg.nil (R:=vQ kf) (la:=a.toList.reverse) (lb:=b.toList.reverse)).rQ ra (x:=x0) (by have:=vR (l:=a.toList) (n:=a.size) (by omega) (by omega) NU;rw[wK,Nat.sub_self] at this;exact this) (fun y hy=>hl y x0 (List.mem_reverse.mp (List.mem_of_mem_drop hy)) NU)
  rw[wK,vP,Nat.sub_self,show a.size-(a.size-1)=0+1 by omega]
  exact this
 dsimp only
 by_cases nK:a.size-1=0
 ·rw[if_pos (by rw[nK];rfl)]
  exact wpS_pure (h _ _ (DI _ _ _ m0 (.inl nK)) ⟨rfl,rfl,rfl,rfl⟩)
 rw[if_neg (by simpa using nK)]
 by_cases rR:b.size=1
 ·rw[if_pos (by rw[rR];rfl)]
  exact wpS_pure (h _ _ (fst _ _ _ m0 rR) ⟨rfl,rfl,rfl,rfl⟩)
 rw[if_neg (by simpa using rR)]
 refine wpS_bind (wpS_get ?_)
 refine wpS_bind (wpS_mono (wpS_forRange (Q:=fun c q=>Gs st q∧∃r,c.1=some r∧tJ (fD kf) a.toList b.toList r.toList) (fun x c q=>Gs st q∧∃na nb out g,c=(none,na,nb,out,g)∧Mg (vQ kf) a.toList.reverse b.toList.reverse out.toList (a.toList.length-na) (b.toList.length-nb)∧1≤na∧na≤a.size∧2≤nb∧nb≤b.size∧x+na+nb≤a.size+b.size) (fun x c q _ hx hI=>?_) (fun c q hI=>?_) ⟨⟨rfl,rfl,rfl,rfl⟩,_,_,_,_,rfl,m0,by omega,by omega,by omega,by omega,by omega⟩) fun c q hI=>?_)
 rotate_left
 ·obtain⟨_,na,nb,out,g,rfl,_,h1,h2,h3,h4,h5⟩:=hI
  exfalso;omega
 ·obtain⟨g,r,e,hr⟩:=hI
  rw[e]
  exact wpS_pure (h r q hr g)
 ·obtain⟨gs,na,nb,out,g,rfl,mg,h1,h2,h3,h4,h5⟩:=hI
  dsimp only
  refine wpS_bind (wpS_mono (wpS_forRange (Q:=fun c q=>Gs st q∧((∃r,c.1=some r∧tJ (fD kf) a.toList b.toList r.toList)∨∃ie eW out ac bc,c=(none,ie,eW,out,ac,bc)∧Mg (vQ kf) a.toList.reverse b.toList.reverse out.toList (a.toList.length-ie) (b.toList.length-eW)∧1≤ie∧ie≤a.size∧2≤eW∧eW≤b.size∧ie+eW+1≤na+nb)) (fun x c q=>Gs st q∧∃ie eW out ac bc,c=(none,ie,eW,out,ac,bc)∧Mg (vQ kf) a.toList.reverse b.toList.reverse out.toList (a.toList.length-ie) (b.toList.length-eW)∧1≤ie∧ie≤a.size∧2≤eW∧eW≤b.size∧ie+eW+x=na+nb) (fun x c q _ hx hI=>?_) (fun c q hI=>?_) ⟨gs,_,_,_,_,_,rfl,mg,h1,h2,h3,h4,rfl⟩) fun c q hI=>?_)
  ·clear mg h1 h2 h3 h4 gs
   obtain⟨gs,ie,eW,out,ac,bc,rfl,mg,h1,h2,h3,h4,h6⟩:=hI
   dsimp only
   obtain⟨xb,eb,GK,zb⟩:=di hb (i:=eW-1) (by omega)
   obtain⟨xa,ea,GL,za⟩:=di ha (i:=ie-1) (by omega)
   have DK:=vR (by omega) (by omega) GK
   have KO:=vR (by omega) (by omega) GL
   refine wpS_bind (bD eb ?_)
   refine wpS_bind (bD ea ?_)
   refine wpS_bind (vN C (gs.1.trans hk) zb za ?_)
   dsimp only
   by_cases bZ:kf xb<kf xa
   ·rw[decide_eq_true bZ,if_pos rfl]
    refine wpS_bind (bD ea ?_)
    have tM:=mg.rQ ra KO (fun y hy=>Nat.le_trans (ft DK rb (Nat.le_refl _) y hy) (Nat.le_of_lt bZ))
    rw[←Array.toList_push,show a.toList.length-ie+1=a.toList.length-(ie-1) by omega] at tM
    by_cases hd:ie-1=0
    ·rw[if_pos (by simpa using hd)]
     exact wpS_pure ⟨gs,.inl ⟨_,rfl,DI _ _ _ tM (.inl hd)⟩⟩
    ·rw[if_neg (by simpa using hd)]
     refine cD (fun _=>wpS_pure ⟨gs,.inr ⟨_,_,_,_,_,rfl,tM,by omega,by omega,h3,h4,by omega⟩⟩) (fun _=>wpS_pure ⟨gs,_,_,_,_,_,rfl,tM,by omega,by omega,h3,h4,by omega⟩)
   ·rw[decide_eq_false bZ,if_neg (by decide)]
    refine wpS_bind (bD eb ?_)
    have tM:=mg.vO rb DK (fun y hy=>Nat.le_trans (ft KO ra (Nat.le_refl _) y hy) (Nat.le_of_not_lt bZ))
    rw[←Array.toList_push,show b.toList.length-eW+1=b.toList.length-(eW-1) by omega] at tM
    by_cases hd:eW-1=1
    ·rw[if_pos (by simpa using hd)]
     exact wpS_pure ⟨gs,.inl ⟨_,rfl,fst _ _ _ tM hd⟩⟩
    ·rw[if_neg (by simpa using hd)]
     refine cD (fun _=>wpS_pure ⟨gs,.inr ⟨_,_,_,_,_,rfl,tM,h1,h2,by omega,by omega,by omega⟩⟩) (fun _=>wpS_pure ⟨gs,_,_,_,_,_,rfl,tM,h1,h2,by omega,by omega,by omega⟩)
  ·obtain⟨gs,ie,eW,out,ac,bc,rfl,mg,h1,h2,h3,h4,h6⟩:=hI
   exact⟨gs,.inr ⟨_,_,_,_,_,rfl,mg,h1,h2,h3,h4,by omega⟩⟩
  ·obtain⟨gs,⟨r,e,hr⟩|⟨ie,eW,out,ac,bc,rfl,mg,h1,h2,h3,h4,h6⟩⟩:=hI
   ·rw[e]
    exact wpS_pure ⟨gs,_,rfl,hr⟩
   dsimp only
   refine wpS_bind (wpS_lift (wpAny_rule ⟨rfl,?_⟩))
   refine wpS_bind (wpS_mono (wpS_forRange (Q:=fun c q=>Gs st q∧((∃r,c.1=some r∧tJ (fD kf) a.toList b.toList r.toList)∨∃ie eW out g ac bc,c=(none,ie,eW,out,g,ac,bc)∧Mg (vQ kf) a.toList.reverse b.toList.reverse out.toList (a.toList.length-ie) (b.toList.length-eW)∧1≤ie∧ie≤a.size∧2≤eW∧eW≤b.size∧ie+eW+1≤na+nb)) (fun x c q=>Gs st q∧∃ie eW out g ac bc,c=(none,ie,eW,out,g,ac,bc)∧Mg (vQ kf) a.toList.reverse b.toList.reverse out.toList (a.toList.length-ie) (b.toList.length-eW)∧1≤ie∧ie≤a.size∧2≤eW∧eW≤b.size∧ie+eW+1≤na+nb) (fun x c q _ hx hI=>?_) (fun c q hI=>?_) ⟨gs,_,_,_,_,_,_,rfl,mg,h1,h2,h3,h4,h6⟩) fun c q hI=>?_)
   ·clear mg h1 h2 h3 h4 h6 gs
    obtain⟨gs,ie,eW,out,g,ac,bc,rfl,mg,h1,h2,h3,h4,h6⟩:=hI
    dsimp only
    refine Jn1 (ι:=Nat) (G:=?G0) (fun rest=>?j0) ?k0
    case j0 =>
     refine cD (fun _=>?_) (fun _=>?_)
     ·generalize g-1=g1
      exact rest g1
     ·exact rest g
    case k0 =>
    intro g1
    refine wpS_bind (tL gs fun q' oW=>?_)
    obtain⟨xb,eb,GK,zb⟩:=di hb (i:=eW-1) (by omega)
    have DK:=vR (by omega) (by omega) GK
    refine wpS_bind (bD eb ?_)
    refine wpS_bind (IK C (oW.1.trans hk) ha sa zb (by omega) (by omega) fun k k1 k2 k3=>?_)
    dsimp only
    have E4:=mg.GJ ra (k:=ie-k) (by rw[List.length_reverse];omega) (fun x hx y hy=>by
     obtain⟨j,Qo,Qp,ej⟩:=rS (by omega) hx
     exact Nat.le_trans (ft DK rb (Nat.le_refl _) y hy) (Nat.le_of_lt (k3 j x Qo Qp (by rw[Nat.zero_add];exact ej))))
    rw[←xY (by omega),←IQ,←Array.toList_append,show a.toList.length-ie+(ie-k)=a.toList.length-k by omega] at E4
    have xW:∀y∈a.toList.reverse.drop (a.toList.length-k),kf y≤kf xb:=fun y hy=>by
     obtain⟨j,hj,ej⟩:=xX hy
     exact k2 j y hj (by rw[Nat.zero_add];exact ej)
    clear k2 k3
    obtain⟨kk,Ca⟩:∃kk,ie-k=kk:=⟨_,rfl⟩
    rw[Ca]
    refine NR (C:=fun(n:Nat) (o:Array Keyed)=>Mg (vQ kf) a.toList.reverse b.toList.reverse o.toList (a.toList.length-n) (b.toList.length-eW)∧1≤n∧n≤a.size∧(∀y∈a.toList.reverse.drop (a.toList.length-n),kf y≤kf xb)∧n+eW+1≤na+nb) (G:=?G1) (fun rest=>?j1) ?k1
    case j1 =>
     refine cD (fun k0=>?_) (fun k0=>?_)
     ·by_cases nK:k=0
      ·rw[if_pos (by simpa using nK)]
       exact wpS_pure ⟨oW,.inl ⟨_,rfl,DI _ _ _ E4 (.inl nK)⟩⟩
      rw[if_neg (by simpa using nK)]
      have hh:Mg (vQ kf) a.toList.reverse b.toList.reverse (out++(a.extract k ie).reverse).toList (a.toList.length-k) (b.toList.length-eW)∧1≤k∧k≤a.size∧(∀y∈a.toList.reverse.drop (a.toList.length-k),kf y≤kf xb)∧k+eW+1≤na+nb:=⟨E4,by omega,by omega,xW,by omega⟩
      generalize out++(a.extract k ie).reverse=mK at hh ⊢
      generalize k=k' at hh ⊢
      exact rest k' mK hh
     ·have Tn:k=ie:=by omega
      exact rest ie out ⟨mg,h1,h2,by have:=xW;rw[Tn] at this;exact this,h6⟩
    case k1 =>
    clear E4 mg xW h1 h2 h6
    rintro E6 mK ⟨To,n1,n2,xW,h5⟩
    refine wpS_bind (bD eb ?_)
    have GN:=To.vO rb DK xW
    rw[←Array.toList_push,show b.toList.length-eW+1=b.toList.length-(eW-1) by omega] at GN
    by_cases hd:eW-1=1
    ·rw[if_pos (by simpa using hd)]
     exact wpS_pure ⟨oW,.inl ⟨_,rfl,fst _ _ _ GN hd⟩⟩
    rw[if_neg (by simpa using hd)]
    obtain⟨xa,ea,GL,za⟩:=di ha (i:=E6-1) (by omega)
    have KO:=vR (by omega) (by omega) GL
    refine wpS_bind (bD ea ?_)
    refine wpS_bind (IL C (oW.1.trans hk) hb sb za (by omega) (by omega) fun l l1 l2 l3=>?_)
    dsimp only
    have IM:=GN.NQ rb (k:=eW-1-l) (by rw[List.length_reverse];omega) (fun x hx y hy=>by
     obtain⟨j,Qo,Qp,ej⟩:=rS (by omega) hx
     exact Nat.le_trans (ft KO ra (Nat.le_refl _) y hy) (l3 j x Qo Qp (by rw[Nat.zero_add];exact ej)))
    rw[←xY (by omega),←IQ,←Array.toList_append,show b.toList.length-(eW-1)+(eW-1-l)=b.toList.length-l by omega] at IM
    have rG:∀y∈b.toList.reverse.drop (b.toList.length-l),kf y≤kf xa:=fun y hy=>by
     obtain⟨j,hj,ej⟩:=xX hy
     exact Nat.le_of_lt (l2 j y hj (by rw[Nat.zero_add];exact ej))
    clear l2 l3
    obtain⟨ll,NV⟩:∃ll,eW-1-l=ll:=⟨_,rfl⟩
    rw[NV]
    refine NR (C:=fun(n:Nat) (o:Array Keyed)=>Mg (vQ kf) a.toList.reverse b.toList.reverse o.toList (a.toList.length-E6) (b.toList.length-n)∧2≤n∧n≤b.size∧(∀y∈b.toList.reverse.drop (b.toList.length-n),kf y≤kf xa)∧E6+n+1≤na+nb) (G:=?G2) (fun rest=>?j2) ?k2
    case j2 =>
     refine cD (fun l0=>?_) (fun l0=>?_)
     ·by_cases nK:l=1
      ·rw[if_pos (by simpa using nK)]
       exact wpS_pure ⟨oW,.inl ⟨_,rfl,fst _ _ _ IM nK⟩⟩
      rw[if_neg (by simpa using nK)]
      by_cases rR:l=0
      ·rw[if_pos (by simpa using rR)]
       exact wpS_pure ⟨oW,.inl ⟨_,rfl,DI _ _ _ IM (.inr rR)⟩⟩
      rw[if_neg (by simpa using rR)]
      have hh:Mg (vQ kf) a.toList.reverse b.toList.reverse (mK.push xb++(b.extract l (eW-1)).reverse).toList (a.toList.length-E6) (b.toList.length-l)∧2≤l∧l≤b.size∧(∀y∈b.toList.reverse.drop (b.toList.length-l),kf y≤kf xa)∧E6+l+1≤na+nb:=⟨IM,by omega,by omega,rG,by omega⟩
      generalize mK.push xb++(b.extract l (eW-1)).reverse=DJ at hh ⊢
      generalize l=l' at hh ⊢
      exact rest l' DJ hh
     ·have Tp:l=eW-1:=by omega
      have hh:Mg (vQ kf) a.toList.reverse b.toList.reverse (mK.push xb).toList (a.toList.length-E6) (b.toList.length-(eW-1))∧2≤eW-1∧eW-1≤b.size∧(∀y∈b.toList.reverse.drop (b.toList.length-(eW-1)),kf y≤kf xa)∧E6+(eW-1)+1≤na+nb:=⟨GN,by omega,by omega,by have:=rG;rw[Tp] at this;exact this,by omega⟩
      exact rest (eW-1) (mK.push xb) hh
    case k2 =>
    rintro nb1 DJ ⟨Tq,p1,p2,rG,h7⟩
    refine wpS_bind (bD ea ?_)
    have GO:=Tq.rQ ra KO rG
    rw[←Array.toList_push,show a.toList.length-E6+1=a.toList.length-(E6-1) by omega] at GO
    by_cases hd:E6-1=0
    ·rw[if_pos (by simpa using hd)]
     exact wpS_pure ⟨oW,.inl ⟨_,rfl,DI _ _ _ GO (.inl hd)⟩⟩
    rw[if_neg (by simpa using hd)]
    exact cD (fun _=>wpS_pure ⟨oW,.inr ⟨_,_,_,_,_,_,rfl,GO,by omega,by omega,p1,p2,by omega⟩⟩) (fun _=>wpS_pure ⟨oW,_,_,_,_,_,_,rfl,GO,by omega,by omega,p1,p2,by omega⟩)
   ·obtain⟨gs,ie,eW,out,g,ac,bc,rfl,mg,h1,h2,h3,h4,h6⟩:=hI
    exact⟨gs,.inr ⟨_,_,_,_,_,_,rfl,mg,h1,h2,h3,h4,h6⟩⟩
   ·obtain⟨gs,⟨r,e,hr⟩|⟨ie,eW,out,g,ac,bc,rfl,mg,h1,h2,h3,h4,h6⟩⟩:=hI
    ·rw[e]
     exact wpS_pure ⟨gs,_,rfl,hr⟩
    dsimp only
    refine wpS_bind (tL gs fun q' oW=>?_)
    exact wpS_pure ⟨oW,_,_,_,_,rfl,mg,h1,h2,h3,h4,by omega⟩
end
section
variable {prog:Program}{w:World}{A:Around}{E:Value→Shared→Prop}{s:Shared}{kd:SortKind}{kf:Keyed→Nat}{z:Array Keyed}{st:SortSt}
theorem KP (C:oN prog w A s kd kf z) {q:SortSt}(hk:kindOf q=kd) {key:Keyed}{a:Array Keyed}(ha:∀x∈a.toList,x∈z.toList) {base n hint:Nat}(hs:∀i j x y,i<j→j<n→a.toList[base+i]?=some x→a.toList[base+j]?=some y→kf x≤kf y) {Q:Option Nat→SortSt→Prop}(hy:key∈z.toList) (hh:hint<n) (hn:base+n≤a.size)
  (h:∀k,k≤n→(∀i x,i<k→a.toList[base+i]?=some x→kf x≤kf key)→(∀i x,k≤i→i<n→a.toList[base+i]?=some x→kf key<kf x)→Q (some k) q):wpS (model prog w) A E s (DH false key a base n hint) Q q:=by
 refine tI C hk (xs:=fun i=>(a[base+i]?).getD key) hy hh (fun i hi=>?_) (fun i j gv hj hb=>?_) fun k Gg h1 h2=>h k Gg (fun i x hi hx=>?_) (fun i x hi uM hx=>?_)
 ·obtain⟨x,h1,_,h3⟩:=di ha (i:=base+i) (by omega)
  rw[h1];exact⟨rfl,h3⟩
 ·obtain⟨x,x1,x2,_⟩:=di ha (i:=base+i) (by omega)
  obtain⟨y,y1,y2,_⟩:=di ha (i:=base+j) (by omega)
  rw[y1] at hb
  rw[x1]
  have hle:kf x≤kf y:=hs i j x y gv hj x2 y2
  unfold tH at hb ⊢
  rw[if_neg (by decide)] at hb ⊢
  rw[Bool.not_eq_true',decide_eq_false_iff_not] at hb ⊢
  show ¬kf key<kf x
  have hb:¬kf key<kf y:=hb
  omega
 ·have:=h1 i hi
  rw[Array.getElem?_toList] at hx
  rw[hx] at this
  unfold tH at this
  rw[if_neg (by decide),Bool.not_eq_true',decide_eq_false_iff_not] at this
  exact Nat.le_of_not_lt this
 ·have:=h2 i hi uM
  rw[Array.getElem?_toList] at hx
  rw[hx] at this
  unfold tH at this
  rw[if_neg (by decide),Bool.not_eq_false',decide_eq_true_eq] at this
  exact this
theorem KQ (C:oN prog w A s kd kf z) {q:SortSt}(hk:kindOf q=kd) {key:Keyed}{a:Array Keyed}(ha:∀x∈a.toList,x∈z.toList) {base n hint:Nat}(hs:∀i j x y,i<j→j<n→a.toList[base+i]?=some x→a.toList[base+j]?=some y→kf x≤kf y) {Q:Option Nat→SortSt→Prop}(hy:key∈z.toList) (hh:hint<n) (hn:base+n≤a.size)
  (h:∀k,k≤n→(∀i x,i<k→a.toList[base+i]?=some x→kf x<kf key)→(∀i x,k≤i→i<n→a.toList[base+i]?=some x→kf key≤kf x)→Q (some k) q):wpS (model prog w) A E s (DH true key a base n hint) Q q:=by
 refine tI C hk (xs:=fun i=>(a[base+i]?).getD key) hy hh (fun i hi=>?_) (fun i j gv hj hb=>?_) fun k Gg h1 h2=>h k Gg (fun i x hi hx=>?_) (fun i x hi uM hx=>?_)
 ·obtain⟨x,h1,_,h3⟩:=di ha (i:=base+i) (by omega)
  rw[h1];exact⟨rfl,h3⟩
 ·obtain⟨x,x1,x2,_⟩:=di ha (i:=base+i) (by omega)
  obtain⟨y,y1,y2,_⟩:=di ha (i:=base+j) (by omega)
  rw[y1] at hb
  rw[x1]
  have hle:kf x≤kf y:=hs i j x y gv hj x2 y2
  unfold tH at hb ⊢
  rw[if_pos rfl,decide_eq_true_eq] at hb ⊢
  exact Nat.lt_of_le_of_lt hle hb
 ·have:=h1 i hi
  rw[Array.getElem?_toList] at hx
  rw[hx] at this
  unfold tH at this
  rw[if_pos rfl,decide_eq_true_eq] at this
  exact this
 ·have:=h2 i hi uM
  rw[Array.getElem?_toList] at hx
  rw[hx] at this
  unfold tH at this
  rw[if_pos rfl,decide_eq_false_iff_not] at this
  exact Nat.le_of_not_lt this
end
noncomputable def Pd (kf:Keyed→Nat):List (Nat×Nat×Nat)→List (List Keyed)→Nat→Prop
 | [],[],_=>True
 | (s,n,_)::ps,l::ls,k=>s=k∧n=l.length∧1≤n∧l.Pairwise (fD kf)∧Pd kf ps ls (k+n)
 | _,_,_=>False
theorem IS {kf:Keyed→Nat}:∀(i:Nat) {ps:List (Nat×Nat×Nat)}{ls:List (List Keyed)}{k:Nat},Pd kf ps ls k→i+1<ps.length →
  ∃(Bx:List (List Keyed)) (X Y:List Keyed) (GQ:List (List Keyed)) (p p':Nat),ls=Bx++X::Y::GQ∧ps[i]?=some (k+Bx.flatten.length,X.length,p)∧ps[i+1]?=some (k+Bx.flatten.length+X.length,Y.length,p')∧1≤X.length∧1≤Y.length∧X.Pairwise (fD kf)∧Y.Pairwise (fD kf) ∧
   ∀M:List Keyed,M.Pairwise (fD kf)→M.length=X.length+Y.length→Pd kf ((ps.set i (k+Bx.flatten.length,X.length+Y.length,p)).eraseIdx (i+1)) (Bx++M::GQ) k
 | 0,(s,n,p)::(s',n',p')::ps,l::l'::ls,k,h,_=>by
  obtain⟨rfl,rfl,h1,h2,rfl,rfl,h3,h4,h5⟩:=h
  refine⟨[],l,l',ls,p,p',rfl,rfl,rfl,h1,h3,h2,h4,fun M hM hl=>?_⟩
  show s=s∧l.length+l'.length=M.length∧1≤l.length+l'.length∧M.Pairwise (fD kf)∧Pd kf ps ls (s+(l.length+l'.length))
  exact⟨rfl,hl.symm,by omega,hM,by rw[←Nat.add_assoc];exact h5⟩
 | 0,[_],_,_,_,hi=>absurd hi (by simp)
 | 0,[],_,_,_,hi=>absurd hi (by simp)
 | 0,_::_::_,[_],_,h,_=>h.2.2.2.2.elim
 | 0,_::_,[],_,h,_=>h.elim
 | i+1,[],_,_,_,hi=>absurd hi (by simp)
 | i+1,_::_,[],_,h,_=>h.elim
 | i+1,(s,n,q)::ps,l::ls,k,h,hi=>by
  obtain⟨rfl,rfl,h1,h2,h3⟩:=h
  obtain⟨Bx,X,Y,GQ,p,p',e,e1,e2,x1,y1,sx,sy,hM⟩:=IS i h3 (by simpa using hi)
  refine⟨l::Bx,X,Y,GQ,p,p',by rw[e];rfl,?_,?_,x1,y1,sx,sy,fun M m1 m2=>?_⟩
  ·show ps[i]?=_
   rw[e1,List.flatten_cons,length_append,Nat.add_assoc]
  ·show ps[i+1]?=_
   rw[e2,List.flatten_cons,length_append,Nat.add_assoc s]
  ·have:=hM M m1 m2
   rw[List.flatten_cons,length_append,←Nat.add_assoc]
   exact⟨rfl,rfl,h1,h2,this⟩
theorem DL (p:Nat):∀(M:List Keyed) (n:Nat) (a:Array Keyed),p+n+M.length≤a.size→((M.zipIdx n).foldl (fun a (x:Keyed×Nat)=>a.setIfInBounds (p+x.2) x.1) a).toList=a.toList.take (p+n)++M++a.toList.drop (p+n+M.length)
 | [],n,a,_=>by simp
 | x::M,n,a,h=>by
  rw[List.zipIdx_cons,List.foldl_cons,DL p M (n+1) _ (by rw[Array.size_setIfInBounds];simp at h;omega)]
  simp only[List.length_cons] at h
  have hl:p+n<a.toList.length:=by rw[Array.length_toList];omega
  rw[Array.toList_setIfInBounds]
  have e1:(a.toList.set (p+n) x).take (p+(n+1))=a.toList.take (p+n)++[x]:=by
   rw[←Nat.add_assoc,take_add_one,List.getElem?_set_self hl,List.take_set_of_le (Nat.le_refl _)];rfl
  have e2:(a.toList.set (p+n) x).drop (p+(n+1)+M.length)=a.toList.drop (p+n+(x::M).length):=by
   rw[List.drop_set_of_lt (by omega),List.length_cons];congr 1;omega
  rw[e1,e2]
  simp
structure qL (kd:SortKind) (z:Array Keyed) (st:SortSt):Prop where
 p:(arrOf st).Perm z
 k:kindOf st=kd
 f:failedOf st=none
theorem qL.mem {kd:SortKind}{z:Array Keyed}{st:SortSt}(S:qL kd z st):∀x∈(arrOf st).toList,x∈z.toList:=fun x hx=>(Array.perm_iff_toList_perm.mp S.p).mem_iff.mp hx
theorem pw_at {kf:Keyed→Nat}{l:List Keyed}(h:l.Pairwise (fD kf)) {i j:Nat}{x y:Keyed}(gv:i<j) (ex:l[i]?=some x) (ey:l[j]?=some y):kf x≤kf y:=by
 obtain⟨u1,e1⟩:=List.getElem?_eq_some_iff.mp ex
 obtain⟨u2,e2⟩:=List.getElem?_eq_some_iff.mp ey
 have:=List.pairwise_iff_getElem.mp h i j u1 u2 gv
 rw[e1,e2] at this;exact this
theorem pw_le {kf:Keyed→Nat}{l:List Keyed}(h:l.Pairwise (fD kf)) {i j:Nat}{x y:Keyed}(gv:i≤j) (ex:l[i]?=some x) (ey:l[j]?=some y):kf x≤kf y:=by
 rcases Nat.lt_or_eq_of_le gv with q|rfl
 ·exact pw_at h q ex ey
 ·rw[ex] at ey;cases ey;exact Nat.le_refl _
section
variable {prog:Program}{w:World}{A:Around}{E:Value→Shared→Prop}{s:Shared}{kd:SortKind}{kf:Keyed→Nat}{z:Array Keyed}{st:SortSt}
theorem KR {M:Model}{α:Type}{m:StateT SortSt Sem α}{Q:α→SortSt→Prop}{x y:SortSt}(e:x=y) (h:wpS M A E s m Q y):wpS M A E s m Q x:=e▸h
theorem Tr {M:Model}{x:SortSt}{Q:PUnit→SortSt→Prop}(h:Q PUnit.unit x):wpS M A E s (set x) Q st:=wpS_modify (f:=fun _=>x) h
theorem DM (C:oN prog w A s kd kf z) (S:qL kd z st) {ls:List (List Keyed)}{T:List Keyed}{i:Nat}{Q:Bool→SortSt→Prop}(hp:Pd kf (pendingOf st).toList ls 0) (hL:(arrOf st).toList=ls.flatten++T) (hi:i+1<(pendingOf st).size)
  (h:∀q iW,qL kd z q→Pd kf (pendingOf q).toList iW 0→(arrOf q).toList=iW.flatten++T→(pendingOf q).size+1=(pendingOf st).size→iW.flatten.length=ls.flatten.length→Q true q):wpS (model prog w) A E s (mergeAt' i) Q st:=by
 refine wpS_bind (wpS_get ?_)
 obtain⟨Bx,X,Y,GQ,p,p',rfl,e1,e2,x1,y1,sx,sy,hM⟩:=IS i hp (by rw[Array.length_toList];exact hi)
 rw[Array.getElem?_toList,Nat.zero_add] at e1 e2
 rw[e1,e2]
 dsimp only
 have uN:(arrOf st).toList=Bx.flatten++(X++(Y++(GQ.flatten++T))):=by rw[hL];simp
 have sz:(arrOf st).size=Bx.flatten.length+(X.length+(Y.length+(GQ.flatten++T).length)):=by rw[←Array.length_toList,uN];simp
 generalize hR:GQ.flatten++T=R at uN sz
 generalize hX0:Bx.flatten=X0 at uN e1 e2 hM sz ⊢
 rw[Nat.zero_add] at hM
 have gX:∀j,j<X.length→(arrOf st).toList[X0.length+j]?=X[j]?:=fun j hj=>by
  rw[uN,getElem?_append_right (by omega),Nat.add_sub_cancel_left,getElem?_append_left hj]
 have gY:∀j,j<Y.length→(arrOf st).toList[X0.length+X.length+j]?=Y[j]?:=fun j hj=>by
  rw[uN,getElem?_append_right (by omega),show X0.length+X.length+j-X0.length=X.length+j by omega,getElem?_append_right (by omega),Nat.add_sub_cancel_left,getElem?_append_left hj]
 refine wpS_bind (Tr ?_)
 have pl:∀v:Nat×Nat×Nat,(((pendingOf st).setIfInBounds i v).eraseIdxIfInBounds (i+1)).toList=((pendingOf st).toList.set i v).eraseIdx (i+1):=fun v=>by
  rw[Array.toList_eraseIdxIfInBounds,Array.toList_setIfInBounds]
 have ps:∀v:Nat×Nat×Nat,(((pendingOf st).setIfInBounds i v).eraseIdxIfInBounds (i+1)).size+1=(pendingOf st).size:=fun v=>by
  rw[←Array.length_toList,pl,List.length_eraseIdx_of_lt (by rw[List.length_set,Array.length_toList];exact hi),List.length_set,Array.length_toList];omega
 obtain⟨E7,AQ⟩:∃E7,setPending st (((pendingOf st).setIfInBounds i (X0.length,X.length+Y.length,p)).eraseIdxIfInBounds (i+1))=E7:=⟨_,rfl⟩
 refine KR AQ ?_
 have S1:qL kd z E7:=by rw[←AQ];exact⟨S.p,S.k,S.f⟩
 have a1:arrOf E7=arrOf st:=by rw[←AQ]
 have p1:(pendingOf E7).toList=((pendingOf st).toList.set i (X0.length,X.length+Y.length,p)).eraseIdx (i+1):=by rw[←AQ];exact pl _
 have p2:(pendingOf E7).size+1=(pendingOf st).size:=by rw[←AQ];exact ps _
 clear AQ
 have fin:∀(q:SortSt) (M:List Keyed),qL kd z q→pendingOf q=pendingOf E7→(arrOf q).toList=X0++(M++R)→M.Pairwise (fD kf)→M.length=X.length+Y.length→Q true q:=fun q M Sq hpq haq hMs hMl=>by
  refine h q (Bx++M::GQ) Sq (by rw[hpq,p1];exact hM M hMs hMl) (by rw[haq,←hX0,←hR];simp) (by rw[hpq];exact p2) ?_
  simp only[List.flatten_append,List.flatten_cons,length_append,hMl]
  omega
 have iY:(∀x∈X,∀y∈Y,kf x≤kf y)→Q true E7:=fun NW=>by
  refine fin E7 (X++Y) S1 rfl (by rw[a1,uN];simp) (List.pairwise_append.mpr ⟨sx,sy,NW⟩) (by simp)
 obtain⟨y0,Ts,zy0⟩:∃y0,Y[0]?=some y0∧y0∈z.toList:=⟨Y[0],getElem?_eq_getElem _,S.mem _ (by rw[uN];simp[List.getElem_mem])⟩
 refine wpS_bind (bD (x:=y0) (by have:=gY 0 (by omega);rw[Array.getElem?_toList,Ts] at this;exact this) ?_)
 refine wpS_bind (KP (base:=X0.length) (n:=X.length) (hint:=0) C S1.k S.mem (fun i j x y gv hj ex ey=>?_) zy0 (by omega) (by omega) fun k k1 k2 k3=>?_)
 ·rw[gX i (by omega)] at ex
  rw[gX j hj] at ey
  exact pw_at sx gv ex ey
 dsimp only
 have k2':∀j x,j<k→X[j]?=some x→kf x≤kf y0:=fun j x hj ex=>k2 j x hj (by rw[gX j (by omega)];exact ex)
 have k3':∀j x,k≤j→X[j]?=some x→kf y0<kf x:=fun j x hj ex=>by
  have bZ:=(List.getElem?_eq_some_iff.mp ex).1
  exact k3 j x hj bZ (by rw[gX j bZ];exact ex)
 clear k2 k3
 have NX:∀y∈Y,kf y0≤kf y:=fun y hy=>by
  obtain⟨j,ej⟩:=mem_iff_getElem?.mp hy
  exact pw_le sy (Nat.zero_le j) Ts ej
 by_cases Qq:X.length-k=0
 ·rw[if_pos (by simpa using Qq)]
  refine wpS_pure (iY fun x hx y hy=>?_)
  obtain⟨j,ej⟩:=mem_iff_getElem?.mp hx
  exact Nat.le_trans (k2' j x (by have:=(List.getElem?_eq_some_iff.mp ej).1;omega) ej) (NX y hy)
 rw[if_neg (by simpa using Qq)]
 obtain⟨xl,Tt,zxl⟩:∃xl,X[X.length-1]?=some xl∧xl∈z.toList:=⟨X[X.length-1],getElem?_eq_getElem _,S.mem _ (by rw[uN];simp[List.getElem_mem])⟩
 refine wpS_bind (bD (x:=xl) (by have:=gX (X.length-1) (by omega);rw[Array.getElem?_toList,Tt] at this;rw[←this];congr 1;omega) ?_)
 have Tu:∀x∈X,kf x≤kf xl:=fun x hx=>by
  obtain⟨j,ej⟩:=mem_iff_getElem?.mp hx
  exact pw_le sx (by have:=(List.getElem?_eq_some_iff.mp ej).1;omega) ej Tt
 refine wpS_bind (KQ (base:=X0.length+X.length) (n:=Y.length) (hint:=Y.length-1) C S1.k S.mem (fun i j x y gv hj ex ey=>?_) zxl (by omega) (by omega) fun l l1 l2 l3=>?_)
 ·rw[gY i (by omega)] at ex
  rw[gY j hj] at ey
  exact pw_at sy gv ex ey
 dsimp only
 have l2':∀j x,j<l→Y[j]?=some x→kf x≤kf xl:=fun j x hj ex=>Nat.le_of_lt (l2 j x hj (by rw[gY j (by omega)];exact ex))
 have Tv:∀j x,l≤j→Y[j]?=some x→kf xl≤kf x:=fun j x hj ex=>by
  have bZ:=(List.getElem?_eq_some_iff.mp ex).1
  exact l3 j x hj bZ (by rw[gY j bZ];exact ex)
 clear l2 l3
 by_cases hl0:l=0
 ·rw[if_pos (by simpa using hl0)]
  refine wpS_pure (iY fun x hx y hy=>?_)
  obtain⟨j,ej⟩:=mem_iff_getElem?.mp hy
  exact Nat.le_trans (Tu x hx) (Tv j y (by omega) ej)
 rw[if_neg (by simpa using hl0)]
 have kx:((arrOf st).extract (X0.length+k) (X0.length+X.length)).toList=X.drop k:=by
  rw[Array.toList_extract,List.extract_eq_drop_take',uN,List.take_length_add_append,List.drop_length_add_append,List.take_left]
 have ky:((arrOf st).extract (X0.length+X.length) (X0.length+X.length+l)).toList=Y.take l:=by
  rw[Array.toList_extract,List.extract_eq_drop_take',uN,Nat.add_assoc,List.take_length_add_append,List.drop_length_add_append,List.take_length_add_append,List.drop_left,List.take_append_of_le_length l1]
 have sxk:(X.drop k).Pairwise (fD kf):=sx.sublist (List.drop_sublist ..)
 have syl:(Y.take l).Pairwise (fD kf):=sy.sublist (List.take_sublist ..)
 have aft:∀(r:Array Keyed) (q:SortSt),tJ (fD kf) (X.drop k) (Y.take l) r.toList→Gs E7 q→Q true (setArr q (List.foldl (fun a (x:Keyed×Nat)=>a.setIfInBounds (X0.length+k+x.2) x.1) (arrOf q) r.toList.zipIdx)):=fun r q hr gq=>by
  have rl:r.toList.length=X.length-k+l:=by rw[hr.2.length_eq,length_append,List.length_drop,length_take,Nat.min_eq_left l1]
  have ea:(List.foldl (fun a (x:Keyed×Nat)=>a.setIfInBounds (X0.length+k+x.2) x.1) (arrOf q) r.toList.zipIdx).toList=X0++((X.take k++r.toList++Y.drop l)++R):=by
   rw[DL (X0.length+k) r.toList 0 (arrOf q) (by rw[gq.2.1,a1,sz,rl];omega),gq.2.1,a1,uN,Nat.add_zero,rl,List.take_length_add_append,List.take_append_of_le_length k1,show X0.length+k+(X.length-k+l)=X0.length+(X.length+l) by omega,List.drop_length_add_append,List.drop_length_add_append,List.drop_append_of_le_length l1]
   simp
  have IU:(X.take k++r.toList++Y.drop l).Perm (X++Y):=by
   have h1:=(List.Perm.append_left (X.take k) hr.2).append_right (Y.drop l)
   rw[←List.append_assoc,List.take_append_drop,List.append_assoc X,List.take_append_drop] at h1
   exact h1
  refine fin _ (X.take k++r.toList++Y.drop l) ⟨?_,gq.1.trans S1.k,gq.2.2.2.trans S1.f⟩ gq.2.2.1 ea ?_ ?_
  ·refine Array.Perm.trans (Array.perm_iff_toList_perm.mpr ?_) S.p
   have e2:(arrOf (setArr q (List.foldl (fun a (x:Keyed×Nat)=>a.setIfInBounds (X0.length+k+x.2) x.1) (arrOf q) r.toList.zipIdx))).toList=X0++((X.take k++r.toList++Y.drop l)++R):=ea
   rw[e2,uN,←List.append_assoc X Y]
   exact List.Perm.append_left X0 (IU.append_right R)
  ·have NY:∀u∈r.toList,u∈X.drop k∨u∈Y.take l:=fun u hu=>mem_append.mp (hr.2.mem_iff.mp hu)
   refine List.pairwise_append.mpr ⟨List.pairwise_append.mpr ⟨sx.sublist (List.take_sublist ..),hr.1,fun u hu v hv=>?_⟩,sy.sublist (List.drop_sublist ..),fun u hu v hv=>?_⟩
   ·obtain⟨j,hj,ej⟩:∃j,j<k∧X[j]?=some u:=by
     have:=mem_mid (l:=X) (i:=0) (k:=k) (by rw[List.drop_zero];exact hu)
     simpa using this
    rcases NY v hv with hv|hv
    ·obtain⟨m,_,em⟩:=mJ hv
     exact pw_le sx (by omega) ej em
    ·exact Nat.le_trans (k2' j u hj ej) (NX v (List.mem_of_mem_take hv))
   ·obtain⟨m,_,em⟩:=mJ hv
    rcases mem_append.mp hu with hu|hu
    ·exact Nat.le_trans (Tu u (List.mem_of_mem_take hu)) (Tv _ v (by omega) em)
    rcases NY u hu with hu|hu
    ·exact Nat.le_trans (Tu u (List.mem_of_mem_drop hu)) (Tv _ v (by omega) em)
    ·obtain⟨j,hj,ej⟩:∃j,j<l∧Y[j]?=some u:=by
      have:=mem_mid (l:=Y) (i:=0) (k:=l) (by rw[List.drop_zero];exact hu)
      simpa using this
     exact pw_le sy (by omega) ej em
  ·rw[IU.length_eq,length_append]
 have Iy:∀x∈((arrOf st).extract (X0.length+k) (X0.length+X.length)).toList,x∈z.toList:=fun x hx=>by
  rw[kx] at hx
  exact S.mem x (by rw[uN];exact mem_append_right _ (mem_append_left _ (List.mem_of_mem_drop hx)))
 have Tw:∀x∈((arrOf st).extract (X0.length+X.length) (X0.length+X.length+l)).toList,x∈z.toList:=fun x hx=>by
  rw[ky] at hx
  exact S.mem x (by rw[uN];exact mem_append_right _ (mem_append_right _ (mem_append_left _ (List.mem_of_mem_take hx))))
 have zx:((arrOf st).extract (X0.length+k) (X0.length+X.length)).size=X.length-k:=by rw[←Array.length_toList,kx,List.length_drop]
 have zy:((arrOf st).extract (X0.length+X.length) (X0.length+X.length+l)).size=l:=by rw[←Array.length_toList,ky,length_take,Nat.min_eq_left l1]
 have c0:∀x y,((arrOf st).extract (X0.length+X.length) (X0.length+X.length+l)).toList[0]?=some x→y∈((arrOf st).extract (X0.length+k) (X0.length+X.length)).toList→kf x≤kf y:=fun x y hx hy=>by
  rw[ky,List.getElem?_take,if_pos (by omega),Ts] at hx
  cases hx
  rw[kx] at hy
  obtain⟨m,_,em⟩:=mJ hy
  exact Nat.le_of_lt (k3' _ y (by omega) em)
 have cl:∀x y,x∈((arrOf st).extract (X0.length+X.length) (X0.length+X.length+l)).toList→((arrOf st).extract (X0.length+k) (X0.length+X.length)).toList[((arrOf st).extract (X0.length+k) (X0.length+X.length)).size-1]?=some y→kf x≤kf y:=fun x y hx hy=>by
  rw[zx,kx,List.getElem?_drop,show k+(X.length-k-1)=X.length-1 by omega,Tt] at hy
  cases hy
  rw[ky] at hx
  obtain⟨j,hj,ej⟩:∃j,j<l∧Y[j]?=some x:=by
   have:=mem_mid (l:=Y) (i:=0) (k:=l) (by rw[List.drop_zero];exact hx)
   simpa using this
  exact l2' j x hj ej
 rw[show X0.length+X.length=X0.length+k+(X.length-k) by omega] at *
 refine cD (fun _=>wpS_bind (KL C S1.k Iy Tw (by rw[kx];exact sxk) (by rw[ky];exact syl) (by rw[zx];omega) (by rw[zy];omega) c0 cl fun r q hr gq=>?_)) (fun _=>wpS_bind (KN C S1.k Iy Tw (by rw[kx];exact sxk) (by rw[ky];exact syl) (by rw[zx];omega) (by rw[zy];omega) c0 cl fun r q hr gq=>?_))
 all_goals
  rw[kx,ky] at hr
  refine wpS_bind (wpS_modify ?_)
  refine wpS_bind (wpS_get (wpS_pure ?_))
  have:=aft r q hr gq
  show Q (failedOf q).isNone _
  rw[gq.2.2.2,S1.f]
  exact this
end
theorem Tx {ι:Sort _}{C G:ι→Prop}{A:Prop}(h:(∀i,C i→G i)→A) (k:∀i,C i→G i):A:=h k
noncomputable def vS (kf:Keyed→Nat) (xs:Array Keyed) (lo n:Nat):Prop:=∀i j,i<j→j<n→kn kf xs (lo+i)≤kn kf xs (lo+j)
noncomputable def By (kf:Keyed→Nat) (xs:Array Keyed) (lo n:Nat):Prop:=∀i j,i<j→j<n→kn kf xs (lo+j)≤kn kf xs (lo+i)
noncomputable def Wk (kd:SortKind) (z:Array Keyed) (lo:Nat) (Bz st:SortSt):Prop:=qL kd z st∧pendingOf st=pendingOf Bz∧∀i,i<lo→(arrOf st)[i]?=(arrOf Bz)[i]?
section
variable {kd:SortKind}{kf:Keyed→Nat}{z:Array Keyed}{st Bz:SortSt}{lo:Nat}{xs:Array Keyed}
theorem Wk.set (W:Wk kd z lo Bz st) (e:xs.Perm (arrOf st)) (h:∀i,i<lo→xs[i]?=(arrOf st)[i]?):Wk kd z lo Bz (setArr st xs):=⟨⟨e.trans W.1.p,W.1.k,W.1.f⟩,W.2.1,fun i hi=>(h i hi).trans (W.2.2 i hi)⟩
theorem qL.n (S:qL kd z st):(arrOf st).size=z.size:=S.p.size_eq
theorem qL.at (S:qL kd z st) {i:Nat}(hi:i<z.size):∃x,(arrOf st)[i]?=some x∧x∈z.toList∧kn kf (arrOf st) i=kf x:=by
 obtain⟨x,h1,_,h3⟩:=di S.mem (i:=i) (by rw[S.n];exact hi)
 exact⟨x,h1,h3,by unfold kn;rw[h1];rfl⟩
theorem vS.step {x:Nat}(h:vS kf xs lo x) (h1:kn kf xs (lo+x-1)≤kn kf xs (lo+x)):vS kf xs lo (x+1):=fun i j gv hj=>by
 rcases Nat.lt_or_ge j x with q|q
 ·exact h i j gv q
 ·obtain rfl:j=x:=by omega
  rcases Nat.lt_or_ge i (j-1) with q2|q2
  ·have:=h i (j-1) q2 (by omega)
   rw[show lo+(j-1)=lo+j-1 by omega] at this
   omega
  ·rw[show lo+i=lo+j-1 by omega];exact h1
theorem By.step {x:Nat}(h:By kf xs lo x) (h1:kn kf xs (lo+x)≤kn kf xs (lo+x-1)):By kf xs lo (x+1):=fun i j gv hj=>by
 rcases Nat.lt_or_ge j x with q|q
 ·exact h i j gv q
 ·obtain rfl:j=x:=by omega
  rcases Nat.lt_or_ge i (j-1) with q2|q2
  ·have:=h i (j-1) q2 (by omega)
   rw[show lo+(j-1)=lo+j-1 by omega] at this
   omega
  ·rw[show lo+i=lo+j-1 by omega];exact h1
theorem mL {a b:Nat}(hb:b≤xs.size) (k:Nat):kn kf (mirror xs a b ((b-a)/2)) k=if a≤k∧k<b then kn kf xs (a+b-1-k) else kn kf xs k:=by
 by_cases h:a≤k∧k<b
 ·rw[if_pos h];exact lO (by rw[getElem?_mirror_all hb,if_pos h])
 ·rw[if_neg h];exact lO (by rw[getElem?_mirror_all hb,if_neg h])
theorem lT {a b v:Nat}(hb:b≤xs.size) (hv:∀k,a≤k→k<b→kn kf xs k=v) (k:Nat):kn kf (mirror xs a b ((b-a)/2)) k=kn kf xs k:=by
 rw[mL hb]
 split
 ·rename_i h;rw[hv _ (by omega) (by omega),hv k h.1 h.2]
 ·rfl
theorem Wk.Qr (W:Wk kd z lo Bz st) {a b:Nat}(ha:lo≤a) (hb:b≤z.size):Wk kd z lo Bz (setArr st (mirror (arrOf st) a b ((b-a)/2))) :=
 W.set (mirror_perm ..) fun i hi=>by rw[getElem?_mirror_all (by rw[W.1.n];exact hb),if_neg (by omega)]
end
section
variable {prog:Program}{w:World}{A:Around}{E:Value→Shared→Prop}{s:Shared}{kd:SortKind}{kf:Keyed→Nat}{z:Array Keyed}{st:SortSt}
theorem mM (C:oN prog w A s kd kf z) (S:qL kd z st) {i j:Nat}{Q:Option Bool→SortSt→Prop}(hi:i<z.size) (hj:j<z.size) (h:Q (some (decide (kn kf (arrOf st) i<kn kf (arrOf st) j))) st) :
  (wpS (model prog w) A E s (ltAt' i j) Q st):=by
 obtain⟨x,x1,x2,x3⟩:=S.at (kf:=kf) hi
 obtain⟨y,y1,y2,y3⟩:=S.at (kf:=kf) hj
 rw[x3,y3] at h
 rw[ltAt'_eq]
 refine wpS_bind (wpS_get ?_)
 show wpS _ _ _ _ (elem' (arrOf st) i >>= fun a=>elem' (arrOf st) j >>= fun b=>lt' a b) Q st
 rw[elem'_eq,elem'_eq,x1,y1]
 exact wpS_bind (wpS_pure (wpS_bind (wpS_pure (vN C S.k x2 y2 h))))
theorem KS (C:oN prog w A s kd kf z) (S:qL kd z st) {lo m:Nat}{Q:Option Nat→SortSt→Prop}(hm:lo+m≤z.size) (h1:1≤m)
  (h:∀n q,Wk kd z lo st q→1≤n→n≤m→vS kf (arrOf q) lo n→Q (some n) q):wpS (model prog w) A E s (countRun' lo m) Q st:=by
 rw[countRun'_eq]
 dsimp only
 have W0:Wk kd z lo st st:=⟨S,rfl,fun _ _=>rfl⟩
 refine wpS_bind (wpS_mono (wpS_forRange (Q:=fun c q=>q=st∧∃n,c=(none,n)∧1≤n∧n≤m∧vS kf (arrOf st) lo n∧(n=m∨kn kf (arrOf st) (lo+n)<kn kf (arrOf st) (lo+n-1))) (fun x c q=>q=st∧c=(none,x)∧vS kf (arrOf st) lo x) (fun x c q hx Iy hI=>?_) (fun c q hI=>?_) ⟨rfl,rfl,fun i j a b=>by omega⟩) fun c q hI=>?_)
 ·obtain⟨rfl,rfl,hu⟩:=hI
  dsimp only
  refine wpS_bind (mM C S (by omega) (by omega) ?_)
  dsimp only
  by_cases hc:kn kf (arrOf q) (lo+x)<kn kf (arrOf q) (lo+x-1)
  ·rw[decide_eq_true hc,if_pos rfl]
   exact wpS_pure ⟨rfl,x,rfl,hx,by omega,hu,.inr hc⟩
  ·rw[decide_eq_false hc,if_neg (by decide)]
   exact wpS_pure ⟨rfl,rfl,hu.step (by omega)⟩
 ·obtain⟨rfl,rfl,hu⟩:=hI
  rw[show max 1 m=m by omega] at hu ⊢
  exact⟨rfl,m,rfl,h1,Nat.le_refl m,hu,.inl rfl⟩
 obtain⟨rfl,n,rfl,n1,nm,hu,ho⟩:=hI
 dsimp only
 by_cases hc:n=m
 ·rw[if_pos (by rw[hc];exact beq_self_eq_true m)]
  exact wpS_pure (h n q W0 n1 nm hu)
 rw[if_neg (by simpa using hc)]
 have bZ:=ho.resolve_left hc
 refine Tx (ι:=SortSt) (C:=fun r=>Wk kd z lo q r∧By kf (arrOf r) lo (n+1)) (G:=?G) (fun rest=>?ja) ?jk
 case ja =>
  by_cases h2:n > 1
  ·rw[if_pos h2]
   refine wpS_bind (mM C S (by omega) (by omega) ?_)
   dsimp only
   by_cases hr:kn kf (arrOf q) lo<kn kf (arrOf q) (lo+n-1)
   ·rw[decide_eq_true hr,if_pos rfl]
    exact wpS_pure (h n q W0 n1 nm hu)
   rw[decide_eq_false hr,if_neg (by decide)]
   refine wpS_bind (wpS_reverse ?_)
   have hv:∀k,lo≤k→k<lo+n→kn kf (arrOf q) k=kn kf (arrOf q) (lo+n-1):=fun k k1 k2=>by
    have a1:kn kf (arrOf q) lo≤kn kf (arrOf q) k:=by
     rcases Nat.lt_or_eq_of_le k1 with g|g
     ·have:=hu 0 (k-lo) (by omega) (by omega);rw[show lo+(k-lo)=k by omega] at this;exact this
     ·rw[g];exact Nat.le_refl _
    have a2:kn kf (arrOf q) k≤kn kf (arrOf q) (lo+n-1):=by
     rcases Nat.lt_or_ge k (lo+n-1) with g|g
     ·have:=hu (k-lo) (n-1) (by omega) (by omega);rw[show lo+(k-lo)=k by omega,show lo+(n-1)=lo+n-1 by omega] at this;exact this
     ·rw[show k=lo+n-1 by omega];exact Nat.le_refl _
    omega
   have hh:Wk kd z lo q (setArr q (mirror (arrOf q) lo (lo+n) ((lo+n-lo)/2)))∧By kf (arrOf (setArr q (mirror (arrOf q) lo (lo+n) ((lo+n-lo)/2)))) lo (n+1):=by
    refine⟨W0.Qr (Nat.le_refl lo) (by omega),fun i j gv hj=>?_⟩
    show kn kf (mirror (arrOf q) lo (lo+n) ((lo+n-lo)/2)) (lo+j)≤kn kf (mirror (arrOf q) lo (lo+n) ((lo+n-lo)/2)) (lo+i)
    rw[lT (by rw[S.n];omega) hv,lT (by rw[S.n];omega) hv,hv (lo+i) (by omega) (by omega)]
    rcases Nat.lt_or_ge j n with g|g
    ·rw[hv (lo+j) (by omega) (by omega)];exact Nat.le_refl _
    ·rw[show j=n by omega];exact Nat.le_of_lt bZ
   generalize setArr q (mirror (arrOf q) lo (lo+n) ((lo+n-lo)/2))=r at hh ⊢
   exact rest r hh
  ·rw[if_neg h2]
   have hh:Wk kd z lo q q∧By kf (arrOf q) lo (n+1):=⟨W0,fun i j gv hj=>by
    rw[show lo+j=lo+n by omega,show lo+i=lo+n-1 by omega];exact Nat.le_of_lt bZ⟩
   exact rest q hh
 case jk =>
 rintro r ⟨W,hd⟩
 clear hu ho bZ
 refine wpS_bind (wpS_lift (wpAny_rule ⟨rfl,?_⟩))
 refine wpS_bind (wpS_mono (wpS_forRange (Q:=fun c t=>Wk kd z lo q t∧∃x e,c=(none,x,e)∧1≤x∧x≤m∧By kf (arrOf t) lo x∧e<x∧∀k,lo+x-(e+1)≤k→k<lo+x→kn kf (arrOf t) k=kn kf (arrOf t) (lo+x-1)) (fun x c t=>Wk kd z lo q t∧∃e,c=(none,x,e)∧By kf (arrOf t) lo x∧e<x∧∀k,lo+x-(e+1)≤k→k<lo+x→kn kf (arrOf t) k=kn kf (arrOf t) (lo+x-1)) (fun x c t hx Iy hI=>?_) (fun c t hI=>?_) ⟨W,0,rfl,hd,by omega,fun k a b=>by rw[show k=lo+(n+1)-1 by omega]⟩) fun c t hI=>?_)
 ·obtain⟨W,e,rfl,hd,he,hv⟩:=hI
  dsimp only
  refine wpS_bind (mM C W.1 (by omega) (by omega) ?_)
  dsimp only
  by_cases hc:kn kf (arrOf t) (lo+x)<kn kf (arrOf t) (lo+x-1)
  ·rw[decide_eq_true hc,if_pos rfl]
   have one:∀t':SortSt,Wk kd z lo q t'→(∀k,kn kf (arrOf t') k=kn kf (arrOf t) k)→Wk kd z lo q t'∧∃e,((none,x+1,0):Option (Option Nat)×Nat×Nat)=(none,x+1,e)∧By kf (arrOf t') lo (x+1)∧e<x+1∧∀k,lo+(x+1)-(e+1)≤k→k<lo+(x+1)→kn kf (arrOf t') k=kn kf (arrOf t') (lo+(x+1)-1):=fun t' W' EV=>by
    have j4:By kf (arrOf t') lo x:=fun i j gv hj=>by rw[EV,EV];exact hd i j gv hj
    exact⟨W',0,rfl,j4.step (by rw[EV,EV];exact Nat.le_of_lt hc),by omega,fun k a b=>by rw[show k=lo+(x+1)-1 by omega]⟩
   by_cases h0:e > 0
   ·rw[if_pos h0]
    refine wpS_bind (wpS_reverse (wpS_pure (one _ (W.Qr (by omega) (by omega)) fun k=>?_)))
    exact lT (by rw[W.1.n];omega) hv k
   ·rw[if_neg h0]
    exact wpS_pure (one t W fun _=>rfl)
  ·rw[decide_eq_false hc,if_neg (by decide)]
   refine wpS_bind (mM C W.1 (by omega) (by omega) ?_)
   dsimp only
   by_cases rR:kn kf (arrOf t) (lo+x-1)<kn kf (arrOf t) (lo+x)
   ·rw[decide_eq_true rR,if_pos rfl]
    exact wpS_pure ⟨W,x,e,rfl,by omega,by omega,hd,he,hv⟩
   ·rw[decide_eq_false rR,if_neg (by decide)]
    refine wpS_pure ⟨W,e+1,rfl,hd.step (by omega),by omega,fun k a b=>?_⟩
    rw[show lo+(x+1)-1=lo+x by omega]
    rcases Nat.lt_or_ge k (lo+x) with g|g
    ·rw[hv k (by omega) g];omega
    ·rw[show k=lo+x by omega]
 ·obtain⟨W,e,rfl,hd,he,hv⟩:=hI
  rw[show max (n+1) m=m by omega] at hd he hv ⊢
  exact⟨W,m,e,rfl,h1,Nat.le_refl m,hd,he,hv⟩
 obtain⟨W,x,e,rfl,x1,xm,hd,he,hv⟩:=hI
 dsimp only
 refine Tx (ι:=SortSt) (C:=fun r=>Wk kd z lo q r∧By kf (arrOf r) lo x) (G:=?G3) (fun rest=>?jc) ?jd
 case jc =>
  by_cases h0:e > 0
  ·rw[if_pos h0]
   refine wpS_bind (wpS_reverse ?_)
   have hh:Wk kd z lo q (setArr t (mirror (arrOf t) (lo+x-(e+1)) (lo+x) ((lo+x-(lo+x-(e+1)))/2)))∧By kf (arrOf (setArr t (mirror (arrOf t) (lo+x-(e+1)) (lo+x) ((lo+x-(lo+x-(e+1)))/2)))) lo x:=by
    refine⟨W.Qr (by omega) (by omega),fun i j gv hj=>?_⟩
    show kn kf (mirror (arrOf t) (lo+x-(e+1)) (lo+x) ((lo+x-(lo+x-(e+1)))/2)) (lo+j)≤kn kf (mirror (arrOf t) (lo+x-(e+1)) (lo+x) ((lo+x-(lo+x-(e+1)))/2)) (lo+i)
    rw[lT (by rw[W.1.n];omega) hv,lT (by rw[W.1.n];omega) hv]
    exact hd i j gv hj
   generalize setArr t (mirror (arrOf t) (lo+x-(e+1)) (lo+x) ((lo+x-(lo+x-(e+1)))/2))=r2 at hh ⊢
   exact rest r2 hh
  ·rw[if_neg h0]
   exact rest t ⟨W,hd⟩
 case jd =>
 clear hv hd W
 rintro r2 ⟨W,hd⟩
 refine wpS_bind (wpS_reverse ?_)
 have W2:=W.Qr (Nat.le_refl lo) (b:=lo+x) (by omega)
 have hu:vS kf (arrOf (setArr r2 (mirror (arrOf r2) lo (lo+x) ((lo+x-lo)/2)))) lo x:=fun i j gv hj=>by
  show kn kf (mirror (arrOf r2) lo (lo+x) ((lo+x-lo)/2)) (lo+i)≤kn kf (mirror (arrOf r2) lo (lo+x) ((lo+x-lo)/2)) (lo+j)
  rw[mL (by rw[W.1.n];omega),mL (by rw[W.1.n];omega),if_pos (by omega),if_pos (by omega),show lo+(lo+x)-1-(lo+i)=lo+(x-1-i) by omega,show lo+(lo+x)-1-(lo+j)=lo+(x-1-j) by omega]
  exact hd _ _ (by omega) (by omega)
 generalize setArr r2 (mirror (arrOf r2) lo (lo+x) ((lo+x-lo)/2))=r3 at W2 hu ⊢
 refine wpS_bind (wpS_mono (wpS_forRange (Q:=fun c t=>t=r3∧∃n,c=(none,n)∧1≤n∧n≤m∧vS kf (arrOf r3) lo n) (fun y c t=>t=r3∧c=(none,y)∧vS kf (arrOf r3) lo y) (fun y c t hy Tw hI=>?_) (fun c t hI=>?_) ⟨rfl,rfl,hu⟩) fun c t hI=>?_)
 ·obtain⟨rfl,rfl,hu⟩:=hI
  dsimp only
  refine wpS_bind (mM C W2.1 (by omega) (by omega) ?_)
  dsimp only
  by_cases hc:kn kf (arrOf t) (lo+y)<kn kf (arrOf t) (lo+y-1)
  ·rw[decide_eq_true hc,if_pos rfl]
   exact wpS_pure ⟨rfl,y,rfl,by omega,by omega,hu⟩
  ·rw[decide_eq_false hc,if_neg (by decide)]
   exact wpS_pure ⟨rfl,rfl,hu.step (by omega)⟩
 ·obtain⟨rfl,rfl,hu⟩:=hI
  rw[show max x m=m by omega] at hu ⊢
  exact⟨rfl,m,rfl,h1,Nat.le_refl m,hu⟩
 obtain⟨rfl,y,rfl,y1,ym,hu⟩:=hI
 exact wpS_pure (h y t W2 y1 ym hu)
end
section
variable {prog:Program}{w:World}{A:Around}{E:Value→Shared→Prop}{s:Shared}{kd:SortKind}{kf:Keyed→Nat}{z:Array Keyed}{st:SortSt}
theorem KU (C:oN prog w A s kd kf z) {Bz:SortSt}{lo:Nat}(S:Wk kd z lo Bz st) {n ok:Nat}{Q:Bool→SortSt→Prop}(hn:lo+n≤z.size) (h1:1≤ok) (aR:ok≤n) (hu:vS kf (arrOf st) lo ok)
  (h:∀q,Wk kd z lo Bz q→vS kf (arrOf q) lo n→Q true q):wpS (model prog w) A E s (binarySort' lo n ok) Q st:=by
 rw[binarySort'_eq]
 refine wpS_bind (wpS_mono (wpS_forRange (Q:=fun c q=>c=(none,())∧Wk kd z lo Bz q∧vS kf (arrOf q) lo n) (fun k c q=>c=(none,())∧Wk kd z lo Bz q∧vS kf (arrOf q) lo k) (fun k c q hk Gg hI=>?_) (fun c q hI=>?_) ⟨rfl,S,by rw[show max ok 1=ok by omega];exact hu⟩) fun c q hI=>?_)
 ·obtain⟨rfl,S',lP⟩:=hI
  have Qi:lo+k<z.size:=by omega
  have qI:lo+k<(arrOf q).size:=by rw[S'.1.n];exact Qi
  refine wpS_bind (wpS_mono (wpS_forRange (Q:=fun c r=>r=q∧∃l,c.1=none∧c.2.1=l∧l≤k∧(∀i,i<l→kn kf (arrOf q) (lo+i)≤kn kf (arrOf q) (lo+k))∧∀i,l≤i→i<k→kn kf (arrOf q) (lo+k)≤kn kf (arrOf q) (lo+i))
   (fun x c r=>r=q∧∃l u,c=(none,l,u)∧l≤u∧u≤k∧u-l≤k-x∧(∀i,i<l→kn kf (arrOf q) (lo+i)≤kn kf (arrOf q) (lo+k))∧∀i,u≤i→i<k→kn kf (arrOf q) (lo+k)≤kn kf (arrOf q) (lo+i))
   (fun x c r _ hx hI=>?_) (fun c r hI=>?_) ⟨rfl,0,k,rfl,Nat.zero_le k,Nat.le_refl k,by omega,fun i hi=>absurd hi (Nat.not_lt_zero i),fun i a b=>by omega⟩) fun c r hI=>?_)
  ·obtain⟨rfl,l,u,rfl,Qj,Gh,hw,sI,AE⟩:=hI
   dsimp only
   by_cases rG:l ≥ u
   ·rw[if_pos rG]
    obtain rfl:l=u:=by omega
    exact wpS_pure ⟨rfl,l,rfl,rfl,Gh,sI,AE⟩
   rw[if_neg rG]
   refine wpS_bind (mM C S'.1 (i:=lo+k) (j:=lo+(l+u)/2) (by omega) (by omega) ?_)
   dsimp only
   by_cases hc:kn kf (arrOf r) (lo+k)<kn kf (arrOf r) (lo+(l+u)/2)
   ·rw[decide_eq_true hc,if_pos rfl]
    refine wpS_pure ⟨rfl,l,(l+u)/2,rfl,by omega,by omega,by omega,sI,fun i a b=>?_⟩
    rcases Nat.lt_or_ge ((l+u)/2) i with e|e
    ·exact Nat.le_trans (Nat.le_of_lt hc) (lP _ _ e b)
    ·rw[show i=(l+u)/2 by omega];exact Nat.le_of_lt hc
   ·rw[decide_eq_false hc,if_neg (by decide)]
    refine wpS_pure ⟨rfl,(l+u)/2+1,u,rfl,by omega,Gh,by omega,fun i a=>?_,AE⟩
    rcases Nat.lt_or_ge i ((l+u)/2) with e|e
    ·have:=lP i ((l+u)/2) e (by omega);omega
    ·rw[show i=(l+u)/2 by omega];omega
  ·obtain⟨rfl,l,u,rfl,Qj,Gh,hw,sI,AE⟩:=hI
   obtain rfl:l=u:=by omega
   exact⟨rfl,l,rfl,rfl,Gh,sI,AE⟩
  ·obtain⟨rfl,l,e1,e2,hlk,sI,AE⟩:=hI
   obtain⟨c1,c2,c3⟩:=c
   obtain rfl:c1=none:=e1
   obtain rfl:c2=l:=e2
   show wpS _ _ _ _ (moveDown' (lo+k) (lo+c2) >>= fun _=>pure (ForInStep.yield (none,()))) _ _
   rw[moveDown'_eq,show lo+k-(lo+c2)=k-c2 by omega]
   have g:∀t,(bubble (arrOf r) (lo+k) (k-c2))[t]?=if t=lo+c2 then (arrOf r)[lo+k]? else if lo+c2<t∧t≤lo+k then (arrOf r)[t-1]? else (arrOf r)[t]?:=fun t=>by
    have g:=getElem?_bubble qI (k-c2) (by omega) t
    rw[show lo+k-(k-c2)=lo+c2 by omega] at g
    exact g
   refine wpS_bind (wpS_modify (wpS_pure ⟨rfl,S'.set (bubble_perm _ _ _) (fun i hi=>by rw[g,if_neg (by omega),if_neg (by omega)]),fun i j gv hj=>?_⟩))
   have e:∀t,kn kf (bubble (arrOf r) (lo+k) (k-c2)) (lo+t)=if t=c2 then kn kf (arrOf r) (lo+k) else if c2<t∧t≤k then kn kf (arrOf r) (lo+(t-1)) else kn kf (arrOf r) (lo+t):=fun t=>by
    have g:=g (lo+t)
    by_cases q1:t=c2
    ·rw[if_pos (by omega)] at g;rw[if_pos q1];exact lO g
    ·rw[if_neg (by omega)] at g;rw[if_neg q1]
     by_cases q2:c2<t∧t≤k
     ·rw[if_pos (by omega),show lo+t-1=lo+(t-1) by omega] at g;rw[if_pos q2];exact lO g
     ·rw[if_neg (by omega)] at g;rw[if_neg q2];exact lO g
   show kn kf (bubble (arrOf r) (lo+k) (k-c2)) (lo+i)≤kn kf (bubble (arrOf r) (lo+k) (k-c2)) (lo+j)
   rw[e,e]
   by_cases i1:i=c2
   ·rw[if_pos i1,if_neg (by omega),if_pos (by omega)]
    exact AE _ (by omega) (by omega)
   ·rw[if_neg i1]
    by_cases i2:c2<i∧i≤k
    ·rw[if_pos i2,if_neg (by omega),if_pos (by omega)]
     exact lP _ _ (by omega) (by omega)
    ·rw[if_neg i2]
     by_cases j1:j=c2
     ·rw[if_pos j1];exact sI _ (by omega)
     ·rw[if_neg j1]
      by_cases j2:c2<j∧j≤k
      ·rw[if_pos j2]
       rcases Nat.lt_or_ge i (j-1) with g|g
       ·exact lP _ _ g (by omega)
       ·rw[show i=j-1 by omega];exact Nat.le_refl _
      ·rw[if_neg j2];exact lP _ _ gv (by omega)
 ·obtain⟨rfl,S',lP⟩:=hI
  rw[show max (max ok 1) n=n by omega] at lP
  exact⟨rfl,S',lP⟩
 ·obtain⟨rfl,S',lP⟩:=hI
  exact wpS_pure (h q S' lP)
end
theorem xZ {kf:Keyed→Nat}:∀{ps:List (Nat×Nat×Nat)}{ls:List (List Keyed)}{k:Nat},Pd kf ps ls k→ps.length=ls.length∧ps.length≤ls.flatten.length
 | [],[],_,_=>⟨rfl,Nat.le_refl 0⟩
 | [],_::_,_,h=>h.elim
 | _::_,[],_,h=>h.elim
 | (s,n,p)::ps,l::ls,k,h=>by
  obtain⟨rfl,rfl,h1,h2,h3⟩:=h
  have:=xZ h3
  simp only[List.length_cons,List.flatten_cons,length_append]
  omega
theorem zD {kf:Keyed→Nat}{l:List Keyed}{n p:Nat}(hn:n=l.length) (n1:1≤n) (hl:l.Pairwise (fD kf)):∀{ps:List (Nat×Nat×Nat)}{ls:List (List Keyed)}{k:Nat},Pd kf ps ls k→Pd kf (ps++[(k+ls.flatten.length,n,p)]) (ls++[l]) k
 | [],[],_,_=>⟨rfl,hn,n1,hl,trivial⟩
 | [],_::_,_,h=>h.elim
 | _::_,[],_,h=>h.elim
 | (s,m,q)::ps,l'::ls,k,h=>by
  obtain⟨rfl,rfl,h1,h2,h3⟩:=h
  have:=zD hn n1 hl h3 (p:=p)
  rw[List.flatten_cons,length_append,←Nat.add_assoc]
  exact⟨rfl,rfl,h1,h2,this⟩
theorem DN {kf:Keyed→Nat}{w:Nat}:∀{ps:List (Nat×Nat×Nat)}{ls:List (List Keyed)}{k:Nat}(i:Nat),Pd kf ps ls k→Pd kf (ps.modify i fun x=>(x.1,x.2.1,w)) ls k
 | [],[],_,i,_=>by cases i<;>exact trivial
 | [],_::_,_,_,h=>h.elim
 | _::_,[],_,_,h=>h.elim
 | (s,n,p)::ps,l::ls,k,0,h=>h
 | (s,n,p)::ps,l::ls,k,i+1,h=>by
  obtain⟨h0,h0',h1,h2,h3⟩:=h
  exact⟨h0,h0',h1,h2,DN i h3⟩
theorem vS.list {kf:Keyed→Nat}{xs:Array Keyed}{lo n:Nat}(h:vS kf xs lo n):((xs.toList.drop lo).take n).Pairwise (fD kf):=by
 rw[List.pairwise_iff_getElem]
 intro i j hi hj gv
 have hjn:j<n:=by rw[length_take] at hj;omega
 have e:∀t (ht:t<((xs.toList.drop lo).take n).length),kf ((xs.toList.drop lo).take n)[t]=kn kf xs (lo+t):=fun t ht=>by
  have L5:t<n:=by rw[length_take] at ht;omega
  have:((xs.toList.drop lo).take n)[t]?=xs[lo+t]?:=by rw[List.getElem?_take,if_pos L5,List.getElem?_drop,Array.getElem?_toList]
  rw[getElem?_eq_getElem ht] at this
  unfold kn
  rw[←this];rfl
 show kf _≤kf _
 rw[e i hi,e j hj]
 exact h i j gv hjn
section
variable {prog:Program}{w:World}{A:Around}{E:Value→Shared→Prop}{s:Shared}{kd:SortKind}{kf:Keyed→Nat}{z:Array Keyed}{st:SortSt}
noncomputable def Tz (kd:SortKind) (kf:Keyed→Nat) (z:Array Keyed) (lo:Nat) (q:SortSt):Prop:=qL kd z q∧∃ls T,Pd kf (pendingOf q).toList ls 0∧(arrOf q).toList=ls.flatten++T∧ls.flatten.length=lo
theorem DO (C:oN prog w A s kd kf z) (S:qL kd z st) (hp:pendingOf st=#[]) {Q:Unit→SortSt→Prop}
  (h:∀q,qL kd z q→(arrOf q).toList.Pairwise (fD kf)→Q () q):wpS (model prog w) A E s sortRuns' Q st:=by
 rw[sortRuns'_eq]
 refine wpS_bind (wpS_get ?_)
 dsimp only
 rw[S.n]
 generalize minRun' z.size z.size 0=mr
 refine wpS_bind (wpS_mono (wpS_forRange (Q:=fun c q=>c=(none,z.size)∧Tz kd kf z z.size q) (fun x c q=>∃lo,c=(none,lo)∧x≤lo∧lo≤z.size∧Tz kd kf z lo q) (fun x c q _ hx hI=>?_) (fun c q hI=>?_) ⟨0,rfl,Nat.le_refl 0,Nat.zero_le _,S,[],(arrOf st).toList,by rw[hp];exact trivial,rfl,rfl⟩) fun c q hI=>?_)
 ·obtain⟨lo,rfl,NZ,hlz,B⟩:=hI
  dsimp only
  by_cases rG:lo ≥ z.size
  ·rw[if_pos rG]
   obtain rfl:lo=z.size:=by omega
   exact wpS_pure ⟨rfl,B⟩
  rw[if_neg rG]
  obtain⟨Sq,ls,T,Qs,hL,sI⟩:=B
  refine wpS_bind (KS C Sq (lo:=lo) (m:=z.size-lo) (by omega) (by omega) fun n r W n1 nm hu=>?_)
  dsimp only
  refine NR (ι:=Nat) (κ:=SortSt) (C:=fun n r=>Wk kd z lo q r∧1≤n∧n≤z.size-lo∧vS kf (arrOf r) lo n) (G:=?G) (fun rest=>?ja) ?jk
  case ja =>
   by_cases hc:n<mr
   ·rw[if_pos hc]
    refine wpS_bind (wpS_lift (wpAny_rule ⟨rfl,?_⟩))
    refine wpS_bind (KU C W (n:=min (z.size-lo) mr) (by omega) n1 (by omega) hu fun r2 W2 SH=>?_)
    rw[if_neg (by decide)]
    have hh:Wk kd z lo q r2∧1≤min (z.size-lo) mr∧min (z.size-lo) mr≤z.size-lo∧vS kf (arrOf r2) lo (min (z.size-lo) mr):=⟨W2,by omega,by omega,SH⟩
    generalize min (z.size-lo) mr=n2 at hh ⊢
    exact rest n2 r2 hh
   ·rw[if_neg hc]
    exact rest n r ⟨W,n1,nm,hu⟩
  case jk =>
  clear hu nm n1 W
  rintro n2 r2 ⟨W,n1,nm,hu⟩
  obtain⟨T2,LY⟩:∃T2,(arrOf r2).toList.drop lo=T2:=⟨_,rfl⟩
  have PQ:(arrOf r2).toList.take lo=ls.flatten:=by
   have e1:ls.flatten=(arrOf q).toList.take lo:=by rw[hL,←sI,List.take_left]
   rw[e1]
   refine List.ext_getElem? fun i=>?_
   rw[List.getElem?_take,List.getElem?_take]
   split
   ·rename_i hi
    rw[Array.getElem?_toList,Array.getElem?_toList];exact W.2.2 i hi
   ·rfl
  have uN:(arrOf r2).toList=ls.flatten++T2:=by rw[←PQ,←LY,List.take_append_drop]
  have S8:(T2.take n2).Pairwise (fD kf):=by rw[←LY];exact hu.list
  have hT2l:n2≤T2.length:=by
   have:(arrOf r2).toList.length=z.size:=by rw[Array.length_toList,W.1.n]
   rw[uN,length_append] at this;omega
  have fin:∀(r3:SortSt) (iW:List (List Keyed)),qL kd z r3→Pd kf (pendingOf r3).toList iW 0→(arrOf r3).toList=iW.flatten++T2→iW.flatten.length=lo→Tz kd kf z (lo+n2) (setPending r3 ((pendingOf r3).push (lo,n2,0))):=fun r3 iW S3 P3 L3 l3=>by
   refine⟨⟨S3.p,S3.k,S3.f⟩,iW++[T2.take n2],T2.drop n2,?_,?_,?_⟩
   ·have:=zD (n:=n2) (p:=0) (l:=T2.take n2) (by rw[length_take];omega) n1 S8 P3
    rw[Nat.zero_add,l3] at this
    show Pd kf ((pendingOf r3).push (lo,n2,0)).toList _ 0
    rw[Array.toList_push];exact this
   ·show (arrOf r3).toList=_
    rw[L3];simp
   ·rw[List.flatten_append,length_append,l3];simp;omega
  refine wpS_bind (wpS_get ?_)
  have P2:Pd kf (pendingOf r2).toList ls 0:=by rw[W.2.1];exact Qs
  cases hbk:(pendingOf r2).back? with
  | none =>
   dsimp only
   exact wpS_bind (wpS_modify (wpS_pure ⟨lo+n2,rfl,by omega,by omega,fin r2 ls W.1 P2 uN sI⟩))
  | some t =>
   obtain⟨s1,m1,p1⟩:=t
   dsimp only
   refine wpS_bind (wpS_mono (wpS_forRange (Q:=fun c r3=>c=(none,())∧qL kd z r3∧∃iW,Pd kf (pendingOf r3).toList iW 0∧(arrOf r3).toList=iW.flatten++T2∧iW.flatten.length=lo) (fun x c r3=>c=(none,())∧qL kd z r3∧∃iW,Pd kf (pendingOf r3).toList iW 0∧(arrOf r3).toList=iW.flatten++T2∧iW.flatten.length=lo) (fun x c r3 _ hx hI=>?_) (fun c r3 hI=>hI) ⟨rfl,W.1,ls,P2,uN,sI⟩) fun c r3 hI=>?_)
   ·obtain⟨rfl,S3,iW,P3,L3,l3⟩:=hI
    refine wpS_bind (wpS_get ?_)
    by_cases h2:(pendingOf r3).size > 1
    ·rw[if_pos h2]
     cases he:(pendingOf r3)[(pendingOf r3).size-2]? with
     | none=>exact wpS_pure ⟨rfl,S3,iW,P3,L3,l3⟩
     | some t =>
      obtain⟨u1,u2,u3⟩:=t
      dsimp only
      refine cD (fun _=>wpS_pure ⟨rfl,S3,iW,P3,L3,l3⟩) (fun _=>?_)
      refine wpS_bind (DM C S3 P3 L3 (by omega) fun r4 TB S4 P4 L4 _ l4=>?_)
      rw[if_neg (by decide)]
      exact wpS_pure ⟨rfl,S4,TB,P4,L4,by rw[l4,l3]⟩
    ·rw[if_neg h2]
     exact wpS_pure ⟨rfl,S3,iW,P3,L3,l3⟩
   ·obtain⟨rfl,S3,iW,P3,L3,l3⟩:=hI
    dsimp only
    refine wpS_bind (wpS_modify ?_)
    refine wpS_bind (wpS_modify (wpS_pure ⟨lo+n2,rfl,by omega,by omega,fin _ iW ⟨S3.p,S3.k,S3.f⟩ ?_ L3 l3⟩))
    show Pd kf ((pendingOf r3).modify _ _).toList iW 0
    rw[Array.toList_modify]
    exact DN _ P3
 ·obtain⟨lo,rfl,NZ,hlz,B⟩:=hI
  obtain rfl:lo=z.size:=by omega
  exact⟨rfl,B⟩
 ·obtain⟨rfl,Sq,ls,T,Qs,hL,sI⟩:=hI
  dsimp only
  obtain rfl:T=[]:=by
   have:(arrOf q).toList.length=z.size:=by rw[Array.length_toList,Sq.n]
   rw[hL,length_append] at this
   exact List.eq_nil_of_length_eq_zero (by omega)
  have hps:(pendingOf q).size≤z.size:=by have:=(xZ Qs).2;rw[Array.length_toList] at this;omega
  refine wpS_bind (wpS_mono (wpS_forRange (Q:=fun c r=>c=(none,())∧qL kd z r∧(pendingOf r).size≤1∧∃iW,Pd kf (pendingOf r).toList iW 0∧(arrOf r).toList=iW.flatten++[]) (fun x c r=>c=(none,())∧qL kd z r∧(pendingOf r).size+x≤max (x+1) z.size∧∃iW,Pd kf (pendingOf r).toList iW 0∧(arrOf r).toList=iW.flatten++[]) (fun x c r _ hx hI=>?_) (fun c r hI=>?_) ⟨rfl,Sq,by omega,ls,Qs,hL⟩) fun c r hI=>?_)
  ·obtain⟨rfl,Sr,hsz,iW,Pr,Lr⟩:=hI
   refine wpS_bind (wpS_get ?_)
   refine cD (fun h1=>wpS_pure ⟨rfl,Sr,h1,iW,Pr,Lr⟩) (fun h1=>?_)
   refine Tx (ι:=Nat) (C:=fun i=>i+1<(pendingOf r).size) (G:=?G9) (fun rest=>?jc) ?jd
   case jc =>
    generalize hi:(if Option.any _ _=true then (pendingOf r).size-2-1 else (pendingOf r).size-2)=i
    refine rest i ?_
    rw[←hi]
    have two:∀c:Bool,(if c=true then (pendingOf r).size-2-1 else (pendingOf r).size-2)+1<(pendingOf r).size:=fun c=>by
     cases c
     ·rw[if_neg (by decide)];omega
     ·rw[if_pos rfl];omega
    exact two _
   case jd =>
   intro i hi
   refine wpS_bind (DM C Sr Pr Lr hi fun r4 TB S4 P4 L4 e4 l4=>?_)
   rw[if_neg (by decide)]
   exact wpS_pure ⟨rfl,S4,by omega,TB,P4,L4⟩
  ·obtain⟨rfl,Sr,hsz,iW,Pr,Lr⟩:=hI
   exact⟨rfl,Sr,by omega,iW,Pr,Lr⟩
  ·obtain⟨rfl,Sr,h1,iW,Pr,Lr⟩:=hI
   refine wpS_pure (h r Sr ?_)
   rw[Lr,List.append_nil]
   have hl:=(xZ Pr).1
   rw[Array.length_toList] at hl
   match iW,hl,Pr with
   | [],_,_=>exact .nil
   | [l],_,Pr =>
    match hq:(pendingOf r).toList,Pr with
    | [(a,b,c)],Pr =>
     have:=Pr.2.2.2.1
     simpa using this
   | _::_::_,hl,_=>simp at hl;omega
end
end L2
set_option maxHeartbeats 1000000
namespace L2
open PySem PySem.Spec PyProof.Rows
theorem pw_short {kf:Keyed→Nat}:∀{l:List Keyed},l.length≤1→l.Pairwise (fD kf)
 | [],_=>.nil
 | [x],_=>List.pairwise_singleton _ _
 | _::_::_,h=>absurd h (by simp)
theorem IV:∀{ks:List Value},(∀k∈ks,∃p t,k = .int p t)→∃ns,IntsAre ks ns
 | [],_=>⟨[],.nil⟩
 | k::ks,h=>by
  obtain⟨p,t,rfl⟩:=h k mem_cons_self
  obtain⟨ns,hn⟩:=IV (ks:=ks) fun k hk=>h k (mem_cons_of_mem _ hk)
  exact⟨p::ns,.cons p t hn⟩
theorem AR {A:Around}{s:Shared}{prog:Program}{w:World}{E:Value→Shared→Prop}{ks:List Value}{Q:SortKind→Shared→Prop}(h:∀k∈ks,∃p t,k = .int p t) (h2:2≤ks.length) (q:Q oneType' s):wpAny (model prog w) A (keyKind' ks.toArray) Q E s:=by
 match ks,h2 with
 | a::b::r,_ =>
  obtain⟨ns,hn⟩:=IV h
  rw[keyKind_ints hn]
  exact wpAny_pure q
section
variable {A:Around}{s:Shared}{prog:Program}{w:World}{E:Value→Shared→Prop}
theorem DP {l f:Addr}{vs:List Value}{n:Nat}{P:Fin→Shared→Prop}(J:Nat→List Value→Shared→Prop) (ho:s.heap.get? l=some (seqObj "list" vs.toArray n)) (hn:vs.length≤sizeLine)
  (h0:∀ep,(s.heap.update l (Obj.mapSeq fun _=>#[])).get? l=some (seqObj "list" #[] ep)→J ep [] { s with heap:=((s.heap.update l (Obj.mapSeq fun _=>#[])).push (seqObj "tuple" vs.toArray 0)).push (seqObj "list" #[] 0) })
  (hc:∀(ep:Nat) (ks:List Value) (x:Value) (s1:Shared),vs[ks.length]?=some x→J ep ks s1→wpAny (model prog w) A (call (.ref f) [x]) (fun k s2=>wpAny (model prog w) A (Builtin.List.listUpdate (.ref (s.heap.objs.size+1)) fun xs=>xs.push k) (fun _ s3=>J ep (ks++[k]) s3) E s2) (fun _ _=>False) s1)
  (hd:∀(ep:Nat) (ks:List Value) (s1:Shared),ks.length=vs.length→J ep ks s1→∃(m:Nat) (kf:Keyed→Nat),s1.heap.get? (s.heap.objs.size+1)=some (seqObj "list" ks.toArray m)∧s1.heap.get? l=some (seqObj "list" #[] ep)∧s.heap.objs.size+1≠l ∧
   (∀k∈ks,∃p t,k = .int p t)∧oN prog w A s1 oneType' kf (ks.toArray.zip vs.toArray) ∧
   ∀xs:Array Keyed,xs.Perm (ks.toArray.zip vs.toArray)→xs.toList.Pairwise (fD kf)→P (.done (.ret .none)) { s1 with heap:=(s1.heap.update (s.heap.objs.size+1) (Obj.mapSeq fun _=>#[])).update l (Obj.mapSeq fun _=>xs.map (·.2)) }) :
  wpAny (model prog w) A (Builtin.«list.sort» ⟨[.ref l],[("key",.ref f)]⟩) P E s:=by
 have e0:([("key",Value.ref f)]:List (Str×Value)).lookup ("key":Str)=some (.ref f):=rfl
 have e1:([("key",Value.ref f)]:List (Str×Value)).lookup ("reverse":Str)=none:=rfl
 unfold Builtin.«list.sort»
 dsimp only
 rw[if_neg (by show ¬(0+1 > 2);decide),if_neg (by show ¬((!true)=true);decide)]
 refine wpAny_bind ?_
 rw[List.forIn_cons]
 refine wpAny_bind ?_
 rw[if_neg (by show ¬((("key":Str) != "key"&&("key":Str) != "reverse")=true);decide)]
 refine wpAny_pure ?_
 dsimp only
 rw[List.forIn_nil]
 refine wpAny_pure ?_
 rw[e1,e0]
 refine(wpAny_bind (wpAny_pure ?_))
 have hf:(((some (Value.ref f)).getD Value.none != Value.none)=true):=rfl
 refine(wpAny_bind (listItems_at ho rfl ?_))
 refine(wpAny_bind (listUpdate_at ho rfl ?_))
 obtain⟨ep,JW⟩:∃ep,(s.heap.update l (Obj.mapSeq fun _=>#[])).get? l=some (seqObj "list" #[] ep):=⟨_,get?_update_seq ho (fun _=>#[])⟩
 refine(wpAny_bind (seqEpoch_at JW rfl ?_))
 refine(wpAny_bind (wpAny_newTuple ?_))
 refine(wpAny_bind (wpAny_newList ?_))
 refine wpAny_holding ?_
 rw[if_pos hf]
 refine(wpAny_bind (wpAny_rule ?_))
 refine wpAny_bind ?_
 have hsz:(s.heap.update l (Obj.mapSeq fun _=>#[])).objs.size=s.heap.objs.size:=Heap.size_update ..
 show wpAny _ _ (forIn vs.toArray PUnit.unit _) _ _ { s with heap:=((s.heap.update l (Obj.mapSeq fun _=>#[])).push (seqObj "tuple" vs.toArray 0)).push (seqObj "list" #[] 0) }
 rw[List.forIn_toArray]
 refine mH (f:=f) (q:=s.heap.objs.size+1) (vs:=vs) (J:=J ep) (fun x s1 R hx=>?_) (hc ep) (fun ks s1 qI hJ=>?_) vs [] _ rfl (Nat.zero_le _) (h0 ep JW)
 ·refine wpAny_bind (wpAny_attempt (wpAny_mono hx (fun k s2 h2=>?_) fun _ _ z=>False.elim z))
  dsimp only
  refine wpAny_bind ?_
  rw[size_push',hsz]
  exact wpAny_mono h2 (fun _ s3 h3=>wpAny_pure h3) fun _ _ z=>z
 ·obtain⟨m,kf,hq,hl,fG,LW,Kl,hP⟩:=hd ep ks s1 qI hJ
  rw[if_pos hf]
  simp only[size_push',hsz]
  refine wpAny_bind (listItems_at hq rfl ?_)
  rw[if_neg (by decide)]
  have hsv:vs.toArray.size=vs.length:=by simp
  by_cases h2:(vs.toArray.size<2)
  ·rw[if_pos h2]
   refine(wpAny_bind (wpAny_pure ?_))
   rw[if_pos h2]
   refine wpAny_bind (wpAny_mono (Q:=fun a s'=>s'=s1∧(arrOf a.2).Perm (ks.toArray.zip vs.toArray)∧failedOf a.2=none∧(arrOf a.2).toList.Pairwise (fD kf)) ?_ ?_ fun _ _ z=>z)
   ·rw[StateT.run_pure]
    exact wpAny_pure ⟨rfl,Array.Perm.refl _,rfl,pw_short (by show (ks.toArray.zip vs.toArray).toList.length≤1;simp;simp at h2;omega)⟩
   ·rintro⟨⟨⟩,st⟩ s' ⟨rfl,hp,AF,Km⟩
    rw[if_pos hf]
    have LX:(ks.toArray.zip vs.toArray).size=vs.length:=by simp[qI]
    refine wpAny_bind (listUpdate_at hq rfl ?_ (by rw[List.size_toArray];omega) (Nat.zero_le _))
    refine(wpAny_bind (wpAny_letGo ?_))
    have uK:(s'.heap.update (s.heap.objs.size+1) (Obj.mapSeq fun _=>#[])).get? l=some (seqObj "list" #[] ep):=(Heap.get?_update_other _ _ fG).trans hl
    refine wpAny_bind (seqEpoch_at uK rfl ?_)
    refine wpAny_bind (listUpdate_at uK rfl ?_ (Nat.zero_le _) (by rw[if_neg (by decide),Array.size_map];have qu:(arrOf st).size=_:=hp.size_eq;show (arrOf st).size≤_;omega))
    dsimp only at AF
    rw[show (sortPriv% PySem.Builtin.SortState.failed) (((),st):Unit×SortSt).snd=none from AF]
    dsimp only
    rw[if_neg (by simp)]
    exact wpAny_pure (hP (arrOf st) hp Km)
  ·rw[if_neg h2]
   refine wpAny_bind (AR LW (by rw[qI];simpa using h2) ?_)
   rw[if_neg h2]
   refine wpAny_bind (wpAny_mono (Q:=fun a s'=>s'=s1∧(arrOf a.2).Perm (ks.toArray.zip vs.toArray)∧failedOf a.2=none∧(arrOf a.2).toList.Pairwise (fD kf)) ?_ ?_ fun _ _ z=>z)
   ·have LX:(ks.toArray.zip vs.toArray).size=vs.length:=by simp[qI]
    exact DO (kd:=oneType') (kf:=kf) (z:=ks.toArray.zip vs.toArray) (st:=SortSt.mk' oneType' (ks.toArray.zip vs.toArray) #[] 7 none) (Q:=fun _ q=>(arrOf q).Perm (ks.toArray.zip vs.toArray)∧failedOf q=none∧(arrOf q).toList.Pairwise (fD kf)) Kl ⟨Array.Perm.refl _,rfl,rfl⟩ rfl fun q q1 q2=>⟨q1.p,q1.f,q2⟩
   ·rintro⟨⟨⟩,st⟩ s' ⟨rfl,hp,AF,Km⟩
    rw[if_pos hf]
    have LX:(ks.toArray.zip vs.toArray).size=vs.length:=by simp[qI]
    refine wpAny_bind (listUpdate_at hq rfl ?_ (by rw[List.size_toArray];omega) (Nat.zero_le _))
    refine(wpAny_bind (wpAny_letGo ?_))
    have uK:(s'.heap.update (s.heap.objs.size+1) (Obj.mapSeq fun _=>#[])).get? l=some (seqObj "list" #[] ep):=(Heap.get?_update_other _ _ fG).trans hl
    refine wpAny_bind (seqEpoch_at uK rfl ?_)
    refine wpAny_bind (listUpdate_at uK rfl ?_ (Nat.zero_le _) (by rw[if_neg (by decide),Array.size_map];have qu:(arrOf st).size=_:=hp.size_eq;show (arrOf st).size≤_;omega))
    dsimp only at AF
    rw[show (sortPriv% PySem.Builtin.SortState.failed) (((),st):Unit×SortSt).snd=none from AF]
    dsimp only
    rw[if_neg (by simp)]
    exact wpAny_pure (hP (arrOf st) hp Km)
end
end L2
set_option maxHeartbeats 1000000
namespace L2
open PySem PySem.Spec PyProof.Rows
noncomputable def TF (q:Addr) (ks:List Value) (m:Nat):HO:=.ext fun h=>h.get? q=some (seqObj "list" ks.toArray m)
noncomputable def TH (X:Cx) (pins:List (Addr×Obj)) (σ:St) (H:Hp) (kp:V→Int) (xs:List V) (l q:Addr) (ep:Nat) (ks:List Value) (s1:Shared):Prop :=
 ∃(H1:Hp) (m:Nat),Inv X pins σ H1 s1∧ao H H1∧H1 l=some (xK l ep)∧H1 q=some (TF q ks m)∧∀(i:Nat) (x:V) (k:Value),xs[i]?=some x→ks[i]?=some k→∃t,k = .int (kp x) t
section
variable {X:Cx}{pins:List (Addr×Obj)}{σ:St}{H:Hp}{s:Shared}{k:Nat}{f:Addr}{fd:FuncData}{p:Str}{sp:Sp}{l0:Addr}{xs:List V}{kp:V→Int}{Q:VK}
theorem AS (F:fj X.prog X.w X.K X.mg X.base bu k f fd [p] sp) (hb:Binds X.K fd [p] []) (hr:bK (k+2) X.A)
  (hk:∀x H1 (Q':VK),x∈xs→ao H H1→(∀H2,ao H1 H2→Q' (.int (kp x)) H2)→sp [x] H1 Q' E0)
  {vs:List Value}(r:Vals xs vs) (hn:xs.length≤100000) {l q:Addr}(SK:l≠q) (SM:H q=none) (ep:Nat) (ks:List Value) (x:Value) (s1:Shared) (hx:vs[ks.length]?=some x) (hJ:TH X pins σ H kp xs l q ep ks s1) :
  wpAny (model X.prog X.w) X.A.in1.in1 (call (.ref f) [x]) (fun c s2=>wpAny (model X.prog X.w) X.A.in1.in1 (Builtin.List.listUpdate (.ref q) fun xs=>xs.push c) (fun _ s3=>TH X pins σ H kp xs l q ep (ks++[c]) s3) X.xe s2) (fun _ _=>False) s1:=by
 obtain⟨H1,m,I1,Gm,Dj,Gn,Iz⟩:=hJ
 have bZ:ks.length<xs.length:=by rw[r.length];exact(List.getElem?_eq_some_iff.mp hx).1
 obtain⟨y,hy⟩:∃y,xs[ks.length]?=some y:=⟨xs[ks.length],getElem?_eq_getElem bZ⟩
 obtain⟨u,hu,ru⟩:=r.get hy
 rw[hx] at hu
 cases hu
 have ow:y∈xs:=mem_of_getElem? hy
 have hp:=hk y H1 (fun v H2=>v = .int (kp y)∧ao H1 H2) ow Gm fun H2 s2=>⟨rfl,s2⟩
 refine wpAny_call (codeAny_mono (F.run X.A.in1.in1 X.stack s1 H1 ⟨[x],[]⟩ [x] [y] _ E0 hr.in1.in1 I1.Ak.in1.in1 (hb s1 [x] I1.iR rfl) (.cons ru .nil) hp) fun r' s2 qu=>?_)
 cases r' with
 | error e=>exact qu
 | ok fl =>
  cases fl with
  | next=>exact qu
  | brk=>exact qu
  | cont=>exact qu
  | ret c =>
   obtain⟨v,H2,I2,rv,rfl,IC⟩:=I1.after qu
   obtain⟨t,rfl⟩:∃t,c = .int (kp y) t:=rv
   have ID:=IC _ _ Gn
   have eo:s2.heap.get? q=some (seqObj "list" ks.toArray m):=(I2.aR q _ ID).1
   have lb:=dI
   refine listUpdate_at eo rfl ?_ (by rw[List.size_toArray];omega) (by rw[Array.size_push,List.size_toArray];omega)
   have KW:=get?_update_seq eo (fun xs=>xs.push (.int (kp y) t))
   rw[show ks.toArray.push (Value.int (kp y) t)=(ks++[Value.int (kp y) t]).toArray by simp] at KW
   obtain⟨m',KW⟩:∃m',(s2.heap.update q (Obj.mapSeq fun xs=>xs.push (.int (kp y) t))).get? q=some (seqObj "list" (ks++[Value.int (kp y) t]).toArray m'):=⟨_,KW⟩
   have mu:Ff (H2 q):=by rw[ID];exact trivial
   have I3:Inv X pins σ (upd H2 q (TF q (ks++[Value.int (kp y) t]) m')) { s2 with heap:=s2.heap.update q (Obj.mapSeq fun xs=>xs.push (.int (kp y) t)) }:=by
    have kk:∀b u,b≠q→s2.heap.get? b=some u→(s2.heap.update q (Obj.mapSeq fun xs=>xs.push (.int (kp y) t))).get? b=some u:=fun b u iQ hu=>(Heap.get?_update_other _ _ (Ne.symm iQ)).trans hu
    generalize s2.heap.update q (Obj.mapSeq fun xs=>xs.push (.int (kp y) t))=h6 at KW kk ⊢
    exact I2.write (t':=s2.toks) (h':=h6) mu (.inl rfl) kk ⟨_,KW⟩ ⟨KW,⟨_,KW⟩,fun _ _ e kk=>kk _ e⟩
   refine⟨_,_,I3,(Gm.trans IC).upd SM,?_,ah,fun i z b B7 iQ=>?_⟩
   ·rw[av SK];exact IC _ _ Dj
   ·rcases Nat.lt_or_ge i ks.length with hi|hi
    ·rw[getElem?_append_left hi] at iQ
     exact Iz i z b B7 iQ
    ·have E3:i=ks.length:=by
      have:=(List.getElem?_eq_some_iff.mp iQ).1
      rw[length_append] at this
      have:i<ks.length+1:=this
      omega
     subst E3
     rw[getElem?_append_right (Nat.le_refl _),Nat.sub_self] at iQ
     cases iQ
     rw[hy] at B7
     cases B7
     exact⟨t,rfl⟩
end
end L2
set_option maxHeartbeats 1000000
namespace L2
open PySem PySem.Spec PyProof.Rows
noncomputable def KY (x:Keyed):Nat:=match x.1 with
 | .int p _=>p.toNat
 | _=>0
section
variable {X:Cx}{pins:List (Addr×Obj)}{σ:St}{H:Hp}{s:Shared}{k:Nat}{f:Addr}{fd:FuncData}{p:Str}{sp:Sp}{l0:Addr}{xs:List V}{kp:V→Int}{Q:VK}
theorem vT (F:fj X.prog X.w X.K X.mg X.base bu k f fd [p] sp) (hb:Binds X.K fd [p] []) (hr:bK (k+2) X.A) (I:Inv X pins σ H s) (hl:cC X.K H l0 xs) (hn:xs.length≤100000)
  (hk:∀x H1 (Q':VK),x∈xs→ao H H1→(∀H2,ao H1 H2→Q' (.int (kp x)) H2)→sp [x] H1 Q' E0)
  (zi:∀x∈xs,0≤kp x)
  (hQ:∀l H' ws,ao H H'→H l=none→H' l=some (.lst ws)→ws.Perm xs→ws.Pairwise (fun x y=>kp x≤kp y)→Q (.ref l) H') :
  wpAny (model X.prog X.w) X.A (call (.builtin "sorted") [.ref l0] [("key",.ref f)]) (EP X pins σ Q) X.xe s:=by
 obtain⟨vs,r,⟨o,n,ho,hc,hdc,hd⟩,hz⟩:=I.list hl
 have hlen:=r.length
 have SN:s.heap.IsList l0 vs.toArray:=⟨o,ho,hc,n,hd⟩
 refine call_function_entry_kw kind_sorted plain_sorted entry_sorted (lQ _ _) ?_
 unfold Builtin.«sorted»
 refine(wpAny_bind (m:=checkCount "sorted" 1 1 _) (wpAny_pure ?_))
 have lb:=dI
 refine wpAny_bind (collect_list SN ?_ (by omega))
 refine wpAny_bind (wpAny_newList ?_ (by omega))
 have hsz:((s.heap.push (seqObj "list" #[] 0)).update s.heap.objs.size (Obj.mapSeq (·++vs.toArray))).objs.size=s.heap.objs.size+1:=(Heap.size_update ..).trans (size_push' ..)
 have vE:∀b u,s.heap.get? b=some u→(((s.heap.push (seqObj "list" #[] 0)).update s.heap.objs.size (Obj.mapSeq (·++vs.toArray))).push (seqObj "list" vs.toArray 0)).get? b=some u:=fun b u e=>by
  have:b≠s.heap.objs.size:=Nat.ne_of_lt (Heap.lt_size e)
  exact Heap.get?_push_of_some _ ((Heap.get?_update_other _ _ (Ne.symm this)).trans (Heap.get?_push_of_some _ e))
 have tj:(((s.heap.push (seqObj "list" #[] 0)).update s.heap.objs.size (Obj.mapSeq (·++vs.toArray))).push (seqObj "list" vs.toArray 0)).get? (s.heap.objs.size+1)=some (seqObj "list" vs.toArray 0):=by
  (rw[←hsz];exact Heap.get?_push_size _ rfl)
 have Kn:(((s.heap.push (seqObj "list" #[] 0)).update s.heap.objs.size (Obj.mapSeq (·++vs.toArray))).push (seqObj "list" vs.toArray 0)).objs.size=s.heap.objs.size+2:=by rw[size_push',hsz]
 change wpAny _ _ _ _ _ { s with heap:=((s.heap.push (seqObj "list" #[] 0)).update s.heap.objs.size (Obj.mapSeq (·++vs.toArray))).push (seqObj "list" vs.toArray 0) }
 rw[show ((s.heap.push (seqObj "list" #[] 0)).update s.heap.objs.size (Obj.mapSeq (·++vs.toArray))).objs.size=s.heap.objs.size+1 from hsz]
 generalize ((s.heap.push (seqObj "list" #[] 0)).update s.heap.objs.size (Obj.mapSeq (·++vs.toArray))).push (seqObj "list" vs.toArray 0)=h1 at vE tj Kn ⊢
 generalize hL:s.heap.objs.size+1=l at tj ⊢
 have Bv:h1.objs.size=l+1:=by omega
 have Ko:H l=none:=I.aR.fresh (by omega)
 have Kp:H (l+2)=none:=I.aR.fresh (by omega)
 refine wpAny_bind (wpAny_holding (wpAny_call_entry_kw slot_list_sort ⟨_,tj,rfl⟩ entry_list_sort (DP (s:={ s with heap:=h1 }) (TH X pins σ H kp xs l (l+2)) tj (by omega) (fun ep SO=>?_) (fun ep ks x s1 hx hJ=>?_) (fun ep ks s1 qI hJ=>?_)) (oP _ _)))
 ·have fG:∀b u,s.heap.get? b=some u→b≠l:=fun b u e=>Nat.ne_of_lt (Nat.lt_of_lt_of_le (Heap.lt_size e) (by omega))
  have kA:∀b u,s.heap.get? b=some u→((h1.update l (Obj.mapSeq fun _=>#[])).push (seqObj "tuple" vs.toArray 0)).get? b=some u:=fun b u e =>
   Heap.get?_push_of_some _ ((Heap.get?_update_other _ _ (Ne.symm (fG b u e))).trans (vE b u e))
  have eA:((h1.update l (Obj.mapSeq fun _=>#[])).push (seqObj "tuple" vs.toArray 0)).get? l=some (seqObj "list" #[] ep):=Heap.get?_push_of_some _ SO
  have zA:((h1.update l (Obj.mapSeq fun _=>#[])).push (seqObj "tuple" vs.toArray 0)).objs.size=l+2:=by rw[size_push',Heap.size_update,Bv]
  have IA:Inv X pins σ (upd H l (xK l ep)) { s with heap:=(h1.update l (Obj.mapSeq fun _=>#[])).push (seqObj "tuple" vs.toArray 0) } :=
   I.laid (t':=s.toks) kA (by omega) ⟨eA,⟨_,eA⟩,fun _ _ e kk=>kk _ e⟩
  generalize (h1.update l (Obj.mapSeq fun _=>#[])).push (seqObj "tuple" vs.toArray 0)=hA at kA eA zA IA ⊢
  have SQ:({ s with heap:=hA }:Shared).heap.objs.size=l+2:=zA
  have eB:(hA.push (seqObj "list" #[] 0)).get? (l+2)=some (seqObj "list" ([]:List Value).toArray 0):=by rw[←zA];exact Heap.get?_push_size _ rfl
  have IB:Inv X pins σ (upd (upd H l (xK l ep)) (l+2) (TF (l+2) [] 0)) { s with heap:=hA.push (seqObj "list" #[] 0) } :=
   IA.laid (t':=s.toks) (fun b u e=>Heap.get?_push_of_some _ e) (Nat.le_of_eq SQ) ⟨eB,⟨_,eB⟩,fun _ _ e kk=>kk _ e⟩
  refine⟨_,0,IB,(ao.new Ko).trans (ao.new ?_),?_,ah,fun i x b _ iQ=>by cases iQ⟩
  ·rw[av (Nat.ne_of_gt (by omega:l<l+2))];exact Kp
  ·rw[av (Nat.ne_of_lt (by omega:l<l+2)),ah]
 ·have e:({ s with heap:=h1 }:Shared).heap.objs.size+1=l+2:=by show h1.objs.size+1=_;rw[Bv]
  rw[e]
  exact AS F hb hr hk r hn (Nat.ne_of_lt (by omega:l<l+2)) Kp ep ks x s1 hx hJ
 ·obtain⟨H1,m,I1,Gm,Dj,Gn,Iz⟩:=hJ
  have e:({ s with heap:=h1 }:Shared).heap.objs.size+1=l+2:=by show h1.objs.size+1=_;rw[Bv]
  rw[e]
  have eo:s1.heap.get? (l+2)=some (seqObj "list" ks.toArray m):=(I1.aR (l+2) _ Gn).1
  have eL:s1.heap.get? l=some (seqObj "list" #[] ep):=(I1.aR l _ Dj).1
  have AG:∀(i:Nat) (x:V),xs[i]?=some x→∃t u,ks[i]?=some (.int (kp x) t)∧vs[i]?=some u∧RelV x u∧(ks.zip vs)[i]?=some (.int (kp x) t,u):=fun i x hx=>by
   have hi:i<ks.length:=by rw[qI,←hlen];exact(List.getElem?_eq_some_iff.mp hx).1
   obtain⟨t,ht⟩:=Iz i x ks[i] hx (getElem?_eq_getElem hi)
   have e1:ks[i]?=some (.int (kp x) t):=by rw[getElem?_eq_getElem hi,ht]
   obtain⟨u,hu,ru⟩:=r.get hx
   exact⟨t,u,e1,hu,ru,List.getElem?_zip_eq_some.mpr ⟨e1,hu⟩⟩
  have Ql:(ks.zip vs).length=xs.length:=by rw[List.length_zip];omega
  have Dk:∀y,y∈ks.zip vs→∃i x,xs[i]?=some x∧x∈xs∧(ks.zip vs)[i]?=some y:=fun y hy=>by
   obtain⟨i,hi⟩:=mem_iff_getElem?.mp hy
   have bZ:i<xs.length:=by rw[←Ql];exact(List.getElem?_eq_some_iff.mp hi).1
   exact⟨i,xs[i],getElem?_eq_getElem bZ,List.getElem_mem bZ,hi⟩
  have Ny:(ks.toArray.zip vs.toArray).toList=ks.zip vs:=by simp
  have GR:∀y,y∈ks.zip vs→∃n t,y.1 = .int n t∧0≤n:=fun y hy=>by
   obtain⟨i,x,hx,hm,e⟩:=Dk y hy
   obtain⟨t,u,_,_,_,e3⟩:=AG i x hx
   rw[e] at e3;cases e3
   exact⟨_,t,rfl,zi x hm⟩
  refine⟨m,KY,eo,eL,Nat.ne_of_gt (by omega:l<l+2),?_,?_,?_⟩
  ·intro kx SR
   obtain⟨i,hi⟩:=mem_iff_getElem?.mp SR
   have bZ:i<xs.length:=by rw[hlen,←qI];exact(List.getElem?_eq_some_iff.mp hi).1
   obtain⟨t,ht⟩:=Iz i xs[i] kx (getElem?_eq_getElem bZ) hi
   exact⟨_,t,ht⟩
  ·intro x y Q' E' hx hy wJ
   rw[Ny] at hx hy
   obtain⟨n1,t1,e1,p1⟩:=GR x hx
   obtain⟨n2,t2,e2,p2⟩:=GR y hy
   obtain⟨x1,x2⟩:=x
   obtain⟨y1,y2⟩:=y
   obtain rfl:x1 = .int n1 t1:=e1
   obtain rfl:y1 = .int n2 t2:=e2
   refine PySem.W.kat_lt_int ?_
   have:decide (n1<n2)=decide (KY (.int n1 t1,x2)<KY (.int n2 t2,y2)):=by
    apply decide_eq_decide.mpr
    show n1<n2↔n1.toNat<n2.toNat
    omega
   rw[this];exact wJ
  ·intro zs SS Nz
   refine⟨_,rfl,wpAny_pure ⟨_,rfl,?_⟩⟩
   have Kq:zs.toList.Perm (ks.zip vs):=by rw[←Ny];exact Array.perm_iff_toList_perm.mp SS
   have LY:(xs.zip (ks.zip vs)).map Prod.snd=ks.zip vs:=List.map_snd_zip (by omega)
   have SU:(xs.zip (ks.zip vs)).map Prod.fst=xs:=List.map_fst_zip (by omega)
   have hT:∀t∈xs.zip (ks.zip vs),RelV t.1 t.2.2∧KY t.2=(kp t.1).toNat∧t.1∈xs:=fun t ht=>by
    obtain⟨i,hi⟩:=mem_iff_getElem?.mp ht
    obtain⟨e1,e2⟩:=List.getElem?_zip_eq_some.mp hi
    obtain⟨tk,u,_,_,ru,e3⟩:=AG i t.1 e1
    rw[e2] at e3
    have:t.2=(.int (kp t.1) tk,u):=Option.some.inj e3
    rw[this]
    exact⟨ru,rfl,mem_of_getElem? e1⟩
   obtain⟨T,hp,hm⟩:=rK Prod.snd Kq _ LY
   have LZ:∀t∈T,RelV t.1 t.2.2∧KY t.2=(kp t.1).toNat∧t.1∈xs:=fun t ht=>hT t (hp.mem_iff.mp ht)
   have hv:=tf fun t ht=>(LZ t ht).1
   have NA:(T.map (·.1)).Perm xs:=by have:=hp.map Prod.fst;rw[SU] at this;exact this
   have JH:(T.map (·.1)).length≤sizeLine:=by rw[NA.length_eq];omega
   have SV:zs.map (·.2)=(T.map (·.2.2)).toArray:=by
    apply Array.toList_inj.mp
    rw[Array.toList_map,←hm,List.map_map];rfl
   rw[SV]
   have eq2:=get?_update_seq eo (fun _=>#[])
   have mq:Ff (H1 (l+2)):=by rw[Gn];exact trivial
   have I2:Inv X pins σ (upd H1 (l+2) (.lst [])) { s1 with heap:=s1.heap.update (l+2) (Obj.mapSeq fun _=>#[]) }:=by
    have kk:∀b u,b≠l+2→s1.heap.get? b=some u→(s1.heap.update (l+2) (Obj.mapSeq fun _=>#[])).get? b=some u:=fun b u iQ hu=>(Heap.get?_update_other _ _ (Ne.symm iQ)).trans hu
    generalize s1.heap.update (l+2) (Obj.mapSeq fun _=>#[])=h6 at eq2 kk ⊢
    exact I1.write (t':=s1.toks) (h':=h6) mq (.inl rfl) kk ⟨_,eq2⟩ ⟨Nat.zero_le _,[],_,.nil,eq2⟩
   have NB:(s1.heap.update (l+2) (Obj.mapSeq fun _=>#[])).get? l=some (seqObj "list" #[] ep):=(Heap.get?_update_other _ _ (Nat.ne_of_gt (by omega:l<l+2))).trans eL
   have Gp:=get?_update_seq NB (fun _=>(T.map (·.2.2)).toArray)
   have uK:upd H1 (l+2) (.lst []) l=some (xK l ep):=by rw[av (Nat.ne_of_lt (by omega:l<l+2))];exact Dj
   have mu:Ff (upd H1 (l+2) (.lst []) l):=by rw[uK];exact trivial
   have I3:Inv X pins σ (upd (upd H1 (l+2) (.lst [])) l (.lst (T.map (·.1)))) { s1 with heap:=(s1.heap.update (l+2) (Obj.mapSeq fun _=>#[])).update l (Obj.mapSeq fun _=>(T.map (·.2.2)).toArray) }:=by
    generalize s1.heap.update (l+2) (Obj.mapSeq fun _=>#[])=h5 at I2 NB Gp ⊢
    have kk:∀b u,b≠l→h5.get? b=some u→(h5.update l (Obj.mapSeq fun _=>(T.map (·.2.2)).toArray)).get? b=some u:=fun b u iQ hu=>(Heap.get?_update_other _ _ (Ne.symm iQ)).trans hu
    generalize h5.update l (Obj.mapSeq fun _=>(T.map (·.2.2)).toArray)=h6 at Gp kk ⊢
    exact I2.write (t':=s1.toks) (h':=h6) mu (.inl rfl) kk ⟨_,Gp⟩ ⟨JH,_,_,hv,Gp⟩
   refine⟨.ref l,_,I3,rfl,hQ l _ _ ((Gm.upd Kp).upd Ko) Ko ah NA ?_⟩
   rw[←hm] at Nz
   rw[pairwise_map] at Nz ⊢
   refine List.Pairwise.imp_of_mem (fun {a b} ha iQ EZ=>?_) Nz
   have Ir:=LZ a ha
   have KZ:=LZ b iQ
   have EZ:KY a.2≤KY b.2:=EZ
   rw[Ir.2.1,KZ.2.1] at EZ
   have:=zi _ Ir.2.2
   have:=zi _ KZ.2.2
   show kp a.1≤kp b.1
   omega
end
noncomputable def IW (K:Frag) (sp:Sp) (Q:VK) (x:V) (H1:Hp):Prop:=∃(l0:Addr) (xs:List V) (kp:V→Int),x = .ref l0∧cC K H1 l0 xs∧xs.length≤100000 ∧
 (∀x H2 (Q':VK),x∈xs→ao H1 H2→(∀H3,ao H2 H3→Q' (.int (kp x)) H3)→sp [x] H2 Q' E0) ∧
 (∀x∈xs,0≤kp x) ∧
 ∀l H' ws,ao H1 H'→H1 l=none→H' l=some (.lst ws)→ws.Perm xs→ws.Pairwise (fun x y=>kp x≤kp y)→Q (.ref l) H'
noncomputable def K0 (K:Frag) (sp:Sp) (te:TE):TE:=fun σ H Q=>te σ H (IW K sp Q)
section
variable {X:Cx}{k:Nat}{x p:Str}{sp:Sp}{pn pk FA pos:Pos}{e:Expr}{te:TE}
theorem ya (K:Frag) (C:bR X.prog X.w X.K X.mg X.base bu k x [p] sp) (hr:bK (k+2) X.A) (gc:X.mg "sorted"=none) (ha:PE X e te) (Kr:Gl X "sorted":=by rfl) (hg:Gl X x:=by rfl) (og:(x == ("__debug__":Str))=false:=by decide) (hK:X.K=K:=by rfl)
  (hv:bootBuiltins "sorted"=some (.builtin "sorted"):=by decide +kernel) (he:starEach [e] X.env=[(false,eval e X.env)]:=by rfl) :
  PE X (.Call (.Name "sorted" pn) [e] [⟨some "key",.Name x pk,FA⟩] pos) (K0 K sp te):=by
 subst hK
 obtain⟨f,fd,F,hm,kp',hb⟩:=C.ex
 intro pins s σ H Q I h
 refine wpAny_Call_Name_kw (i3 I Kr gc hv ?_ (by decide) (by decide))
 refine callWith_kw (bG ((aa ha ai he:PA X [e] _) pos pins s σ H (ND (IW X.K sp Q)) I h) fun us s1 ⟨vs,H1,I1,r,q⟩=>?_) (by rw[he];rfl) (by rw[he];rfl)
 match vs,r,q with
 | [v],r,q =>
  obtain⟨u,rfl,ru⟩:=r.one
  obtain⟨l0,xs,kp,rfl,hl,hn,hk,zi,hQ⟩:=q
  obtain rfl:u = .ref l0:=ru
  refine kws_cons (gw I1 hg hm (kws_nil ?_) og)
  exact vT F hb hr I1 hl hn hk zi hQ
end
end L2
namespace TC
open PySem L2
noncomputable def dY (r:Rw):Nat:=pc (r.x|||r.z)
noncomputable def fu (x z:Nat) (r:Rw):Rw:=⟨1,r.x+x,r.z+z⟩
noncomputable def vn (many:Int) (ts:List Rw):List Rw:=ts.filter fun r=>decide ((dY r:Int)<many)
noncomputable def mO (many:Int) (c:Nat) (ts:List Rw):List Rw:=ts++(vn many ts).map (fu (2^c) 0)++(vn many ts).map (fu 0 (2^c))++(vn many ts).map (fu (2^c) (2^c))
noncomputable def fM (many:Int):Nat→List Rw
 | 0=>[⟨1,0,0⟩]
 | c+1=>mO many c (fM many c)
theorem lU (many:Int):∀c,(fM many c).length≤4^c
 | 0=>Nat.le_refl 1
 | c+1=>by
  have ih:=lU many c
  have:=List.length_filter_le (fun r=>decide ((dY r:Int)<many)) (fM many c)
  show (mO many c (fM many c)).length≤_
  unfold mO vn
  simp only[length_append,length_map]
  rw[Nat.pow_succ];omega
theorem GS:∀c:Nat,c<6→∀a:Nat,a<2^c→pc (2^c+a)=pc a+1:=by
 have:∀c:Fin 6,∀a:Fin (2^c.1),pc (2^c.1+a.1)=pc a.1+1:=by decide +kernel
 exact fun c hc a ha=>this ⟨c,hc⟩ ⟨a,ha⟩
theorem mP {c a:Nat}(h:a<2^c):2^c+a=2^c|||a:=by
 have:=Nat.two_pow_add_eq_or_of_lt h 1
 rw[Nat.mul_one] at this;exact this
theorem nY {c:Nat}(hc:c<6) {r:Rw}(hx:r.x<2^c) (hz:r.z<2^c):dY (fu (2^c) 0 r)=dY r+1∧dY (fu 0 (2^c) r)=dY r+1∧dY (fu (2^c) (2^c) r)=dY r+1:=by
 have ho:r.x|||r.z<2^c:=Nat.or_lt_two_pow hx hz
 have e:=GS c hc _ ho
 rw[mP ho] at e
 unfold dY fu
 dsimp only
 refine⟨?_,?_,?_⟩
 ·rw[Nat.add_zero,Nat.add_comm,mP hx,Nat.or_assoc];exact e
 ·rw[Nat.add_zero,Nat.add_comm r.z,mP hz,←Nat.or_assoc,Nat.or_comm r.x,Nat.or_assoc];exact e
 ·rw[Nat.add_comm r.x,Nat.add_comm r.z,mP hx,mP hz,show (2^c|||r.x)|||(2^c|||r.z)=2^c|||(r.x|||r.z) by
   rw[Nat.or_assoc,←Nat.or_assoc r.x,Nat.or_comm r.x (2^c),Nat.or_assoc,←Nat.or_assoc (2^c) (2^c),Nat.or_self]]
  exact e
theorem eX (many:Int):∀c,c≤6→∀r:Rw,r∈fM many c↔(r.sg=1∧r.x<2^c∧r.z<2^c)∧((r.x=0∧r.z=0)∨(dY r:Int)≤many)
 | 0,_,r=>by
  show r∈[(⟨1,0,0⟩:Rw)]↔_
  rw[mem_singleton]
  constructor
  ·rintro rfl;exact⟨⟨rfl,by decide,by decide⟩,.inl ⟨rfl,rfl⟩⟩
  ·rintro⟨⟨h1,h2,h3⟩,_⟩
   obtain⟨s,x,z⟩:=r
   obtain rfl:s=1:=h1
   have h2:x<2^0:=h2
   have h3:z<2^0:=h3
   obtain rfl:x=0:=by omega
   obtain rfl:z=0:=by omega
   rfl
 | c+1,hc,r=>by
  have ih:=eX many c (by omega)
  have p2:2^(c+1)=2^c+2^c:=by rw[Nat.pow_succ];omega
  have pp:=Nat.two_pow_pos c
  have fm:∀t,t∈vn many (fM many c)↔(t.sg=1∧t.x<2^c∧t.z<2^c)∧(dY t:Int)<many:=fun t=>by
   unfold vn
   rw[mem_filter,ih,decide_eq_true_eq]
   constructor
   ·rintro⟨⟨h1,_⟩,h2⟩;exact⟨h1,h2⟩
   ·rintro⟨h1,h2⟩;exact⟨⟨h1,.inr (by omega)⟩,h2⟩
  show r∈mO many c (fM many c)↔_
  unfold mO
  simp only[mem_append,List.mem_map]
  constructor
  ·rintro(((h|⟨t,ht,rfl⟩)|⟨t,ht,rfl⟩)|⟨t,ht,rfl⟩)
   ·obtain⟨⟨h1,h2,h3⟩,h4⟩:=(ih r).mp h
    exact⟨⟨h1,by omega,by omega⟩,h4⟩
   all_goals
    obtain⟨⟨h1,h2,h3⟩,h4⟩:=(fm t).mp ht
    have:=nY (by omega) h2 h3
    refine⟨⟨rfl,?_,?_⟩,.inr ?_⟩
    ·show t.x+_<_;omega
    ·show t.z+_<_;omega
    ·first|(rw[this.1];omega)|(rw[this.2.1];omega)|(rw[this.2.2];omega)
  ·rintro⟨⟨h1,h2,h3⟩,h4⟩
   obtain⟨s,x,z⟩:=r
   obtain rfl:s=1:=h1
   have h2:x<2^(c+1):=h2
   have h3:z<2^(c+1):=h3
   have key:∀(t:Rw) (u v:Nat),t.sg=1→t.x<2^c→t.z<2^c→(⟨1,x,z⟩:Rw)=fu u v t→dY (fu u v t)=dY t+1→¬(x=0∧z=0)→t∈vn many (fM many c):=fun t u v t1 t2 t3 e l n=>by
    refine(fm t).mpr ⟨⟨t1,t2,t3⟩,?_⟩
    rcases h4 with h4|h4
    ·exact absurd h4 n
    ·rw[e,l] at h4;omega
   by_cases hx:x<2^c
   ·by_cases hz:z<2^c
    ·exact .inl (.inl (.inl ((ih _).mpr ⟨⟨rfl,hx,hz⟩,h4⟩)))
    ·have e:(⟨1,x,z⟩:Rw)=fu 0 (2^c) ⟨1,x,z-2^c⟩:=by
      show _=(⟨1,x+0,z-2^c+2^c⟩:Rw);rw[Nat.add_zero,Nat.sub_add_cancel (by omega)]
     exact .inl (.inr ⟨⟨1,x,z-2^c⟩,key _ _ _ rfl hx (show z-2^c<2^c by omega) e (nY (by omega) hx (show z-2^c<2^c by omega)).2.1 (by omega),e.symm⟩)
   ·by_cases hz:z<2^c
    ·have e:(⟨1,x,z⟩:Rw)=fu (2^c) 0 ⟨1,x-2^c,z⟩:=by
      show _=(⟨1,x-2^c+2^c,z+0⟩:Rw);rw[Nat.add_zero,Nat.sub_add_cancel (by omega)]
     exact .inl (.inl (.inr ⟨⟨1,x-2^c,z⟩,key _ _ _ rfl (show x-2^c<2^c by omega) hz e (nY (by omega) (show x-2^c<2^c by omega) hz).1 (by omega),e.symm⟩))
    ·have e:(⟨1,x,z⟩:Rw)=fu (2^c) (2^c) ⟨1,x-2^c,z-2^c⟩:=by
      show _=(⟨1,x-2^c+2^c,z-2^c+2^c⟩:Rw);rw[Nat.sub_add_cancel (by omega),Nat.sub_add_cancel (by omega)]
     exact .inr ⟨⟨1,x-2^c,z-2^c⟩,key _ _ _ rfl (show x-2^c<2^c by omega) (show z-2^c<2^c by omega) e (nY (by omega) (show x-2^c<2^c by omega) (show z-2^c<2^c by omega)).2.2 (by omega),e.symm⟩
end TC
namespace L2
open PySem
section
variable {X:Cx}{k:Nat}{m:Str}{C:Addr}{sp:Sp}{pos apos:Pos}{o:Expr}{ta:TE}
theorem N0 {pl:Sem Bool}(D:xV X.prog X.w X.K X.mg X.base k C m sp) (hr:bK k X.A) (he:PE X o ta)
  (ht:eval (.Call (.Attribute o m apos) [] [] pos) X.env=(do
   let ov ←eval o X.env
   standAt apos.atName
   let (f,first) ←holding [ov] (getMethod ov m pl)
   callWith pos f first (backTo pos (starEach [] X.env)) (backToKw pos (keywordEach [] X.env))):=by rfl):PE X (.Call (.Attribute o m apos) [] [] pos) (yK C m sp [] E0 ta Fw):=by
 obtain⟨f,fd,ps,F,hm,hb⟩:=D.ex
 exact BV he D.c hm F hr hb .nil yP ht
end
end L2
namespace L2
open PySem PySem.Spec PyProof.Rows
structure zE (P:Program) (w:World) (K:Frag) (mg:Str→Option Value) (base:Heap) (k:Nat) (C:Addr) (m:Str) (sp:Sp):Prop where
 ex:∃(f:Addr) (fd:FuncData) (ps:List Str),fj P w K mg base (FT P w) k f fd ps sp∧Meth K C m f∧Binds K fd ps []
 c:uJ K C
section
variable {P:Program}{w:World}{K:Frag}{mg:Str→Option Value}{base:Heap}{C:Addr}{m x qual:Str}{st:Stmt}{ps N:List Str}{k:Nat}{sp:Sp}
theorem oV.RZ (D:oV K C m qual st ps) (S:az N ps (af st)) (len:∀vs H Q E,sp vs H Q E→vs.length=ps.length)
  (fV:∀(f:Addr) (bf:Value) (A:Around) (outer:List Env) (s:Shared) (H:Hp) (vs:List V) (Q:VK) (E:XK),bK k (A.deeper (envOfC qual (af st) s.heap.objs.size f bf))→sp vs H Q E →
   Rs (kS (FT P w) P w K mg base N qual (af st) f bf A outer s H E) (fun c od _ H'=>E c od H') →
   ∃t,nQ (kS (FT P w) P w K mg base N qual (af st) f bf A outer s H E) (aw st) t∧t { nx:=fun _ H'=>Q .cK H',rt:=Q } (start N vs) H):zE P w K mg base (k+1) C m sp:=by
 obtain⟨f,fd,F,q,b⟩:=D.ex
 exact⟨⟨f,fd,ps,F.RZ S len (fun bf A outer s H vs Q E hr h R=>fV f bf A outer s H vs Q E hr h R),q,b⟩,D.c⟩
end
noncomputable def K1 (C:Addr) (m:Str) (sp:Sp) (E:XS) (ta:TE) (t:TA):TE:=fun σ H Q=>ta σ H fun x H1=>∃a dx fs,x = .ref a∧H1 a=some (.ins C dx fs)∧fs.lookup m=none ∧
 t σ H1 fun vs H2=>sp (x::(vs++[])) H2 Q (fun c od H'=>E c od σ H')
section
variable {X:Cx}{k:Nat}{m:Str}{C:Addr}{sp:Sp}{pos apos:Pos}{o e:Expr}{es:List Expr}{ta:TE}{t:TA}
theorem DQ {pl:Sem Bool}{E:XS}(D:zE X.prog X.w X.K X.mg X.base k C m sp) (hr:bK k X.A) (R:Rs X E) (he:PE X o ta) (ha:PA X (e::es) t) (hex:X.ex=[]:=by rfl)
  (BJ:starEach (e::es) X.env=(false,eval e X.env)::starEach es X.env:=by rfl) (lG:(backTo pos (starEach es X.env)).any (·.1)=false:=by rfl)
  (ht:eval (.Call (.Attribute o m apos) (e::es) [] pos) X.env=(do
   let ov ←eval o X.env
   standAt apos.atName
   let (f,first) ←holding [ov] (getMethod ov m pl)
   callWith pos f first (backTo pos (starEach (e::es) X.env)) (backToKw pos (keywordEach [] X.env))):=by rfl):PE X (.Call (.Attribute o m apos) (e::es) [] pos) (K1 C m sp E ta t):=by
 obtain⟨f,fd,ps,F,hm,hb⟩:=D.ex
 have c:=D.c
 intro pins s σ H Q I h
 refine PySem.W.methodCall_KW (pl:=pl) (bG (he pins s σ H _ I h) fun u s1 ⟨x,H1,I1,rx,a,dx,fs,ex,ea,l,q⟩=>?_) ht
 subst ex
 obtain rfl:u=Value.ref a:=rx
 refine ix I1 ea c hm l ?_
 refine PySem.W.callWith_K (first:=[.ref a]) (h₀:=X.base) I.ok.mod.BD hm.kp (bG (ha pos pins s1 σ H1 _ I1 q) fun us s2 ⟨vs,H2,I2,r,q2⟩=>⟨I2.iR,?_⟩) BJ lG
 exact FV (us:=.ref a::us) (vs:=.ref a::vs) F hr hb .nil R hex I2 (.cons rfl r) q2
end
section
variable {X:Cx}
noncomputable def Qt:R2:=fun x y H Q=>∃(a b:Addr) (ar:List (List Key×V)) (k:List Key),x = .ref b∧y = .ref a∧H a=some (.dT ar)∧H b=some (.tup (k.map kV))∧Q (.bl (!(bW ar k).isSome)) H
noncomputable def rInDK:R2:=fun x y H Q=>∃(a:Addr) (ar:List (Key×V)) (k:Key),x=kV k∧y = .ref a∧H a=some (.dK ar)∧Q (.bl (bW ar k).isSome) H
noncomputable def DR:R2:=fun x y H Q=>∃(a:Addr) (ar:List (Key×V)) (k:Key),x=kV k∧y = .ref a∧H a=some (.dK ar)∧Q (.bl (!(bW ar k).isSome)) H
theorem oX (hu:X.A.units+1<cLine):kQ X (compareOp .NotIn) DR:=by
 intro pins s σ H x y v u Q I rx ry h
 obtain⟨a,ar,k,rfl,rfl,ea,q⟩:=h
 cases ry
 exact Gr hu I (lR.k ea) rx fun s' I'=>⟨.bl _,H,I',rfl,q⟩
noncomputable def K2:Af:=fun o i v H Q=>∃(a:Addr) (ar:List (Key×V)) (k:Key),o = .ref a∧i=kV k∧H a=some (.dK ar)∧ar.length<sizeLine∧Q (upd H a (.dK (putK ar k v)))
theorem DS (hu:X.A.units+1<cLine):Fo X K2:=by
 intro pins s σ H o i v ov iv u Q I ro ri rv h
 obtain⟨a,ar,k,rfl,rfl,ea,hl,q⟩:=h
 cases ro
 exact rO hu I (xP.k ea hl) ri rv fun s' I'=>⟨_,I',q⟩
noncomputable def N3:V→V→Hp→VK→Prop:=fun x y H Q=>∃(a:Addr) (ar:List (Key×V)) (k:Key) (v:V),x = .ref a∧y=kV k∧H a=some (.dK ar)∧bW ar k=some v∧Q v H
theorem vU (hu:X.A.units+1<cLine):JA X N3:=by
 intro value slice pins s σ H x y v u Q I rx ry h hs
 obtain⟨a,ar,k,z,rfl,rfl,ea,ev,q⟩:=h
 cases rx
 obtain⟨_,_,vs,_,dd⟩:=Dp I.aR ea
 exact tail_any dd.mapOf.typeIs PySem.F.slot_dict_getitem.lookup (AI hu I (ev▸lR.k ea) ry fun w' s' I' r'=>⟨z,H,I',r',q⟩) hs
end
section
variable {X:Cx}{pins:List (Addr×Obj)}{σ:St}{H:Hp}{s:Shared}{a:Addr}{ar:List (Key×V)}{k:Key}{u:Value}{A:Around}{E:Value→Shared→Prop}
theorem GU {Q:Value→Shared→Prop}(I:Inv X pins σ H s) (e:H a=some (.dK ar)) (h:∀s',Inv X pins σ (upd H a (.dK [])) s'→Q .none s'):wpAny (model X.prog X.w) A (call (.builtin "dict.clear") [.ref a]) Q E s:=by
 obtain⟨z,hd,vs,rel,dd⟩:=Dp I.aR e
 refine call_meetsIn PySem.F.slot_dict_clear dd.typeIs PySem.F.entry_dict_clear (PySem.F.args_dict_clear_1 _) (meets_dict_clear (bC X.prog X.w) a) ⟨vs,dd,by rw[←rel.length];exact z,fun h' Gu hs=>h _ ?_⟩
 have he:∃q,h'.get? a=some q:=let ⟨q,_,_,hq,_⟩:=Gu;⟨q,hq⟩
 exact nW (t':=s.toks) I (by rw[e];exact True.intro) hs he (Dq (Nat.zero_le _) hd .nil Gu)
theorem N4 {Q:Value→Shared→Prop}(I:Inv X pins σ H s) (e:Rd H a (.dK ar)) (h:∀t s',Inv X pins σ H s'→Q (.int ar.length t) s'):wpAny (model X.prog X.w) A (call (.builtin "len") [.ref a]) Q E s:=by
 obtain⟨z,hd,vs,rel,dd⟩:=oS I.aR e
 refine call_len_dict hd dd (by rw[←rel.length];rw[sizeLine_eq] at z;omega) ?_
 rw[←rel.length]
 exact h _ _ (I.tok _)
end
section
variable {X:Cx}
theorem rT:fF X (.builtin "len") (fun xs H Q=>∃a ar,xs=[V.ref a]∧H a=some (.dK ar)∧Q (.int ar.length) H):=by
 intro pins s σ H xs us Q I r h
 obtain⟨a,ar,rfl,ha,q⟩:=h
 obtain⟨u,rfl,ru⟩:=vals1 r
 cases ru
 exact N4 I (.inl ha) fun t s' I'=>⟨.int ar.length,H,I',⟨t,rfl⟩,q⟩
end
noncomputable def TJ (td ty:TE):TE:=fun σ H Q=>td σ H fun x H1=>∃a,x = .ref a∧Qn H1 a∧ty σ H1 fun y H2=>∃ar k v,H2 a=some (.dK ar)∧y=kV k∧bW ar k=some v∧Q v (upd H2 a (.dK (NF ar k)))
section
variable {X:Cx}{o e f:Expr}{apos dc:Pos}{td ty tx:TE}
end
section
variable {κ:Type}[DecidableEq κ]
theorem DT {ar:List (κ×V)}{k:κ}(h:bW ar k=none):¬k∈ar.map (·.1):=by
 intro m
 obtain⟨p,hp,e⟩:=List.mem_map.mp m
 have q:(ar.any fun kv=>decide (kv.1=k))=true:=any_eq_true.mpr ⟨p,hp,decide_eq_true e⟩
 rw[d6,h] at q
 exact absurd q (by simp)
theorem zF {ar:List (κ×V)}{k:κ}{v:V}(h:bW ar k=some v):k∈ar.map (·.1):=by
 have q:(ar.any fun kv=>decide (kv.1=k))=true:=by
  rw[d6,h]
  all_goals rfl
 obtain⟨p,hp,e⟩:=any_eq_true.mp q
 exact List.mem_map.mpr ⟨p,hp,of_decide_eq_true e⟩
theorem zG:∀{l:List κ}{k:κ},l.Nodup→¬k∈l→(l++[k]).Nodup
 | [],k,_,_=>by simp
 | a::r,k,h,hk=>by
  obtain⟨h1,h2⟩:=List.nodup_cons.mp h
  show (a::(r++[k])).Nodup
  refine List.nodup_cons.mpr ⟨fun m=>?_,zG h2 fun m=>hk (List.mem_cons.mpr (Or.inr m))⟩
  rcases mem_append.mp m with q|q
  ·exact h1 q
  ·exact hk (List.mem_cons.mpr (Or.inl (mem_singleton.mp q).symm))
theorem zH {ar:List (κ×V)}{k:κ}(v:V) (hn:(ar.map (·.1)).Nodup) (h:bW ar k=none):((putK ar k v).map (·.1)).Nodup:=by
 rw[Dm v h,List.map_append]
 exact zG hn (DT h)
end
noncomputable def GV (P:Program) (w:World) (a:Addr) (ar:List (Key×V)) (o:Obj):Heap→Prop:=fun h=>h.get? a=some o∧ar.length≤sizeLine∧(a == sysModules)=false∧∃vs,KV ar vs∧h.DictOf (bC P w) a vs
noncomputable def BA (P:Program) (w:World) (a:Addr) (ar:List (Key×V)) (o:Obj):HO:=.ext (GV P w a ar o)
theorem AU {P:Program}{w:World}{a:Addr}{ar:List (Key×V)}{o:Obj}:∀h1 h2:Heap,GV P w a ar o h1→(∀o,h1.get? a=some o→h2.get? a=some o)→GV P w a ar o h2:=by
 rintro h1 h2 ⟨e,z,n,vs,r,ob,es,ep,e2,c⟩ k
 exact⟨k _ e,z,n,vs,r,ob,es,ep,k _ e2,c⟩
theorem AV {P:Program}{w:World}{k:Key}{u:Value}(h:(bC P w).is k u=true):RelV (kV k) u:=by
 have h:n6 k u=true:=h
 cases k with
 | inl i =>
  cases u with
  | int j t =>
   have e:j=i:=by
    have h:Value.isInt i (.int j t)=true:=h
    simp only[Value.isInt,beq_iff_eq] at h
    first|exact h|exact h.symm
   subst e
   exact⟨t,rfl⟩
  | _=>exact absurd h Bool.false_ne_true
 | inr x =>
  cases u with
  | str j t =>
   have e:j=x:=by
    have h:Value.isStrOf x (.str j t)=true:=h
    simp only[Value.isStrOf,beq_iff_eq] at h
    first|exact h|exact h.symm
   subst e
   exact⟨t,rfl⟩
  | _=>exact absurd h Bool.false_ne_true
section
variable {X:Cx}{pins:List (Addr×Obj)}{σ:St}{H:Hp}{s:Shared}{a:Addr}{ar:List (Key×V)}
theorem Inv.known (I:Inv X pins σ H s) (e:H a=some (.dK ar)):∃o,s.heap.get? a=some o∧Inv X pins σ (upd H a (BA X.prog X.w a ar o)) s:=by
 obtain⟨z,n,vs,r,dd⟩:=(show aX X.prog X.w H s.heap a (.dK ar) from I.aR a _ e)
 obtain⟨o,es,ep,h1,_⟩:=id dd
 refine⟨o,h1,?_⟩
 exact I.write (x:=a) (e:=a) (h':=s.heap) (t':=s.toks) (by rw[e];exact True.intro) (.inl rfl) (fun b u _ q=>q) ⟨o,h1⟩ ⟨⟨h1,z,n,vs,r,dd⟩,⟨o,h1⟩,AU⟩
theorem Inv.unknown {o:Obj}(I:Inv X pins σ H s) (e:H a=some (BA X.prog X.w a ar o)):Inv X pins σ (upd H a (.dK ar)) s:=by
 obtain⟨⟨h1,z,n,vs,r,dd⟩,_⟩:=(show aX X.prog X.w H s.heap a (BA X.prog X.w a ar o) from I.aR a _ e)
 exact I.write (x:=a) (e:=a) (h':=s.heap) (t':=s.toks) (by rw[e];exact True.intro) (.inl rfl) (fun b u _ q=>q) ⟨o,h1⟩ ⟨z,n,vs,r,dd⟩
theorem nZ {o:Obj}(I:Inv X pins σ H s) (e:H a=some (BA X.prog X.w a ar o)):GV X.prog X.w a ar o s.heap:=by
 obtain⟨h,_⟩:=(show aX X.prog X.w H s.heap a (BA X.prog X.w a ar o) from I.aR a _ e)
 exact h
end
noncomputable def TK (P:Program) (w:World) (a:Addr) (ar:List (Key×V)) (o:Obj):It :=
 ⟨fun i H=>H a=some (BA P w a ar o)∧i<ar.length,fun i H x H'=>H'=H∧∃kv,ar[i]?=some kv∧x=kV kv.1,fun i H=>H a=some (BA P w a ar o)∧i=ar.length⟩
theorem pairs_at {P:Program}{w:World}:∀{es:List DictEntry}{vs:List (Key×Value)}{ar:List (Key×V)},Pairs (bC P w) es vs→KV ar vs→es.length=ar.length∧∀(i:Nat) e kv,es[i]?=some e→ar[i]?=some kv→RelV (kV kv.1) e.key
 | [],_,ar,h,r=>by
  cases h
  cases r
  exact⟨rfl,fun i e kv h=>nomatch h⟩
 | e::es,_,ar,h,r=>by
  cases h with
  | cons h1 h2 h3 =>
   cases r with
   | cons r1 r2 =>
    obtain⟨hl,hg⟩:=pairs_at h3 r2
    refine⟨by rw[List.length_cons,List.length_cons,hl],fun i e' kv he hk=>?_⟩
    cases i with
    | zero =>
     cases he
     cases hk
     have:=AV h1
     rw[←r1.1] at this
     exact this
    | succ i=>exact hg i e' kv he hk
theorem AW {P:Program}{w:World}{K:Frag}{tg:Expr}{a:Addr}{ar:List (Key×V)}{o:Obj}{es:Array DictEntry}{ep:Nat}(he:o.ExactDict) (hd:o.data = .dict es ep) (hz:es.size=ar.length) (it:Addr) :
  Turn P w K tg (TK P w a ar o) [it] it (fun i h=>h.IsKeyIter it a i es.size ep) where
 mem:=by simp
 obj:=fun i h st b hb=>by
  have e:b=it:=by simpa using hb
  subst e
  obtain⟨o,e,c,d⟩:=st
  exact⟨o,e,fun v z=>by rw[d] at z;cases z⟩
 keep:=fun i h h' st k=>st.at fun o e=>k it (by simp) o e
 item:=by
  intro X hP hw hK hc i pins s σ H E I hf st hg
  subst hP hw hK
  obtain⟨hH,hi⟩:=hg
  obtain⟨h1,z,n,vs,r,o2,es2,ep2,g1,g2,g3,g4,g5,g6⟩:=nZ I hH
  rw[h1] at g1
  cases g1
  rw[hd] at g3
  cases g3
  obtain⟨hl,hg⟩:=pairs_at g5 r
  obtain⟨f0,f1,f2,f3,f4,f5⟩:=hf it (by simp)
  have IP:i<es.size:=by omega
  refine vH (es:=es) (ep:=ep) st ⟨o,h1,he,hd⟩ IP fun h' wI sb=>?_
  have I1:Inv X pins σ H { s with heap:=h' }:=I.turned (t':=s.toks) (fun b o hb e=>(sb.2 b hb).trans e) f0 f1 f3 f4 f5
  obtain⟨oi,e,c,d⟩:=id wI
  have GR:ar[i]?=some ar[i]:=getElem?_eq_getElem hi
  refine⟨_,rfl,yC (s:={ s with heap:=h' }) e c d (by decide) ⟨kV ar[i].1,H,I1,hg i es[i] ar[i] (by rw[Array.getElem?_toList,Array.getElem?_eq_getElem IP]) GR,⟨rfl,ar[i],GR,rfl⟩,wI,fun b hb=>(hf b hb).1⟩⟩
 done:=by
  intro X hP hw hK hc i pins s σ H E I hf st hg
  subst hP hw hK
  obtain⟨hH,hi⟩:=hg
  obtain⟨h1,_⟩:=nZ I hH
  obtain⟨f0,f1,f2,f3,f4,f5⟩:=hf it (by simp)
  have e:i=es.size:=by omega
  subst e
  exact zj (I.ok.hd hc) st ⟨o,h1,he,hd⟩ fun h' eb=>⟨rfl,I.turned (t':=s.toks) (fun b o hb e=>eb b o hb e) f0 f1 f3 f4 f5⟩
 self:=fun _ _ _ _ _ st h=>wpAny_pyIter_keyiter st h
section
variable {X:Cx}{tg:Expr}
noncomputable def N5 (P:Program) (w:World) (tl:TE):TI:=fun σ H R=>tl σ H fun x H1=>∃a ar,x = .ref a∧H1 a=some (.dK ar)∧∀o,R (TK P w a ar o) (upd H1 a (BA P w a ar o))
theorem K3 {l:Expr}{tl:TE}(hl:PE X l tl):PI X tg l (N5 X.prog X.w tl):=by
 intro pins s σ H R I h
 refine bG (hl pins s σ H _ I h) fun v s1 ⟨x,H1,I1,r1,q1⟩=>?_
 obtain⟨a,ar,e,hH,q⟩:=q1
 subst e
 cases r1
 obtain⟨o,ho,I2⟩:=I1.known hH
 obtain⟨h1,z,n,vs,r,o2,es,ep,g1,g2,g3,g4,g5,g6⟩:=nZ I2 ah
 rw[h1] at g1
 cases g1
 obtain⟨hl,_⟩:=pairs_at g5 r
 refine vG n ⟨o,h1,g2,g3⟩ ?_
 refine⟨s1.heap.objs.size,[s1.heap.objs.size],_,_,_,rfl,I2.kept (t':=s1.toks) fun b o e=>Heap.get?_push_of_some _ e,AW g2 g3 (by rw[←hl,Array.length_toList]) _,⟨_,Heap.get?_push_size _ rfl,rfl,rfl⟩,fun b hb=>?_,q o⟩
 have e:b=s1.heap.objs.size:=by simpa using hb
 subst e
 exact I2.uZ (Nat.le_refl _) (I2.aR.fresh (Nat.le_refl _))
theorem zI (P:Program) (w:World) {l:Expr}{tl:TE}(hl:PE X l tl) (hP:X.prog=P:=by rfl) (hw:X.w=w:=by rfl):PI X tg l (N5 P w tl):=by
 subst hP hw
 exact K3 hl
noncomputable def N6 (P:Program) (w:World) (t:TE):TE:=fun σ H Q=>t σ H fun v H1=>∃a ar o,H1 a=some (BA P w a ar o)∧Q v (upd H1 a (.dK ar))
theorem zJ (P:Program) (w:World) {e:Expr}{t:TE}(h:PE X e t) (hP:X.prog=P:=by rfl) (hw:X.w=w:=by rfl):PE X e (N6 P w t):=by
 subst hP hw
 intro pins s σ H Q I q
 refine bG (h pins s σ H _ I q) fun v s1 ⟨x,H1,I1,r1,a,ar,o,e1,q1⟩=>?_
 exact⟨x,_,I1.unknown e1,r1,q1⟩
noncomputable def N7 (P:Program) (w:World):V→V→Hp→VK→Prop:=fun x y H Q=>∃(a:Addr) (ar:List (Key×V)) (o:Obj) (k:Key) (v:V),x = .ref a∧y=kV k∧H a=some (BA P w a ar o)∧bW ar k=some v∧Q v H
theorem N8 (P:Program) (w:World) (hP:X.prog=P:=by rfl) (hw:X.w=w:=by rfl):JA X (N7 P w):=by
 subst hP hw
 intro value slice pins s σ H x y v u Q I rx ry h hs
 obtain⟨a,ar,o,k,z,rfl,rfl,ea,ev,q⟩:=h
 cases rx
 obtain⟨_,_,_,vs,rel,dd⟩:=nZ I ea
 obtain⟨w',hw,yN⟩:=fU.some_of (v:=z) (o:=valueAt vs k) (by rw[←ev];exact rel.val k)
 exact tail_any dd.mapOf.typeIs PySem.F.slot_dict_getitem.lookup (wpAny_getItem_of (oR ry) dd.mapOf hw ⟨z,H,I.tok _,yN,q⟩) hs
end
theorem vV {P:Program}{w:World}{a:Addr}{ar:List (Key×V)}{o:Obj}{te:TE}{σ:St}{H:Hp}{Q:VK}(f:Key×V→V) (hH:H a=some (BA P w a ar o)) (hz:ar.length≤sizeLine)
  (he:∀(i:Nat) kv H' Q',ar[i]?=some kv→ao H H'→(∀nj,ao H' nj→Q' (f kv) nj)→te (some (kV kv.1)::σ) H' Q')
  (hd:∀p H',ao H H'→H p=none→H' p=some (.lst (ar.map f))→Q (.ref p) H'):∃W,(∃m,W 0 m [] H)∧oy (TK P w a ar o) xt te σ Q W:=by
 refine⟨fun i m ys H'=>m=ar.length-i∧i≤ar.length∧ys=(ar.take i).map f∧ao H H',⟨ar.length,by simp,Nat.zero_le _,rfl,.refl H⟩,?_⟩
 rintro i m ys H' ⟨rfl,hi,rfl,s⟩
 by_cases bZ:i<ar.length
 ·refine .inr ⟨⟨s _ _ hH,bZ⟩,by rw[length_map,length_take];omega,fun x H2 y=>?_⟩
  obtain⟨e,kv,hc,rfl⟩:=y
  subst e
  simp only[xt,if_true]
  refine he i kv _ _ hc s fun nj s'=>⟨ar.length-(i+1),by omega,rfl,bZ,?_,s.trans s'⟩
  rw[take_add_one,hc];simp
 ·have e:i=ar.length:=by omega
  subst e
  refine .inl ⟨⟨s _ _ hH,rfl⟩,by rw[length_map,length_take];omega,fun p hp=>hd p _ (s.upd (s.free hp)) (s.free hp) ?_⟩
  rw[ah,take_length]
section
variable {X:Cx}
noncomputable def N9:V→List V→Hp→VK→Prop:=fun x vs H Q=>∃a ar,x = .ref a∧vs=[]∧H a=some (.dK ar)∧Q .cK (upd H a (.dK []))
theorem GW:PU X "dict.clear" N9:=by
 intro pins s σ H x vs v us Q I rx rv h
 obtain⟨a,ar,rfl,rfl,hH,q⟩:=h
 cases rx
 have hus:=rv.zero
 subst hus
 exact GU I hH fun s' I'=>⟨.cK,_,I',rfl,q⟩
end
end L2
set_option maxHeartbeats 4000000
namespace iE
open PySem L2 TC
noncomputable def top (i:Nat):Stmt:=PySem.Challenge.pw_turncoins_k64_tables.main.body.getD i (.Pass ⟨0,0,0,0⟩)
noncomputable def jj:Sp:=fun vs H Q _=>∃n:Nat,vs=[.int n]∧n<64∧∀H',ao H H'→Q (.int (pc n:Nat)) H'
noncomputable def rW:Sp:=fun vs H Q _=>∃(n:Int) (k:Nat) (b:Bool),vs=[.int n,.int k]∧(k%2=if b then 1 else 0)∧∀H',ao H H'→Q (.int (chg n b)) H'
section
variable {P:Program}{w:World}{K:Frag}{mg:Str→Option Value}{base:Heap}
/- count_bits: 0:bits 1:many -/
noncomputable abbrev dq:Stmt:=top 17
theorem eY:az ["bits","many"] ["bits"] (af dq):=⟨rfl,rfl,rfl,by decide +kernel,rfl,by decide +kernel,by decide +kernel⟩
theorem DU (T:gu mg) (D:Def K mg "count_bits" dq ["bits"]):bR P w K mg base bu 1 "count_bits" ["bits"] jj:=by
 refine D.ok eY (fun vs H Q E h=>?_) (fun f bf A outer s H vs Q E hr h=>?_)
 ·obtain⟨n,rfl,_⟩:=h;rfl
 obtain⟨n,rfl,hn,k⟩:=h
 refine⟨_,(aj (aB (i:=1) eY.nd rfl (Or.inl rfl) ae)
   (aj (uY PassesOwn.never (aF qY (pv 0) ae (aM _))
    (aj (aB (i:=1) eY.nd rfl (Or.inl rfl) (aq cT (pv 1) (aq cx (pv 0) ae)))
    (ak (aB (i:=0) eY.nd rfl (Or.inl rfl) (aq i7 (pv 0) ae)))))
   (ak (aD (pv 1))))),?_⟩
 refine⟨fun m σ H'=>∃(j b y:Nat),σ=[some (.int b),some (.int y)]∧m=b∧b<2^j∧y+LU j b=pc n∧ao H H',⟨_,6,n,0,rfl,rfl,hn,Nat.zero_add _,.refl H⟩,?_⟩
 rintro m σ H' ⟨j,b,y,rfl,em,hb,hy,s'⟩
 have TL:=em.symm
 subst TL
 refine⟨_,rfl,_,_,rfl,rfl,_,rfl,?_⟩
 by_cases h0:b=0
 ·subst h0
  refine nt (by decide) ?_
  refine⟨_,rfl,?_⟩
  have:=k H' s'
  rw[vq,Nat.add_zero] at hy
  rw[←hy] at this
  exact this
 ·refine qF (by omega) ?_
  refine⟨fun σ2 H2=>σ2=[some (.int ((b/2:Nat):Int)),some (.int ((y+b%2:Nat):Int))]∧ao H H2,?_,?_⟩
  ·rintro σ2 H2 ⟨rfl,s2⟩
   cases j with
   | zero=>exact absurd hb (by rw[Nat.pow_zero];omega)
   | succ j =>
    refine⟨b/2,Nat.div_lt_self (by omega) (by decide),j,b/2,y+b%2,rfl,rfl,?_,?_,s2⟩
    ·rw[Nat.pow_succ] at hb;omega
    ·rw[LU] at hy;omega
  ·refine⟨_,rfl,_,rfl,_,_,rfl,rfl,_,_,rfl,rfl,?_⟩
   refine⟨_,rfl,_,_,rfl,rfl,(by show (0:Int)≤1;decide),?_⟩
   refine⟨?_,s'⟩
   show [some (V.int ((b:Int)/2^(1:Int).toNat)),some (V.int ((y:Int)+Builtin.bitAnd (b:Int) ((1:Nat):Int)))]=_
   rw[mF,Sy]
   have e:(b:Int)/2^(1:Int).toNat=((b/2:Nat):Int):=by
    show (b:Int)/2=_
    omega
   rw[e,Int.natCast_add]
/- with_sign_changed: 0:number 1:often -/
noncomputable abbrev bp:Stmt:=top 18
theorem jl:az ["number","often"] ["number","often"] (af bp):=⟨rfl,rfl,rfl,by decide +kernel,rfl,by decide +kernel,by decide +kernel⟩
theorem AX (T:gu mg) (D:Def K mg "with_sign_changed" bp ["number","often"]):bR P w K mg base bu 1 "with_sign_changed" ["number","often"] rW:=by
 refine D.ok jl (fun vs H Q E h=>?_) (fun f bf A outer s H vs Q E hr h=>?_)
 ·obtain⟨n,j,b,rfl,_⟩:=h;rfl
 obtain⟨n,j,b,rfl,hb,k⟩:=h
 refine⟨_,(ak (aD (lE (aF d9 (aq br (pv 1) ae) ae (aM _)) (yE su (pv 0)) (pv 0)))),?_⟩
 refine⟨_,rfl,_,_,rfl,rfl,(by show (0:Int)<_;decide),rfl,_,rfl,?_⟩
 have:=k H (.refl H)
 have e:(j:Int)%2=((j%2:Nat):Int):=by omega
 cases b with
 | true =>
  refine lK ?_ ⟨_,rfl,_,rfl,this⟩
  show decide (V.int ((j:Int)%2)=V.int 1)=true
  rw[e,hb];exact decide_eq_true rfl
 | false =>
  refine bV ?_ ⟨_,rfl,this⟩
  show decide (V.int ((j:Int)%2)=V.int 1)=false
  rw[e,hb];exact decide_eq_false (fun z=>by injection z with z;exact absurd z (by decide))
theorem cY {s:Int}(h:one s):s.natAbs<2^4000:=by rcases h with rfl|rfl<;>exact big (by decide) (by decide)
theorem gh {a b:Nat}(h:a<64):a&&&b<64:=Nat.lt_of_le_of_lt Nat.and_le_left h
end
noncomputable def gj (K:Frag):Sp:=fun vs H Q _=>∃(a b:Addr) (r t:Rw) (m:Nat),vs=[.ref a,.ref b]∧fh K H a r.vals∧fh K H b t.vals∧m≤6∧r.ok m∧t.ok m∧∀q H',ao H H'→H q=none→H' q=some (.tup (bz r t).vals)→Q (.ref q) H'
section
variable {P:Program}{w:World}{K:Frag}{mg:Str→Option Value}{base:Heap}
/- product: 0:one 1:other 2:sign -/
noncomputable abbrev fN:Stmt:=top 20
theorem oY:az ["one","other","sign"] ["one","other"] (af fN):=⟨rfl,rfl,rfl,by decide +kernel,rfl,by decide +kernel,by decide +kernel⟩
theorem yb (T:gu mg) (D:Def K mg "product" fN ["one","other"]) (kC:bR P w K mg base bu 1 "with_sign_changed" ["number","often"] rW) (cj:bR P w K mg base bu 1 "count_bits" ["bits"] jj) :
  bR P w K mg base bu 2 "product" ["one","other"] (gj K):=by
 refine D.ok oY (fun vs H Q E h=>?_) (fun f bf A outer s H vs Q E hr h=>?_)
 ·obtain⟨a,b,r,t,m,rfl,_⟩:=h;rfl
 obtain⟨a,b,r,t,m,rfl,hA,hB,hm,iV,ht,k⟩:=h
 refine⟨_,(aj (aB (i:=2) oY.nd rfl (Or.inl rfl) (aC kC hr.sub (aa (aq bM (ay (au K) (pv 0) ae (fun _ _=>rfl)) (ay (au K) (pv 1) ae (fun _ _=>rfl))) (aa (aC cj hr.sub (aa (aq cx (ay (au K) (pv 0) ae (fun _ _=>rfl)) (ay (au K) (pv 1) ae (fun _ _=>rfl))) ai)) ai))))
   (ak (aD (aS (aa (pv 2) (aa (aq bI (ay (au K) (pv 0) ae (fun _ _=>rfl)) (ay (au K) (pv 1) ae (fun _ _=>rfl))) (aa (aq bI (ay (au K) (pv 0) ae (fun _ _=>rfl)) (ay (au K) (pv 1) ae (fun _ _=>rfl))) ai))))))),?_⟩
 refine⟨_,rfl,a,_,_,_,rfl,rfl,hA,rfl,_,rfl,b,_,_,_,rfl,rfl,hB,rfl,_,_,rfl,rfl,⟨cY iV.s,cY ht.s⟩,_,rfl,a,_,_,_,rfl,rfl,hA,rfl,_,rfl,b,_,_,_,rfl,rfl,hB,rfl,_,_,rfl,rfl,?_⟩
 have h6:r.z&&&t.x<64:=gh (le64 hm iV.z)
 refine⟨r.z&&&t.x,by show [V.int (Builtin.bitAnd (r.z:Int) (t.x:Int))]=_;rw[mF],h6,fun H1 s1=>?_⟩
 refine⟨_,_,par (r.z&&&t.x),rfl,xD _ h6,fun H2 s2=>?_⟩
 have u:=s1.trans s2
 refine⟨_,rfl,_,rfl,a,_,_,_,rfl,rfl,u.tup hA,rfl,_,rfl,b,_,_,_,rfl,rfl,u.tup hB,rfl,_,_,rfl,rfl,_,rfl,a,_,_,_,rfl,rfl,u.tup hA,rfl,_,rfl,b,_,_,_,rfl,rfl,u.tup hB,rfl,_,_,rfl,rfl,aI (by show 3≤1000;decide),fun q hq=>?_⟩
 refine k q _ (u.trans (ao.new hq)) (u.free hq) ?_
 rw[ah]
 show some (HO.tup [V.int (chg (r.sg*t.sg) (par (r.z&&&t.x))),V.int (Builtin.bitXor (r.x:Int) (t.x:Int)),V.int (Builtin.bitXor (r.z:Int) (t.z:Int))])=_
 rw[sS,sS];rfl
end
noncomputable def oZ (K:Frag):Sp:=fun vs H Q _=>∃(a b:Addr) (r t:Rw) (m:Nat),vs=[.ref a,.ref b]∧fh K H a r.vals∧fh K H b t.vals∧m≤6∧r.ok m∧t.ok m∧∀H',ao H H'→Q (.bl (sU r t)) H'
section
variable {P:Program}{w:World}{K:Frag}{mg:Str→Option Value}{base:Heap}
theorem K4 (r t:Rw) {m:Nat}(hm:m≤6) (hr:r.ok m):decide (V.int ((((pc (r.x&&&t.z):Nat):Int)+((pc (r.z&&&t.x):Nat):Int))%2)=V.int 0)=sU r t:=by
 have h1:=xD _ (gh (b:=t.z) (le64 hm hr.x))
 have h2:=xD _ (gh (b:=t.x) (le64 hm hr.z))
 rw[iu]
 unfold sU
 cases e1:par (r.x&&&t.z)<;>cases e2:par (r.z&&&t.x)<;>rw[e1] at h1<;>rw[e2] at h2<;>simp only[if_true,if_false,Bool.false_eq_true] at h1 h2
 ·exact beq_iff_eq.mpr (by omega)
 ·exact beq_eq_false_iff_ne.mpr (by omega)
 ·exact beq_eq_false_iff_ne.mpr (by omega)
 ·exact beq_iff_eq.mpr (by omega)
/- agree: 0:one 1:other -/
noncomputable abbrev kg:Stmt:=top 21
theorem DV:az ["one","other"] ["one","other"] (af kg):=⟨rfl,rfl,rfl,by decide +kernel,rfl,by decide +kernel,by decide +kernel⟩
theorem DW (T:gu mg) (D:Def K mg "agree" kg ["one","other"]) (cj:bR P w K mg base bu 1 "count_bits" ["bits"] jj) :
  bR P w K mg base bu 2 "agree" ["one","other"] (oZ K):=by
 refine D.ok DV (fun vs H Q E h=>?_) (fun f bf A outer s H vs Q E hr h=>?_)
 ·obtain⟨a,b,r,t,m,rfl,_⟩:=h;rfl
 obtain⟨a,b,r,t,m,rfl,hA,hB,hm,iV,ht,k⟩:=h
 refine⟨_,(ak (aD (iw d9 (aq br (aq cT (aC cj hr.sub (aa (aq cx (ay (au K) (pv 0) ae (fun _ _=>rfl)) (ay (au K) (pv 1) ae (fun _ _=>rfl))) ai)) (aC cj hr.sub (aa (aq cx (ay (au K) (pv 0) ae (fun _ _=>rfl)) (ay (au K) (pv 1) ae (fun _ _=>rfl))) ai))) ae) ae (aM _)))),?_⟩
 have h6:r.x&&&t.z<64:=gh (le64 hm iV.x)
 have h7:r.z&&&t.x<64:=gh (le64 hm iV.z)
 refine⟨_,rfl,a,_,_,_,rfl,rfl,hA,rfl,_,rfl,b,_,_,_,rfl,rfl,hB,rfl,_,_,rfl,rfl,r.x&&&t.z,by show [V.int (Builtin.bitAnd (r.x:Int) (t.z:Int))]=_;rw[mF],h6,fun H1 s1=>?_⟩
 refine⟨_,rfl,a,_,_,_,rfl,rfl,s1.tup hA,rfl,_,rfl,b,_,_,_,rfl,rfl,s1.tup hB,rfl,_,_,rfl,rfl,r.z&&&t.x,by show [V.int (Builtin.bitAnd (r.z:Int) (t.x:Int))]=_;rw[mF],h7,fun H2 s2=>?_⟩
 refine⟨_,_,rfl,rfl,_,_,rfl,rfl,(by show (0:Int)<_;decide),rfl,?_⟩
 have:=k H2 (s1.trans s2)
 rw[←K4 r t hm iV] at this
 exact this
end
noncomputable def zK (K:Frag):Sp:=fun vs H Q _=>∃(a:Addr) (r:Rw) (m:Nat),vs=[.ref a]∧fh K H a r.vals∧m≤6∧r.x<2^m∧r.z<2^m∧∀H',ao H H'→Q (.bl (nT r)) H'
section
variable {P:Program}{w:World}{K:Frag}{mg:Str→Option Value}{base:Heap}
theorem K5:∀n:Nat,n<64→decide (V.int (((pc n:Nat):Int)%2)=V.int 0) = !par n:=by
 simp only[iu];decide +kernel
/- is_even: 0:row -/
noncomputable abbrev fO:Stmt:=top 22
theorem yc:az ["row"] ["row"] (af fO):=⟨rfl,rfl,rfl,by decide +kernel,rfl,by decide +kernel,by decide +kernel⟩
theorem GX (T:gu mg) (D:Def K mg "is_even" fO ["row"]) (cj:bR P w K mg base bu 1 "count_bits" ["bits"] jj):bR P w K mg base bu 2 "is_even" ["row"] (zK K):=by
 refine D.ok yc (fun vs H Q E h=>?_) (fun f bf A outer s H vs Q E hr h=>?_)
 ·obtain⟨a,r,m,rfl,_⟩:=h;rfl
 obtain⟨a,r,m,rfl,hA,hm,hx,hz,k⟩:=h
 refine⟨_,(ak (aD (iw d9 (aq br (aC cj hr.sub (aa (aq cx (ay (au K) (pv 0) ae (fun _ _=>rfl)) (ay (au K) (pv 0) ae (fun _ _=>rfl))) ai)) ae) ae (aM _)))),?_⟩
 have h6:r.x&&&r.z<64:=gh (le64 hm hx)
 refine⟨_,rfl,a,_,_,_,rfl,rfl,hA,rfl,_,rfl,a,_,_,_,rfl,rfl,hA,rfl,_,_,rfl,rfl,r.x&&&r.z,by show [V.int (Builtin.bitAnd (r.x:Int) (r.z:Int))]=_;rw[mF],h6,fun H1 s1=>?_⟩
 refine⟨_,_,rfl,rfl,(by show (0:Int)<_;decide),rfl,?_⟩
 have:=k H1 s1
 unfold nT at this
 rw[←K5 _ h6] at this
 exact this
end
noncomputable def iF (K:Frag):Sp:=fun vs H Q _=>∃(a:Addr) (r:Rw) (m:Nat),vs=[.ref a]∧fh K H a r.vals∧m≤6∧r.ok m∧∀H',ao H H'→Q (.int (pc (r.x|||r.z):Nat)) H'
section
variable {P:Program}{w:World}{K:Frag}{mg:Str→Option Value}{base:Heap}
theorem tN {m a b:Nat}(hm:m≤6) (ha:a<2^m) (hb:b<2^m):a|||b<64:=le64 hm (Nat.or_lt_two_pow ha hb)
/- letters: 0:row -/
noncomputable abbrev fP:Stmt:=top 23
theorem ye:az ["row"] ["row"] (af fP):=⟨rfl,rfl,rfl,by decide +kernel,rfl,by decide +kernel,by decide +kernel⟩
theorem yf (T:gu mg) (D:Def K mg "letters" fP ["row"]) (cj:bR P w K mg base bu 1 "count_bits" ["bits"] jj):bR P w K mg base bu 2 "letters" ["row"] (iF K):=by
 refine D.ok ye (fun vs H Q E h=>?_) (fun f bf A outer s H vs Q E hr h=>?_)
 ·obtain⟨a,r,m,rfl,_⟩:=h;rfl
 obtain⟨a,r,m,rfl,hA,hm,iV,k⟩:=h
 refine⟨_,(ak (aD (aC cj hr.sub (aa (aq u6 (ay (au K) (pv 0) ae (fun _ _=>rfl)) (ay (au K) (pv 0) ae (fun _ _=>rfl))) ai)))),?_⟩
 exact⟨_,rfl,a,_,_,_,rfl,rfl,hA,rfl,_,rfl,a,_,_,_,rfl,rfl,hA,rfl,_,_,rfl,rfl,r.x|||r.z,by show [V.int (Builtin.bitOr (r.x:Int) (r.z:Int))]=_;rw[Nr],tN hm iV.x iV.z,k⟩
end
noncomputable def zL (K:Frag):Sp:=fun vs H Q _=>∃(a:Addr) (r:Rw) (m:Nat),vs=[.ref a,.int m]∧fh K H a r.vals∧m≤6∧r.ok m∧∀H',ao H H'→Q (.bl true) H'
section
variable {P:Program}{w:World}{K:Frag}{mg:Str→Option Value}{base:Heap}
/- is_row: 0:row 1:coins 2:beyond -/
noncomputable abbrev ig:Stmt:=top 19
theorem rX:az ["row","coins","beyond"] ["row","coins"] (af ig):=⟨rfl,rfl,rfl,by decide +kernel,rfl,by decide +kernel,by decide +kernel⟩
theorem GY (T:gu mg) (D:Def K mg "is_row" ig ["row","coins"]):bR P w K mg base bu 1 "is_row" ["row","coins"] (zL K):=by
 refine D.ok rX (fun vs H Q E h=>?_) (fun f bf A outer s H vs Q E hr h=>?_)
 ·obtain⟨a,r,m,rfl,_⟩:=h;rfl
 obtain⟨a,r,m,rfl,hA,hm,iV,k⟩:=h
 refine⟨_,(aj (bq (PW.pt (pw_and (aF i8 (ay (au K) (pv 0) ae (fun _ _=>rfl)) ae (aM _)) (pw_and1 (aF i8 (ay (au K) (pv 0) ae (fun _ _=>rfl)) (yE su ae) (aM _)))))
    (ak (aD fg))
    aO)
   (aj (aB (i:=2) rX.nd rfl (Or.inl rfl) (aq cu ae (pv 1)))
   (ak (aD (wR (lF yH i9 ae (ay (au K) (pv 0) ae (fun _ _=>rfl)) (pv 2)) (BH (lF yH i9 ae (ay (au K) (pv 0) ae (fun _ _=>rfl)) (pv 2)))))))),?_⟩
 refine⟨_,rfl,a,_,_,_,rfl,rfl,hA,rfl,rfl,_,rfl,?_⟩
 refine Nk (G:=?G) (fun rest=>?a) ?k
 case a =>
  rcases iV.s with e|e
  ·refine bV (by rw[e];decide) (fW ?_)
   exact rest
  ·refine lK (by rw[e];decide) ⟨_,rfl,a,_,_,_,rfl,rfl,hA,rfl,_,rfl,rfl,_,rfl,bV (by rw[e];decide) ?_⟩
   exact rest
 case k =>
 refine⟨_,rfl,_,_,rfl,rfl,Ke hm,?_⟩
 have hx:(r.x:Int)<1*2^(m:Int).toNat:=by rw[gF];have:=iV.x;omega
 have hz:(r.z:Int)<1*2^(m:Int).toNat:=by rw[gF];have:=iV.z;omega
 refine⟨_,rfl,a,_,_,_,rfl,rfl,hA,rfl,_,_,rfl,rfl,_,rfl,qF (Int.natCast_nonneg _) ?_⟩
 refine⟨_,rfl,_,_,rfl,rfl,_,rfl,qF hx ?_⟩
 refine⟨_,rfl,a,_,_,_,rfl,rfl,hA,rfl,_,_,rfl,rfl,_,rfl,qF (Int.natCast_nonneg _) ?_⟩
 refine⟨_,rfl,_,_,rfl,rfl,?_⟩
 have:=k H (.refl H)
 rw[←decide_eq_true hz] at this
 exact this
end
end iE
set_option maxHeartbeats 4000000
namespace iE
open PySem L2 TC
/- the leading column,as the program tells it -/
noncomputable def E8 (j:Nat):Int:=if j<6 then 1 else 2
noncomputable def wL (j:Nat):Int:=((2^(j%6):Nat):Int)
noncomputable def kc (j:Nat):List V:=[.int (E8 j),.int (wL j)]
theorem DX:∀x:Nat,x<64→∀j:Nat,j<6→bt x j=true→(∀i,i<j→bt x i=false)→Builtin.bitAnd (x:Int) (-(x:Int))=((2^j:Nat):Int):=by decide +kernel
theorem Oa {r:Rw}{m:Nat}(hm:m≤6) (hr:r.ok m) (hn:nz r) (h0:r.x≠0):kc (ld r)=[.int 1,.int (Builtin.bitAnd (r.x:Int) (-(r.x:Int)))]:=by
 have L:=hn.ld
 have x64:=le64 hm hr.x
 have h6:ld r<6:=by
  refine Decidable.by_contra fun h=>h0 (nU fun i=>?_)
  rcases Nat.lt_or_ge i 6 with hi|hi
  ·have:=L.f i (by omega)
   unfold cb at this
   rw[if_pos hi] at this
   rw[this];unfold bt;rw[Nat.zero_testBit]
  ·have h1:bt r.x i=false:=Nat.testBit_lt_two_pow (Nat.lt_of_lt_of_le x64 (show 2^6≤2^i from Nat.pow_le_pow_right (by decide) hi))
   rw[h1];unfold bt;rw[Nat.zero_testBit]
 have hb:=L.b
 have hf:=L.f
 unfold cb at hb hf
 rw[if_pos h6] at hb
 unfold kc E8 wL
 rw[if_pos h6,Nat.mod_eq_of_lt h6,DX r.x x64 (ld r) h6 hb fun i hi=>by have:=hf i hi;rw[if_pos (by omega)] at this;exact this]
theorem Ob {r:Rw}{m:Nat}(hm:m≤6) (hr:r.ok m) (hn:nz r) (h0:r.x=0):kc (ld r)=[.int 2,.int (Builtin.bitAnd (r.z:Int) (-(r.z:Int)))]:=by
 have L:=hn.ld
 have z64:=le64 hm hr.z
 have hb:=L.b
 have hf:=L.f
 have bZ:=L.lt
 have h6:¬ld r<6:=fun h=>by
  unfold cb at hb
  rw[if_pos h,h0] at hb
  unfold bt at hb
  rw[Nat.zero_testBit] at hb;cases hb
 unfold cb at hb hf
 rw[if_neg h6] at hb
 unfold kc E8 wL
 rw[if_neg h6,show ld r%6=ld r-6 by omega,DX r.z z64 (ld r-6) (by omega) hb fun i hi=>by have:=hf (i+6) (by omega);rw[if_neg (by omega),Nat.add_sub_cancel] at this;exact this]
theorem Oc:∀p:Nat,p<64→∀c:Nat,c<6→(!decide (V.int (Builtin.bitAnd (p:Int) ((2^c:Nat):Int))=V.int 0))=bt p c:=by
 simp only[iu];decide +kernel
structure Md (Φ:Rw→Nat→Prop) (H:Hp) (m:Nat) (a:Addr) (r:Rw):Prop where
 e:∃(b:Addr) (k:Nat),H a=some (.tup [.ref b,.int (k:Int)])∧k<64∧H b=some (.tup r.vals)∧r.ok m∧Φ r k
theorem Md.same {Φ:Rw→Nat→Prop}{H H':Hp}{m:Nat}{a:Addr}{r:Rw}(h:Md Φ H m a r) (s:ao H H'):Md Φ H' m a r:=by
 obtain⟨b,k,h1,h2,h3,h4⟩:=h.e
 exact⟨b,k,s _ _ h1,h2,s _ _ h3,h4⟩
structure qM (Φ:Rw→Nat→Prop) (H:Hp) (m:Nat) (as:List Addr) (cs:List Rw):Prop where
 l:as.length=cs.length
 g:∀(i:Nat) (a:Addr),as[i]?=some a→∃r,cs[i]?=some r∧Md Φ H m a r
theorem qM.same {Φ:Rw→Nat→Prop}{H H':Hp}{m:Nat}{as:List Addr}{cs:List Rw}(h:qM Φ H m as cs) (s:ao H H'):qM Φ H' m as cs:=⟨h.l,fun i a e=>by
 obtain⟨r,h1,h2⟩:=h.g i a e
 exact⟨r,h1,h2.same s⟩⟩
theorem qM.nil {Φ:Rw→Nat→Prop}{H:Hp}{m:Nat}:qM Φ H m [] []:=⟨rfl,fun _ _ h=>nomatch h⟩
theorem qM.app {Φ:Rw→Nat→Prop}{H:Hp}{m:Nat}{as:List Addr}{cs:List Rw}(h:qM Φ H m as cs) {a:Addr}{r:Rw}(hd:Md Φ H m a r):qM Φ H m (as++[a]) (cs++[r]):=by
 refine⟨by rw[length_append,length_append,h.l];rfl,fun i x e=>?_⟩
 rcases Nat.lt_or_ge i as.length with hi|hi
 ·rw[getElem?_append_left hi] at e
  obtain⟨r,h1,h2⟩:=h.g i x e
  exact⟨r,by rw[getElem?_append_left (h.l▸hi)];exact h1,h2⟩
 ·rw[getElem?_append_right hi] at e
  rw[getElem?_append_right (h.l▸hi),←h.l]
  cases hz:i-as.length with
  | zero=>rw[hz] at e;cases e;exact⟨r,rfl,hd⟩
  | succ n=>rw[hz] at e;cases e
noncomputable def zM (K:Frag):Sp:=fun vs H Q _=>∃(a:Addr) (r:Rw) (m:Nat),vs=[.ref a]∧fh K H a r.vals∧m≤6∧r.ok m∧nz r∧∀q H',ao H H'→H q=none→H' q=some (.tup (kc (ld r)))→Q (.ref q) H'
noncomputable def rY (K:Frag):Sp:=fun vs H Q _=>∃(a b:Addr) (r:Rw) (j m:Nat),vs=[.ref a,.ref b]∧fh K H a r.vals∧fh K H b (kc j)∧j<12∧m≤6∧r.ok m∧∀H',ao H H'→Q (.bl (cb r j)) H'
noncomputable def Qu (Φ Ψ:Rw→Nat→Prop):Prop:=∀r n t k,Φ r n→Ψ t k→Φ (bz r t) (n^^^k)
noncomputable def vW:Sp:=fun vs H Q _=>∃(a b:Addr) (r t:Rw) (m:Nat) (Φ Ψ:Rw→Nat→Prop),vs=[.ref a,.ref b]∧Qu Φ Ψ∧Md Φ H m a r∧Md Ψ H m b t∧m≤6∧∀q H',ao H H'→Md Φ H' m q (bz r t)→Q (.ref q) H'
noncomputable def pb:Sp:=fun vs H Q _=>∃(a:Addr) (r:Rw) (m:Nat) (Φ:Rw→Nat→Prop),vs=[.ref a]∧Md Φ H m a r∧m≤6∧nz r∧∀q H',ao H H'→H' q=some (.tup (kc (ld r)))→Q (.ref q) H'
noncomputable def lh (K:Frag):Sp:=fun vs H Q _=>∃(a l:Addr) (as:List Addr) (r:Rw) (cs:List Rw) (m:Nat) (Φ Ψ:Rw→Nat→Prop),vs=[.ref a,.ref l]∧Qu Φ Ψ∧Md Φ H m a r∧cC K H l (rV as)∧qM Ψ H m as cs∧(∀c∈cs,nz c)∧m≤6∧∀q H',ao H H'→Md Φ H' m q (lD cs r)→Q (.ref q) H'
section
variable {P:Program}{w:World}{K:Frag}{mg:Str→Option Value}{base:Heap}
/- leading_column: 0:row 1:part -/
noncomputable abbrev bS:Stmt:=top 27
theorem gD:az ["row","part"] ["row"] (af bS):=⟨rfl,rfl,rfl,by decide +kernel,rfl,by decide +kernel,by decide +kernel⟩
theorem GZ (T:gu mg) (Qv:∃t,mg "XS"=some (.int 1 t)) (TM:∃t,mg "ZS"=some (.int 2 t)) (D:Def K mg "leading_column" bS ["row"]):bR P w K mg base bu 1 "leading_column" ["row"] (zM K):=by
 refine D.ok gD (fun vs H Q E h=>?_) (fun f bf A outer s H vs Q E hr h=>?_)
 ·obtain⟨a,r,m,rfl,_⟩:=h;rfl
 obtain⟨a,r,m,rfl,hA,hm,iV,hn,k⟩:=h
 refine⟨_,(aj (aB (i:=1) gD.nd rfl (Or.inl rfl) (lE (aF d9 (ay (au K) (pv 0) (yU Qv) (fun _ _=>rfl)) ae (aM _)) (yU TM) (yU Qv)))
   (ak (aD (aS (aa (pv 1) (aa (aq cx (ay (au K) (pv 0) (pv 1) (fun _ _=>rfl)) (yE su (ay (au K) (pv 0) (pv 1) (fun _ _=>rfl)))) ai)))))),?_⟩
 refine⟨_,rfl,a,_,_,_,rfl,rfl,hA,rfl,rfl,_,rfl,?_⟩
 by_cases h0:r.x=0
 ·refine lK (by rw[h0];rfl) ?_
  refine⟨_,rfl,_,rfl,_,rfl,a,_,_,_,rfl,rfl,hA,rfl,_,rfl,_,rfl,a,_,_,_,rfl,rfl,hA,rfl,_,rfl,_,_,rfl,rfl,aI (by show 2≤1000;decide),fun q nq=>?_⟩
  refine k q _ (ao.new nq) nq ?_
  rw[ah,Ob hm iV hn h0]
 ·refine bV (decide_eq_false fun z=>h0 (by injection z with z;omega)) ?_
  refine⟨_,rfl,_,rfl,_,rfl,a,_,_,_,rfl,rfl,hA,rfl,_,rfl,_,rfl,a,_,_,_,rfl,rfl,hA,rfl,_,rfl,_,_,rfl,rfl,aI (by show 2≤1000;decide),fun q nq=>?_⟩
  refine k q _ (ao.new nq) nq ?_
  rw[ah,Oa hm iV hn h0]
/- has_column: 0:row 1:column -/
noncomputable abbrev dt:Stmt:=top 28
theorem qN:az ["row","column"] ["row","column"] (af dt):=⟨rfl,rfl,rfl,by decide +kernel,rfl,by decide +kernel,by decide +kernel⟩
theorem AY (T:gu mg) (D:Def K mg "has_column" dt ["row","column"]):bR P w K mg base bu 1 "has_column" ["row","column"] (rY K):=by
 refine D.ok qN (fun vs H Q E h=>?_) (fun f bf A outer s H vs Q E hr h=>?_)
 ·obtain⟨a,b,r,j,m,rfl,_⟩:=h;rfl
 obtain⟨a,b,r,j,m,rfl,hA,hB,hj,hm,iV,k⟩:=h
 refine⟨_,(ak (aD (iw i8 (aq cx (ay (au K) (pv 0) (ay (au K) (pv 1) ae (fun _ _=>rfl)) (fun _ _=>rfl)) (ay (au K) (pv 1) ae (fun _ _=>rfl))) ae (aM _)))),?_⟩
 have hk:=k H (.refl H)
 by_cases h6:j<6
 ·have e:kc j=[.int 1,.int ((2^j:Nat):Int)]:=by unfold kc E8 wL;rw[if_pos h6,Nat.mod_eq_of_lt h6]
  rw[e] at hB
  unfold cb at hk
  rw[if_pos h6,←Oc r.x (le64 hm iV.x) j h6] at hk
  exact⟨_,rfl,_,rfl,b,_,_,_,rfl,rfl,hB,rfl,a,_,_,_,rfl,rfl,hA,rfl,_,rfl,b,_,_,_,rfl,rfl,hB,rfl,_,_,rfl,rfl,rfl,hk⟩
 ·have e:kc j=[.int 2,.int ((2^(j-6):Nat):Int)]:=by unfold kc E8 wL;rw[if_neg h6,show j%6=j-6 by omega]
  rw[e] at hB
  unfold cb at hk
  rw[if_neg h6,←Oc r.z (le64 hm iV.z) (j-6) (by omega)] at hk
  exact⟨_,rfl,_,rfl,b,_,_,_,rfl,rfl,hB,rfl,a,_,_,_,rfl,rfl,hA,rfl,_,rfl,b,_,_,_,rfl,rfl,hB,rfl,_,_,rfl,rfl,rfl,hk⟩
/- made_product: 0:one 1:other -/
noncomputable abbrev cz:Stmt:=top 31
theorem nL:az ["one","other"] ["one","other"] (af cz):=⟨rfl,rfl,rfl,by decide +kernel,rfl,by decide +kernel,by decide +kernel⟩
theorem DY (T:gu mg) (D:Def K mg "made_product" cz ["one","other"]) (mQ:bR P w K mg base bu 2 "product" ["one","other"] (gj K)):bR P w K mg base bu 3 "made_product" ["one","other"] vW:=by
 refine D.ok nL (fun vs H Q E h=>?_) (fun f bf A outer s H vs Q E hr h=>?_)
 ·obtain⟨a,b,r,t,m,Φ,Ψ,rfl,_⟩:=h;rfl
 obtain⟨a,b,r,t,m,Φ,Ψ,rfl,hC,hA,hB,hm,k⟩:=h
 obtain⟨a1,ka,ea,TN,ea1,oka,fa⟩:=hA.e
 obtain⟨b1,kb,eb,TQ,TR,okb,fb⟩:=hB.e
 refine⟨_,(ak (aD (aS (aa (aC mQ hr.sub (aa (ay (au K) (pv 0) ae (fun _ _=>rfl)) (aa (ay (au K) (pv 1) ae (fun _ _=>rfl)) ai))) (aa (aq bI (ay (au K) (pv 0) ae (fun _ _=>rfl)) (ay (au K) (pv 1) ae (fun _ _=>rfl))) ai))))),?_⟩
 refine⟨_,rfl,a,_,_,_,rfl,rfl,cL ea,rfl,_,rfl,b,_,_,_,rfl,rfl,cL eb,rfl,a1,b1,r,t,m,rfl,cL ea1,cL TR,hm,oka,okb,fun q H1 s1 nq eq=>?_⟩
 refine⟨_,rfl,a,_,_,_,rfl,rfl,cL (s1 _ _ ea),rfl,_,rfl,b,_,_,_,rfl,rfl,cL (s1 _ _ eb),rfl,_,_,rfl,rfl,aI (by show 2≤1000;decide),fun p np=>?_⟩
 refine k p _ (s1.trans (ao.new np)) ⟨q,ka^^^kb,?_,xor64 TN TQ,ao.new np _ _ eq,oH oka okb,hC _ _ _ _ fa fb⟩
 rw[ah]
 show some (HO.tup [V.ref q,V.int (Builtin.bitXor (ka:Int) (kb:Int))])=_
 rw[sS]
/- made_leading_column: 0:made -/
noncomputable abbrev aY:Stmt:=top 32
theorem iG:az ["made"] ["made"] (af aY):=⟨rfl,rfl,rfl,by decide +kernel,rfl,by decide +kernel,by decide +kernel⟩
theorem DZ (T:gu mg) (D:Def K mg "made_leading_column" aY ["made"]) (mR:bR P w K mg base bu 1 "leading_column" ["row"] (zM K)):bR P w K mg base bu 2 "made_leading_column" ["made"] pb:=by
 refine D.ok iG (fun vs H Q E h=>?_) (fun f bf A outer s H vs Q E hr h=>?_)
 ·obtain⟨a,r,m,Φ,rfl,_⟩:=h;rfl
 obtain⟨a,r,m,Φ,rfl,hA,hm,hn,k⟩:=h
 obtain⟨b,kk,e,_,e1,ok,_⟩:=hA.e
 refine⟨_,(ak (aD (aC mR hr.sub (aa (ay (au K) (pv 0) ae (fun _ _=>rfl)) ai)))),?_⟩
 exact⟨_,rfl,a,_,_,_,rfl,rfl,cL e,rfl,b,r,m,rfl,cL e1,hm,ok,hn,fun q H' s' _ eq=>k q H' s' eq⟩
/- cleared: 0:made 1:others 2:other -/
noncomputable abbrev fQ:Stmt:=top 33
theorem lj:az ["made","others","other"] ["made","others"] (af fQ):=⟨rfl,rfl,rfl,by decide +kernel,rfl,by decide +kernel,by decide +kernel⟩
theorem yg (T:gu mg) (D:Def K mg "cleared" fQ ["made","others"]) (tO:bR P w K mg base bu 1 "has_column" ["row","column"] (rY K)) (cU:bR P w K mg base bu 2 "made_leading_column" ["made"] pb) (pd:bR P w K mg base bu 3 "made_product" ["one","other"] vW):bR P w K mg base bu 4 "cleared" ["made","others"] (lh K):=by
 refine D.ok lj (fun vs H Q E h=>?_) (fun f bf A outer s H vs Q E hr h=>?_)
 ·obtain⟨a,l,as,r,cs,m,Φ,Ψ,rfl,_⟩:=h;rfl
 obtain⟨a,l,as,r,cl,m,Φ,Ψ,rfl,hC,hA,hL,hM,Iu,hm,k⟩:=h
 refine⟨_,(aj (ck PassesOwn.never rfl (bU K (pv 1)) (aH (i:=2) lj.nd rfl (Or.inl rfl))
    (ak (bq (cS (aC tO hr.sub (aa (ay (au K) (pv 0) ae (fun _ _=>rfl)) (aa (aC cU hr.sub (aa (pv 2) ai)) ai))))
     (ak (aB (i:=0) lj.nd rfl (Or.inl rfl) (aC pd hr.sub (aa (pv 0) (aa (pv 2) ai)))))
     aO)))
   (ak (aD (pv 0)))),?_⟩
 refine⟨_,rfl,l,rfl,⟨_,hL⟩,d0 (K:=K) (a:=l) (xs:=rV as) (fun i σ H'=>∃(q:Addr) (v:Option V),σ=[some (.ref q),some (.ref l),v]∧ao H H'∧Md Φ H' m q (lD (cl.take i) r)) ⟨a,_,rfl,.refl H,by rw[List.take_zero];exact hA⟩ (fun i σ H' _ ⟨_,_,_,s',_⟩=>s'.seq hL) ?_ ?_⟩
 ·rintro i x σ H' hi ⟨q,v,rfl,s',hq⟩
  obtain⟨c,hc,rfl⟩:=cy hi
  obtain⟨t,ht,hd⟩:=hM.g i c hc
  have L5:=Iu t (mem_of_getElem? ht)
  have j4:=hd.same s'
  obtain⟨b,kk,e,SG,e1,ok,_⟩:=hq.e
  refine⟨_,rfl,q,_,_,_,rfl,rfl,cL e,rfl,_,rfl,c,t,m,Ψ,rfl,j4,hm,L5,fun p H2 s2 ep=>?_⟩
  refine⟨b,p,lD (cl.take i) r,ld t,m,rfl,cL (s2 _ _ e1),cL ep,L5.ld.lt,hm,ok,fun H3 s3=>⟨_,rfl,?_⟩⟩
  have Qw:=s2.trans s3
  have u:=s'.trans Qw
  have oq:=C6 (t:=r) ht
  unfold nB at oq
  cases hb:cb (lD (cl.take i) r) (ld t) with
  | true =>
   rw[hb,if_pos rfl] at oq
   refine xq ?_
   refine⟨_,rfl,_,rfl,q,c,lD (cl.take i) r,t,m,Φ,Ψ,rfl,hC,hq.same Qw,j4.same Qw,hm,fun p2 H4 s4 SX=>?_⟩
   exact⟨p2,_,rfl,u.trans s4,by rw[oq];exact SX⟩
  | false =>
   rw[hb,if_neg (by decide)] at oq
   exact fW ⟨q,_,rfl,u,by rw[oq];exact hq.same Qw⟩
 ·rintro σ H' ⟨q,v,rfl,s',hq⟩
  rw[rV,length_map,hM.l,take_length] at hq
  exact⟨_,rfl,k q H' s' hq⟩
end
end iE
set_option maxHeartbeats 4000000
namespace iE
open PySem L2 TC
theorem AZ {f:Rw→Nat}{L:List Rw}(h:Rd L) (hf:∀a∈L,∀b∈L,f a=f b→ld a=ld b):(L.map f).Nodup:=by
 have:L.Pairwise fun a b=>f a≠f b:=by
  refine List.Pairwise.imp_of_mem (fun {a b} ha hb EZ e=>?_) h.p
  have:=EZ.1
  rw[←hf a ha b hb e,h.on ha] at this
  cases this
 exact pairwise_map.mpr this
noncomputable def D0:V→Addr
 | .ref a=>a
 | _=>0
theorem rZ {ws:List V}{qs:List Addr}(h:ws.Perm (rV qs)):∃bs:List Addr,ws=rV bs∧bs.Perm qs:=by
 refine⟨ws.map D0,?_,?_⟩
 ·rw[rV,List.map_map]
  conv=>lhs;rw[←List.map_id ws]
  refine map_congr_left fun x hx=>?_
  obtain⟨a,_,rfl⟩:=List.mem_map.mp (h.mem_iff.mp hx)
  rfl
 ·have:=h.map D0
  rw[rV,List.map_map] at this
  have e:qs.map (D0 ∘ V.ref)=qs:=by
   conv=>rhs;rw[←List.map_id qs]
   exact map_congr_left fun x _=>rfl
  rw[e] at this
  exact this
noncomputable def Mk (rs:List Rw) (r:Rw) (n:Nat):Prop:=r=pm rs n∧n<2^rs.length
theorem Mk.clo {m:Nat}{rs:List Rw}(c:Cm m rs):Qu (Mk rs) (Mk rs):=fun r n t k h1 h2=>⟨by rw[h1.1,h2.1,Dv c],Nat.xor_lt_two_pow h1.2 h2.2⟩
noncomputable def tP (K:Frag):Sp:=fun vs H Q _=>∃(a:Addr) (as:List Addr) (rs:List Rw) (m:Nat),vs=[.ref a]∧cC K H a (rV as)∧bY H m as rs∧Cm m rs∧m≤6∧rs.length≤64∧∀H',ao H H'→Q .cK H'
noncomputable def pe (K:Frag):Sp:=fun vs H Q _=>∃(a:Addr) (as:List Addr) (rs ds:List Rw) (m:Nat),vs=[.ref a]∧cC K H a (rV as)∧bY H m as rs∧Fr m rs ds∧m≤6∧rs.length≤6∧∀q qs L H',ao H H'→H' q=some (.lst (rV qs))→qM (Mk rs) H' m qs L→Got m rs L→L.Pairwise (fun a b=>ld a<ld b)→Q (.ref q) H'
theorem qM.perm {Φ:Rw→Nat→Prop}{H:Hp}{m:Nat}:∀{as bs:List Addr},bs.Perm as→∀{cs:List Rw},qM Φ H m as cs→∃ds,ds.Perm cs∧qM Φ H m bs ds:=by
 have yh:∀{a:Addr}{as:List Addr}{cs:List Rw},qM Φ H m (a::as) cs→∃r ds,cs=r::ds∧Md Φ H m a r∧qM Φ H m as ds:=fun {a as cs} h=>by
  obtain⟨r,h1,h2⟩:=h.g 0 a rfl
  cases cs with
  | nil=>cases h1
  | cons c ds =>
   have hc:c=r:=Option.some.inj h1
   refine⟨c,ds,rfl,hc▸h2,by have:=h.l;simpa using this,fun i x e=>?_⟩
   obtain⟨r,q1,q2⟩:=h.g (i+1) x e
   exact⟨r,q1,q2⟩
 have cons:∀{a:Addr}{as:List Addr}{r:Rw}{cs:List Rw},Md Φ H m a r→qM Φ H m as cs→qM Φ H m (a::as) (r::cs):=fun {a as r cs} h1 h2=>⟨by simp[h2.l],fun i x e=>by
  cases i with
  | zero=>cases e;exact⟨r,rfl,h1⟩
  | succ i=>exact h2.g i x e⟩
 intro as bs p
 induction p with
 | nil=>intro cs h;exact⟨cs,.refl _,h⟩
 | cons x p ih =>
  intro cs h
  obtain⟨r,ds,rfl,h1,h2⟩:=yh h
  obtain⟨es,p2,h3⟩:=ih h2
  exact⟨r::es,p2.cons r,cons h1 h3⟩
 | swap x y l =>
  intro cs h
  obtain⟨r,ds,rfl,h1,h2⟩:=yh h
  obtain⟨r2,es,rfl,h3,h4⟩:=yh h2
  exact⟨r2::r::es,.swap r r2 es,cons h3 (cons h1 h4)⟩
 | trans p q Nv Nw =>
  intro cs h
  obtain⟨ds,p1,h1⟩:=Nw h
  obtain⟨es,p2,h2⟩:=Nv h1
  exact⟨es,p2.trans p1,h2⟩
theorem Got.perm {m:Nat}{rs C D:List Rw}(h:Got m rs C) (p:D.Perm C):Got m rs D :=
 ⟨h.c.sub fun r hr=>p.mem_iff.mp hr,⟨fun a ha=>h.r.n a (p.mem_iff.mp ha),(List.Perm.pairwise_iff (fun {x y}(z:Qg x y)=>⟨z.2,z.1⟩) p.symm).mp h.r.p⟩,by rw[p.length_eq,h.l],fun x hx=>Sn.of (fun y hy=>.gen (p.mem_iff.mpr hy)) (h.to x hx),fun x hx=>h.C7 x (p.mem_iff.mp hx)⟩
noncomputable def L6 (H:Hp):V→Int×Int
 | .ref a=>match H a with
  | some (.tup [.ref b,_])=>match H b with
   | some (.tup [_,.int x,.int z])=>(E8 (ld ⟨1,x.toNat,z.toNat⟩),wL (ld ⟨1,x.toNat,z.toNat⟩))
   | _=>(0,0)
  | _=>(0,0)
 | _=>(0,0)
theorem tQ {Φ:Rw→Nat→Prop}{H:Hp}{m:Nat}{a:Addr}{r:Rw}(h:Md Φ H m a r):L6 H (.ref a)=(E8 (ld r),wL (ld r)):=by
 obtain⟨b,k,h1,h2,h3,h4⟩:=h.e
 unfold L6
 simp only[h1,h3,Rw.vals,Int.toNat_natCast]
 rfl
noncomputable def kN (j:Nat):Nat:=(E8 j).toNat*2^64+(wL j).toNat
theorem D1:∀j:Nat,j<12→∀i:Nat,i<12→(kN i<kN j↔i<j):=by decide +kernel
theorem Od:∀j:Nat,j<12→0≤E8 j∧0≤wL j∧wL j<2^64:=by decide +kernel
theorem IY:∀n:Nat,n<64→n≠0→decide (V.int ((pc n:Nat):Int)=V.int 0)=false:=by
 simp only[iu];decide +kernel
theorem Oe {r:Rw}(h:nz r):r.x|||r.z≠0:=fun e=>by
 have ex:r.x=0:=Nat.le_zero.mp (e▸Nat.left_le_or)
 have ez:r.z=0:=Nat.le_zero.mp (e▸Nat.right_le_or)
 obtain⟨j,_,hb⟩:=h
 unfold cb at hb
 rw[ex,ez] at hb
 unfold bt at hb
 rw[Nat.zero_testBit,Nat.zero_testBit] at hb
 split at hb<;>cases hb
section
variable {P:Program}{w:World}{K:Frag}{mg:Str→Option Value}{base:Heap}
/- check_even: 0:rows 1:at 2:row -/
noncomputable abbrev du:Stmt:=top 29
theorem gG:az ["rows","at","row"] ["rows"] (af du):=⟨rfl,rfl,rfl,by decide +kernel,rfl,by decide +kernel,by decide +kernel⟩
theorem Ha (T:gu mg) (D:Def K mg "check_even" du ["rows"]) (A5:bR P w K mg base bu 2 "is_even" ["row"] (zK K)):bR P w K mg base bu 3 "check_even" ["rows"] (tP K):=by
 refine D.ok gG (fun vs H Q E h=>?_) (fun f bf A outer s H vs Q E hr h=>?_)
 ·obtain⟨a,as,rs,m,rfl,_⟩:=h;rfl
 obtain⟨a,as,rs,m,rfl,hS,hR,hC,hm,_,k⟩:=h
 refine⟨_,(ak (ck PassesOwn.never rfl (lM K rfl T.gB (aa (pv 0) ai)) (d3 K rfl (aQ (aH (i:=1) gG.nd rfl (Or.inl rfl)) (aQ (aH (i:=2) gG.nd rfl (Or.inl rfl)) dZ)))
    (ak (bq (dM (cS (aC A5 hr.sub (aa (pv 2) ai))))
     (ak gZ)
     aO)))),?_⟩
 refine⟨_,rfl,a,_,rfl,hS,oF (K:=K) (a:=a) (xs:=rV as) (fun i σ H'=>∃u v,σ=[some (.ref a),u,v]∧ao H H') ⟨_,_,rfl,.refl H⟩ (fun i σ H' _ ⟨_,_,_,s'⟩=>s'.seq hS) ?_ ?_⟩
 ·rintro i x σ H' p hi ⟨u,v,rfl,s'⟩ hp
  obtain⟨b,hb,rfl⟩:=cy hi
  obtain⟨r,jm,er,fK⟩:=hR.g i b hb
  have s2:=s'.upd (o:=.tup [.int i,.ref b]) (s'.free hp)
  refine⟨p,_,rfl,cL ah,rfl,_,_,rfl,_,_,rfl,rfl,?_⟩
  refine⟨_,rfl,b,r,m,rfl,cL (s2 _ _ er),hm,fK.x,fK.z,fun H3 s3=>⟨_,rfl,?_⟩⟩
  rw[hC.ev r (mem_of_getElem? jm)]
  exact fW ⟨_,_,rfl,s2.trans s3⟩
 ·rintro σ H' ⟨u,v,rfl,s'⟩
  exact k H' s'
/- check_agreeing: 0:rows 1:at 2:row 3:before -/
noncomputable abbrev bT:Stmt:=top 30
theorem cZ:az ["rows","at","row","before"] ["rows"] (af bT):=⟨rfl,rfl,rfl,by decide +kernel,rfl,by decide +kernel,by decide +kernel⟩
theorem Hb (T:gu mg) (D:Def K mg "check_agreeing" bT ["rows"]) (tR:bR P w K mg base bu 2 "agree" ["one","other"] (oZ K)):bR P w K mg base bu 3 "check_agreeing" ["rows"] (tP K):=by
 refine D.ok cZ (fun vs H Q E h=>?_) (fun f bf A outer s H vs Q E hr h=>?_)
 ·obtain⟨a,as,rs,m,rfl,_⟩:=h;rfl
 obtain⟨a,as,rs,m,rfl,hS,hR,hC,hm,SG,k⟩:=h
 refine⟨_,(ak (ck PassesOwn.never rfl (lM K rfl T.gB (aa (pv 0) ai)) (d3 K rfl (aQ (aH (i:=1) cZ.nd rfl (Or.inl rfl)) (aQ (aH (i:=2) cZ.nd rfl (Or.inl rfl)) dZ)))
    (ak (ck PassesOwn.never rfl (eh rfl T.eV (aa (pv 1) ai)) (aH (i:=3) cZ.nd rfl (Or.inl rfl))
     (ak (bq (dM (cS (aC tR hr.sub (aa (ay (fY K) (pv 0) (pv 3) (fun _ _=>rfl)) (aa (pv 2) ai)))))
      (ak gZ)
      aO)))))),?_⟩
 refine⟨_,rfl,a,_,rfl,hS,oF (K:=K) (a:=a) (xs:=rV as) (fun i σ H'=>∃u v x,σ=[some (.ref a),u,v,x]∧ao H H') ⟨_,_,_,rfl,.refl H⟩ (fun i σ H' _ ⟨_,_,_,_,s'⟩=>s'.seq hS) ?_ ?_⟩
 ·rintro i x σ H' p hi ⟨u,v,x',rfl,s'⟩ hp
  obtain⟨b,hb,rfl⟩:=cy hi
  obtain⟨r,jm,er,fK⟩:=hR.g i b hb
  have Of:i<rs.length:=(List.getElem?_eq_some_iff.mp jm).1
  have s2:=s'.upd (o:=.tup [.int i,.ref b]) (s'.free hp)
  refine⟨p,_,rfl,cL ah,rfl,_,_,rfl,_,_,rfl,rfl,?_⟩
  refine⟨_,rfl,(i:Int),rfl,by omega,by omega,eD (lo:=0) (n:=(i:Int).toNat) (fun j σ nj=>∃x,σ=[some (.ref a),some (.int i),some (.ref b),x]∧ao H nj) ⟨_,rfl,s2⟩ ?_ ?_⟩
  ·rintro j σ H2 hj ⟨x,rfl,s3⟩
   have hj':j<i:=by omega
   rw[Int.zero_add]
   obtain⟨c,t,nK,rR,ec,Og⟩:=hR.get (i:=j) (by omega)
   have PV:Bs (rV as) (j:Int)=some (.ref c):=sD (by rw[rV,getElem?_map,nK];rfl)
   refine⟨_,rfl,_,rfl,a,_,_,_,rfl,rfl,s3.seq hS,PV,_,rfl,c,b,t,r,m,rfl,cL (s3 _ _ ec),cL (s3 _ _ er),hm,Og,fK,fun H3 s4=>⟨_,rfl,?_⟩⟩
   rw[Kg,hC.ag t (mem_of_getElem? rR) r (mem_of_getElem? jm)]
   exact fW ⟨_,rfl,s3.trans s4⟩
  ·rintro σ H2 ⟨x,rfl,s3⟩
   exact⟨_,_,_,rfl,s3⟩
 ·rintro σ H' ⟨u,v,x,rfl,s'⟩
  exact k H' s'
/- least_made: 0:rows 1:coming 2:at 3:row 4:made -/
noncomputable abbrev cF:Stmt:=top 35
theorem cm:az ["rows","coming","at","row","made"] ["rows"] (af cF):=⟨rfl,rfl,rfl,by decide +kernel,rfl,by decide +kernel,by decide +kernel⟩
theorem D2 (T:gu mg) (gc:mg "sorted"=none) (D:Def K mg "least_made" cF ["rows"]) (tS:bR P w K mg base bu 3 "check_even" ["rows"] (tP K)) (mS:bR P w K mg base bu 3 "check_agreeing" ["rows"] (tP K)) (kh:bR P w K mg base bu 4 "cleared" ["made","others"] (lh K)) (fR:bR P w K mg base bu 2 "letters" ["row"] (iF K)) (cU:bR P w K mg base bu 2 "made_leading_column" ["made"] pb):bR P w K mg base bu 5 "least_made" ["rows"] (pe K):=by
 refine D.ok cm (fun vs H Q E h=>?_) (fun f bf A outer s H vs Q E hr h=>?_)
 ·obtain⟨a,as,rs,ds,m,rfl,_⟩:=h;rfl
 obtain⟨a,as,rs,ds,m,rfl,hS,hR,hF,hm,h6,k⟩:=h
 refine⟨_,(aj (gx (aC tS hr.sub (aa (pv 0) ai)))
   (aj (gx (aC mS hr.sub (aa (pv 0) ai)))
   (aj (aB (i:=1) cm.nd rfl (Or.inl rfl) (dN ai))
   (aj (ck PassesOwn.never rfl (lM K rfl T.gB (aa (pv 0) ai)) (d3 K rfl (aQ (aH (i:=2) cm.nd rfl (Or.inl rfl)) (aQ (aH (i:=3) cm.nd rfl (Or.inl rfl)) dZ)))
    (aj (aB (i:=4) cm.nd rfl (Or.inr rfl) (aC kh hr.sub (aa (aS (aa (pv 3) (aa (aq cu ae (pv 2)) ai))) (aa (pv 1) ai))))
    (aj (bq (aF d9 (aC fR hr.sub (aa (ay (au K) (pv 4) ae (fun _ _=>rfl)) ai)) ae (aM _))
     (ak gZ)
     aO)
    (ak (aB (i:=1) cm.nd rfl (Or.inl rfl) (aq mE (gA rfl cm.nd (cs (N:=["rows","coming","at","row","made"]) (osc:=af cF) (by decide +kernel)) (bU K (pv 1)) (fun _ _ _ _=>fk) (fun _ _ _ _=>(aC kh hr.sub (aa (pv 0) (aa (dN (aa (pv 5) ai)) ai))))) (dN (aa (pv 4) ai))))))))
   (ak (aD (AH K cU hr.sub gc (pv 1)))))))),?_⟩
 refine⟨_,rfl,a,as,rs,m,rfl,hS,hR,hF.c,hm,by omega,fun H1 s1=>?_⟩
 refine⟨_,rfl,a,as,rs,m,rfl,s1.seq hS,hR.same s1,hF.c,hm,by omega,fun H2 s2=>?_⟩
 have t2:=s1.trans s2
 refine⟨aI (by show 0≤1000;decide),fun e ne=>?_⟩
 have s3:=ao.new (o:=.lst []) ne
 have ee:upd H2 e (.lst []) e=some (.lst []):=ah
 have t3:=t2.trans s3
 dsimp only [aU]
 generalize upd H2 e (.lst [])=H3 at ee t3 ⊢
 have g0:Got m (rs.take 0) []:=⟨⟨fun _ h=>(nomatch h),fun _ h=>(nomatch h),fun _ h=>(nomatch h)⟩,⟨fun _ h=>(nomatch h),List.Pairwise.nil⟩,by simp,fun _ h=>by simp at h,fun _ h=>(nomatch h)⟩
 refine⟨_,rfl,a,_,rfl,t3.seq hS,oF (K:=K) (a:=a) (xs:=rV as) (fun i σ H'=>∃(q:Addr) (qs:List Addr) (C:List Rw) (v2 v3 v4:Option V),σ=[some (.ref a),some (.ref q),v2,v3,v4]∧ao H H'∧H' q=some (.lst (rV qs))∧qM (Mk rs) H' m qs C∧Got m (rs.take i) C) ⟨e,[],[],_,_,_,rfl,t3,ee,.nil,g0⟩ (fun i σ H' _ ⟨_,_,_,_,_,_,_,s',_⟩=>s'.seq hS) ?_ ?_⟩
 ·rintro i x σ H4 p hi ⟨q,qs,C,v2,v3,v4,rfl,t4,eq,hM,hG⟩ hp
  obtain⟨b,hb,rfl⟩:=cy hi
  obtain⟨r,jm,er,fK⟩:=hR.g i b hb
  have Of:i<rs.length:=(List.getElem?_eq_some_iff.mp jm).1
  have s5:=ao.new (o:=.tup [.int i,.ref b]) hp
  have ep:upd H4 p (.tup [.int i,.ref b]) p=some (.tup [.int i,.ref b]):=ah
  have eq:=s5 _ _ eq
  have hM:=hM.same s5
  have t5:=t4.trans s5
  generalize upd H4 p (.tup [.int i,.ref b])=H5 at ep eq hM t5 ⊢
  obtain⟨Iu,vC,hG'⟩:=hG.step hm hF jm
  have hCl:C.length≤6:=by rw[hG.l,length_take];omega
  refine⟨p,_,rfl,cL ep,rfl,_,_,rfl,_,_,rfl,rfl,?_⟩
  refine⟨_,rfl,_,rfl,_,_,rfl,rfl,Ke (by omega),aI (by show 2≤1000;decide),fun g ng=>?_⟩
  have s6:=ao.new (o:=.tup [.ref b,.int ((1:Int)*2^(i:Int).toNat)]) ng
  have eg:upd H5 g (.tup [.ref b,.int ((1:Int)*2^(i:Int).toNat)]) g=some (.tup [.ref b,.int ((1:Int)*2^(i:Int).toNat)]):=ah
  have eq:=s6 _ _ eq
  have hM:=hM.same s6
  have t6:=t5.trans s6
  dsimp only
  generalize upd H5 g (.tup [.ref b,.int ((1:Int)*2^(i:Int).toNat)])=H6 at eg eq hM t6 ⊢
  have TU:Md (Mk rs) H6 m g r:=⟨b,2^i,by rw[eg,gF],show 2^i<2^6 from Nat.pow_lt_pow_right (by decide) (by omega),t6 _ _ er,fK,by rw[Kw Of,cX jm],Nat.pow_lt_pow_right (by decide) Of⟩
  refine⟨_,rfl,g,q,qs,r,C,m,Mk rs,Mk rs,rfl,Mk.clo hF.c,TU,.of eq,hM,hG.r.n,hm,fun q2 H7 s7 qu=>?_⟩
  have eq:=s7 _ _ eq
  have hM:=hM.same s7
  have t7:=t6.trans s7
  generalize lD C r=t at Iu vC hG' qu
  obtain⟨b2,k2,e2,_,DK,_⟩:=qu.e
  refine⟨_,rfl,q2,_,_,_,rfl,rfl,cL e2,rfl,b2,t,m,rfl,cL DK,hm,vC,fun H8 s8=>⟨rfl,_,rfl,bV (IY _ (Nt (le64 hm vC.x) (le64 hm vC.z)) (Oe Iu)) ?_⟩⟩
  have eq:=s8 _ _ eq
  have hM:=hM.same s8
  have qu:=qu.same s8
  have t8:=t7.trans s8
  have TV:qs.length=C.length:=hM.l
  refine⟨_,rfl,q,rfl,⟨_,.of eq⟩,fZ (K:=K) (a:=q) (xs:=rV qs) (fun j ys H'=>∃cs:List Addr,ys=rV cs∧cs.length=j∧ao H8 H'∧qM (Mk rs) H' m cs ((C.take j).map fun c=>nB c t)) ⟨[],rfl,rfl,.refl H8,.nil⟩ (fun j ys H' _ ⟨cs,e,hj,s',_⟩=>⟨.of (s' _ _ eq),by rw[e,rV,length_map,hj]⟩) (aI (by rw[rV,length_map];omega)) ?_ ?_⟩
  ·rintro j x ys H9 Q' hj ⟨yi,rfl,nD,s9,rn⟩ q'
   obtain⟨c,hc,rfl⟩:=cy hj
   obtain⟨u,hu,hd⟩:=hM.g j c hc
   refine⟨_,rfl,_,rfl,aI (by show 1≤1000;decide),fun l nl=>?_⟩
   have Hc:=ao.new (o:=.lst [.ref q2]) nl
   have el:upd H9 l (.lst [.ref q2]) l=some (.lst [.ref q2]):=ah
   have Hd:=s9.trans Hc
   have rn:=rn.same Hc
   generalize upd H9 l (.lst [.ref q2])=He at el Hd rn ⊢
   refine⟨c,l,[q2],u,[t],m,Mk rs,Mk rs,rfl,Mk.clo hF.c,hd.same Hd,.of el,qM.nil.app (qu.same Hd),fun x hx=>by rw[mem_singleton.mp hx];exact Iu,hm,fun q3 E9 qO ID=>q' _ _ ?_⟩
   refine⟨yi++[q3],by simp[rV],by simp[nD],Hd.trans qO,?_⟩
   rw[take_add_one,hu,Option.toList_some,List.map_append]
   exact(rn.same qO).app ID
  ·rintro ys H9 z ⟨yi,rfl,nD,s9,rn⟩ nz9
   rw[rV,length_map,TV,take_length] at rn
   have Hc:=s9.trans (ao.new (o:=.lst (rV yi)) nz9)
   have ez:upd H9 z (.lst (rV yi)) z=some (.lst (rV yi)):=ah
   have rn:=rn.same (ao.new (o:=.lst (rV yi)) nz9)
   generalize upd H9 z (.lst (rV yi))=He at Hc ez rn ⊢
   refine⟨_,rfl,aI (by show 1≤1000;decide),fun l nl=>?_⟩
   have qO:=ao.new (o:=.lst [.ref q2]) nl
   have el:upd He l (.lst [.ref q2]) l=some (.lst [.ref q2]):=ah
   have ez:=qO _ _ ez
   have rn:=rn.same qO
   have D3:=Hc.trans qO
   generalize upd He l (.lst [.ref q2])=E9 at el ez rn D3 ⊢
   rw[rV,length_map] at nD
   refine⟨z,l,_,_,rfl,rfl,ez,el,aI (by simp[rV];omega),fun z2 Qx=>?_⟩
   rw[show rV yi++[V.ref q2]=rV (yi++[q2]) by simp[rV]]
   have qv:=ao.new (o:=.lst (rV (yi++[q2]))) Qx
   exact⟨z2,yi++[q2],_,_,_,_,rfl,(t8.trans D3).trans qv,ah,(rn.app (qu.same D3)).same qv,hG'⟩
 ·rintro σ H4 ⟨q,qs,C,v2,v3,v4,rfl,t4,eq,hM,hG⟩
  rw[rV,length_map,hR.l,take_length] at hG
  have hCl:C.length≤6:=by rw[hG.l];exact h6
  have TV:qs.length=C.length:=hM.l
  have Fu:∀x∈rV qs,∃c b,x = .ref b∧c∈C∧Md (Mk rs) H4 m b c∧L6 H4 x=(E8 (ld c),wL (ld c)):=fun x hx=>by
   obtain⟨j,hj⟩:=mem_iff_getElem?.mp hx
   obtain⟨b,hb,rfl⟩:=cy hj
   obtain⟨c,hc,hd⟩:=hM.g j b hb
   exact⟨c,b,rfl,mem_of_getElem? hc,hd,tQ hd⟩
  refine⟨_,rfl,q,rV qs,L6 H4,rfl,.of eq,by rw[rV,length_map];omega,fun x H5 Q' hx s5 q'=>?_,fun x hx=>?_,?_,fun l H5 ws s5 nl el hp hs=>?_⟩
  ·obtain⟨c,b,rfl,hc,hd,hk⟩:=Fu x hx
   refine⟨b,c,m,Mk rs,rfl,hd.same s5,hm,hG.r.n c hc,fun p H6 s6 ep=>q' p H6 s6 ?_⟩
   rw[hk];exact ep
  ·obtain⟨c,b,rfl,hc,hd,hk⟩:=Fu x hx
   rw[hk];exact Od _ (hG.r.n c hc).ld.lt
  ·have e:(rV qs).map (kv (L6 H4))=C.map fun c=>kN (ld c):=by
    apply List.ext_getElem?
    intro j
    simp only[rV,getElem?_map]
    cases hj:qs[j]? with
    | none=>rw[getElem?_eq_none (by rw[←TV];exact List.getElem?_eq_none_iff.mp hj)];rfl
    | some b =>
     obtain⟨c,hc,hd⟩:=hM.g j b hj
     rw[hc]
     show some (kv (L6 H4) (.ref b))=some (kN (ld c))
     unfold kv kN
     rw[tQ hd]
   rw[e]
   refine AZ hG.r (fun c hc d j4 he=>?_)
   have l1:=(hG.r.n c hc).ld.lt
   have l2:=(hG.r.n d j4).ld.lt
   rcases Nat.lt_trichotomy (ld c) (ld d) with x|x|x
   ·have:=(D1 _ l2 _ l1).mpr x;omega
   ·exact x
   ·have:=(D1 _ l1 _ l2).mpr x;omega
  ·obtain⟨bs,rfl,hpb⟩:∃bs:List Addr,ws=rV bs∧bs.Perm qs:=rZ hp
   obtain⟨L,hpL,Oh⟩:=qM.perm hpb hM
   have gL:=Got.perm hG hpL
   refine k l bs L H5 (t4.trans s5) el (Oh.same s5) gL ?_
   rw[List.pairwise_iff_getElem] at hs ⊢
   intro i j hi hj gv
   have zi:i<bs.length:=by rw[Oh.l];exact hi
   have KZ:j<bs.length:=by rw[Oh.l];exact hj
   have bZ:=hs i j (by rw[rV,length_map];exact zi) (by rw[rV,length_map];exact KZ) gv
   obtain⟨c,hc,hd⟩:=Oh.g i bs[i] (getElem?_eq_getElem zi)
   obtain⟨d,P6,hd2⟩:=Oh.g j bs[j] (getElem?_eq_getElem KZ)
   rw[getElem?_eq_getElem hi] at hc
   rw[getElem?_eq_getElem hj] at P6
   have ec:=Option.some.inj hc
   have ed:=Option.some.inj P6
   rw[ec,ed]
   have e1:(rV bs)[i]'(by rw[rV,length_map];exact zi)=V.ref bs[i]:=by rw[List.getElem_map]
   have e2:(rV bs)[j]'(by rw[rV,length_map];exact KZ)=V.ref bs[j]:=by rw[List.getElem_map]
   rw[e1,e2] at bZ
   unfold kv at bZ
   rw[tQ hd,tQ hd2] at bZ
   have l1:=(gL.r.n c (ec▸List.getElem_mem hi)).ld.lt
   have l2:=(gL.r.n d (ed▸List.getElem_mem hj)).ld.lt
   exact(D1 _ l2 _ l1).mp bZ
end
end iE
set_option maxHeartbeats 4000000
namespace iE
open PySem L2 TC
noncomputable def nb (n:Nat):List Nat:=(List.range 6).filter (bt n)
noncomputable abbrev cV (L:List Nat):List V:=L.map fun n:Nat=>V.int (n:Int)
theorem Hf:∀n:Nat,n<64→((List.range (Builtin.Int.intBits (n:Int))).filter (bt n))=nb n∧Builtin.Int.intBits (n:Int)≤6:=by decide +kernel
theorem K6:∀n:Nat,n<64→∀i:Nat,i<6→decide (V.int (Builtin.bitAnd ((n:Int)/2^i) 1)=V.int 1)=bt n i:=by
 simp only[iu];decide +kernel
theorem tT (rs:List Rw):pm rs 0=ip:=by
 have:∀i,iD rs 0 i=ip:=fun i=>by
  induction i with
  | zero=>rfl
  | succ i ih=>unfold iD;rw[Nat.zero_testBit,if_neg (by decide),ih]
 exact this _
noncomputable def zN:Sp:=fun vs H Q _=>∃(a b:Addr) (n:Nat),vs=[.ref a]∧H a=some (.tup [.ref b,.int (n:Int)])∧n<64∧∀p H',ao H H'→H p=none→H' p=some (.lst (cV (nb n)))→Q (.ref p) H'
noncomputable def Is (rs:List Rw) (t:Rw) (n:Nat):Prop:=n<2^rs.length∧(pm rs n).x=t.x∧(pm rs n).z=t.z
noncomputable def r6 (K:Frag):Sp:=fun vs H Q _=>∃(a b:Addr) (as:List Addr) (rs ds:List Rw) (t:Rw) (m:Nat),vs=[.ref a,.ref b]∧cC K H a (rV as)∧bY H m as rs∧Fr m rs ds∧m≤6∧rs.length≤6∧H b=some (.tup t.vals)∧t.ok m ∧
 (∀n,Is rs t n→∀q l H',ao H H'→H q=none→H l=none→H' l=some (.lst (cV (nb n)))→H' q=some (.tup [.ref l,.int (t.sg*(pm rs n).sg)])→Q (.ref q) H')∧((∀n,¬Is rs t n)→∀H',ao H H'→Q .cK H')
theorem Oi {m:Nat}{rs:List Rw}(c:Cm m rs) {t:Rw}{n:Nat}(h:Is rs t n):t=sc (t.sg*(pm rs n).sg) (pm rs n):=by
 obtain⟨_,hx,hz⟩:=h
 have hs:=(Sn.good c (IH rs n)).1.s
 obtain⟨s,x,z⟩:=t
 unfold sc
 dsimp only at hx hz ⊢
 rw[hx,hz,Int.mul_assoc,CZ hs,Int.mul_one]
theorem xor_zero {a b:Nat}(h:a^^^b=0):b=a:=by
 have:=congrArg (a^^^·) h
 rw[←Nat.xor_assoc,Nat.xor_self,Nat.zero_xor,Nat.xor_zero] at this
 exact this
theorem zO {m:Nat}{rs ds:List Rw}(F:Fr m rs ds) {t:Rw}{n:Nat}(hn:n<2^rs.length) (hx:(bz t (pm rs n)).x=0) (hz:(bz t (pm rs n)).z=0):Is rs t n:=by
 have hx':t.x^^^(pm rs n).x=0:=hx
 have B7:t.z^^^(pm rs n).z=0:=hz
 exact⟨hn,xor_zero hx',xor_zero B7⟩
section
variable {P:Program}{w:World}{K:Frag}{mg:Str→Option Value}{base:Heap}
/- numbers_made_of: 0:made -/
noncomputable abbrev bh:Stmt:=top 34
theorem gk:az ["made"] ["made"] (af bh):=⟨rfl,rfl,rfl,by decide +kernel,rfl,by decide +kernel,by decide +kernel⟩
theorem Hg (T:gu mg) (D:Def K mg "numbers_made_of" bh ["made"]):bR P w K mg base bu 1 "numbers_made_of" ["made"] zN:=by
 refine D.ok gk (fun vs H Q E h=>?_) (fun f bf A outer s H vs Q E hr h=>?_)
 ·obtain⟨a,b,n,rfl,_⟩:=h;rfl
 obtain⟨a,b,n,rfl,ea,hn,k⟩:=h
 obtain⟨e1,e3⟩:=Hf n hn
 refine⟨_,(ak (aD (gA rfl gk.nd (cs (N:=["made"]) (osc:=af bh) (by decide +kernel)) (eh rfl T.eV (aa (B0 PySem.F.plainAttrs_int PySem.F.slot_int_bit_length PySem.F.type_int_bit_length qE (ay (au K) (pv 0) ae (fun _ _=>rfl))) ai)) (fun _ _ _ _=>(lI (aF d9 (aq cx (aq i7 (ay (au K) (pv 1) ae (fun _ _=>rfl)) (pv 0)) ae) ae (aM _)))) (fun _ _ _ _=>(pv 0))))),?_⟩
 refine⟨_,rfl,a,_,_,_,rfl,rfl,cL ea,rfl,rfl,(n:Int),rfl,rfl,((Builtin.Int.intBits (n:Int):Nat):Int),rfl,by omega,by omega,?_⟩
 rw[Int.toNat_natCast]
 refine nr (bt n) (fun i=>.int (i:Int)) (aI (by omega)) ?_ ?_ ?_
 ·intro i H' Q' hi s' q'
  rw[Int.zero_add]
  have:=q' H' (.refl H')
  rw[←K6 n hn i (by omega)] at this
  exact⟨_,rfl,a,_,_,_,rfl,rfl,cL (s' _ _ ea),rfl,_,rfl,_,_,rfl,rfl,by omega,_,_,rfl,rfl,rfl,_,rfl,this⟩
 ·intro i H' Q' hi _ s' q'
  rw[Int.zero_add]
  exact⟨_,rfl,q' H' (.refl H')⟩
 ·intro p H' s' np ep
  rw[e1] at ep
  exact k p H' s' np ep
/- made_of: 0:rows 1:row 2:rest -/
noncomputable abbrev fS:Stmt:=top 36
theorem pf:az ["rows","row","rest"] ["rows","row"] (af fS):=⟨rfl,rfl,rfl,by decide +kernel,rfl,by decide +kernel,by decide +kernel⟩
theorem A6 (T:gu mg) (D:Def K mg "made_of" fS ["rows","row"]) (kh:bR P w K mg base bu 4 "cleared" ["made","others"] (lh K)) (iH:bR P w K mg base bu 5 "least_made" ["rows"] (pe K)) (fR:bR P w K mg base bu 2 "letters" ["row"] (iF K)) (lV:bR P w K mg base bu 1 "numbers_made_of" ["made"] zN):bR P w K mg base bu 6 "made_of" ["rows","row"] (r6 K):=by
 refine D.ok pf (fun vs H Q E h=>?_) (fun f bf A outer s H vs Q E hr h=>?_)
 ·obtain⟨a,b,as,rs,ds,t,m,rfl,_⟩:=h;rfl
 obtain⟨a,b,as,rs,ds,t,m,rfl,hS,hR,hF,hm,h6,eb,tok,k1,k2⟩:=h
 refine⟨_,(aj (aB (i:=2) pf.nd rfl (Or.inl rfl) (aC kh hr.sub (aa (aS (aa (pv 1) (aa ae ai))) (aa (aC iH hr.sub (aa (pv 0) ai)) ai))))
   (aj (bq (aF i8 (aC fR hr.sub (aa (ay (au K) (pv 2) ae (fun _ _=>rfl)) ai)) ae (aM _))
    (ak (aD mz))
    aO)
   (ak (aD (aS (aa (aC lV hr.sub (aa (pv 2) ai)) (aa (ay (au K) (ay (au K) (pv 2) ae (fun _ _=>rfl)) ae (fun _ _=>rfl)) ai))))))),?_⟩
 refine⟨_,rfl,aI (by show 2≤1000;decide),fun g ng=>?_⟩
 have s1:=ao.new (o:=.tup [.ref b,.int 0]) ng
 have eg:upd H g (.tup [.ref b,.int 0]) g=some (.tup [.ref b,.int 0]):=ah
 dsimp only
 generalize upd H g (.tup [.ref b,.int 0])=H1 at s1 eg ⊢
 refine⟨_,rfl,a,as,rs,ds,m,rfl,s1.seq hS,hR.same s1,hF,hm,h6,fun q qs L H2 s2 eq hM hG hs=>?_⟩
 have t2:=s1.trans s2
 have c0:Qu (fun r n=>r=bz t (pm rs n)∧n<2^rs.length) (Mk rs):=fun r n u j h1 h2=>⟨by rw[h1.1,h2.1,Dv hF.c,bA],Nat.xor_lt_two_pow h1.2 h2.2⟩
 have TU:Md (fun r n=>r=bz t (pm rs n)∧n<2^rs.length) H2 m g t:=⟨b,0,s2 _ _ eg,by decide,t2 _ _ eb,tok,by rw[tT,fI],Nat.two_pow_pos _⟩
 refine⟨g,q,qs,t,L,m,_,Mk rs,rfl,c0,TU,.of eq,hM,hG.r.n,hm,fun p H3 s3 hp=>?_⟩
 have t3:=t2.trans s3
 obtain⟨c,n,ep,TX,ec,Og,Qy,TY⟩:=hp.e
 refine⟨_,rfl,p,_,_,_,rfl,rfl,cL ep,rfl,c,_,m,rfl,cL ec,hm,Og,fun H4 s4=>⟨rfl,_,rfl,?_⟩⟩
 have t4:=t3.trans s4
 by_cases hi:∃n',Is rs t n'
 ·obtain⟨n',hi⟩:=hi
  have h0:lD L t=sc (t.sg*(pm rs n').sg) ip:=by
   conv=>lhs;rw[Oi hF.c hi]
   exact Dy hG _ (IH rs n')
  have P7:(lD L t).x=0:=by rw[h0];rfl
  have hz0:(lD L t).z=0:=by rw[h0];rfl
  have IP:Is rs t n:=zO hF TY (by rw[←Qy];exact P7) (by rw[←Qy];exact hz0)
  have hnn:n=n':=Kx hF TY hi.1 (by rw[IP.2.1,hi.2.1]) (by rw[IP.2.2,hi.2.2])
  subst hnn
  rw[P7,hz0]
  refine fW ?_
  refine⟨_,rfl,p,c,n,rfl,s4 _ _ ep,TX,fun l H5 s5 nl el=>?_⟩
  refine⟨_,rfl,p,_,_,_,rfl,rfl,cL (s5 _ _ (s4 _ _ ep)),rfl,c,_,_,_,rfl,rfl,cL (s5 _ _ (s4 _ _ ec)),rfl,aI (by show 2≤1000;decide),fun z TZ=>?_⟩
  refine k1 n hi z l _ ((t4.trans s5).trans (ao.new TZ)) ((t4.trans s5).free TZ) (t4.free nl) (ao.new TZ _ _ el) ?_
  rw[ah,h0]
  show some (HO.tup [V.ref l,V.int (t.sg*(pm rs n).sg*1)])=_
  rw[Int.mul_one]
 ·have fG:(lD L t).x|||(lD L t).z≠0:=fun e=>hi ⟨n,zO hF TY (by rw[←Qy];exact Nat.le_zero.mp (e▸Nat.left_le_or)) (by rw[←Qy];exact Nat.le_zero.mp (e▸Nat.right_le_or))⟩
  refine lK (by rw[IY _ (Nt (le64 hm Og.x) (le64 hm Og.z)) fG];rfl) ?_
  exact k2 (fun n' h=>hi ⟨n',h⟩) H4 t4
end
noncomputable def vX (K:Frag):Sp:=fun vs H Q _=>∃(a:Addr) (as:List Addr) (rs ds:List Rw) (m:Nat),vs=[.ref a]∧cC K H a (rV as)∧bY H m as rs∧Fr m rs ds∧m≤6∧rs.length≤6∧∀q qs L H',ao H H'→H q=none→H' q=some (.lst (rV qs))→bY H' m qs L→Got m rs L→L.Pairwise (fun a b=>ld a<ld b)→Q (.ref q) H'
section
variable {P:Program}{w:World}{K:Frag}{mg:Str→Option Value}{base:Heap}
/- least_rows: 0:rows -/
noncomputable abbrev cG:Stmt:=top 37
theorem kI:az ["rows"] ["rows"] (af cG):=⟨rfl,rfl,rfl,by decide +kernel,rfl,by decide +kernel,by decide +kernel⟩
theorem D4 (T:gu mg) (D:Def K mg "least_rows" cG ["rows"]) (iH:bR P w K mg base bu 5 "least_made" ["rows"] (pe K)):bR P w K mg base bu 6 "least_rows" ["rows"] (vX K):=by
 refine D.ok kI (fun vs H Q E h=>?_) (fun f bf A outer s H vs Q E hr h=>?_)
 ·obtain⟨a,as,rs,ds,m,rfl,_⟩:=h;rfl
 obtain⟨a,as,rs,ds,m,rfl,hS,hR,hF,hm,h6,k⟩:=h
 refine⟨_,(ak (aD (gA rfl kI.nd (cs (N:=["rows"]) (osc:=af cG) (by decide +kernel)) (bU K (aC iH hr.sub (aa (pv 0) ai))) (fun _ _ _ _=>fk) (fun _ _ _ _=>(aS (aa (ay (au K) (ay (au K) (pv 0) ae (fun _ _=>rfl)) ae (fun _ _=>rfl)) (aa (ay (au K) (ay (au K) (pv 0) ae (fun _ _=>rfl)) ae (fun _ _=>rfl)) (aa (ay (au K) (ay (au K) (pv 0) ae (fun _ _=>rfl)) ae (fun _ _=>rfl)) ai)))))))),?_⟩
 refine⟨_,rfl,a,as,rs,ds,m,rfl,hS,hR,hF,hm,h6,fun q qs L H1 s1 eq hM hG hs=>?_⟩
 have hl:qs.length≤6:=by rw[hM.l,hG.l];exact h6
 refine⟨q,rfl,⟨_,.of eq⟩,fZ (K:=K) (a:=q) (xs:=rV qs) (fun j ys H'=>∃cs:List Addr,ys=rV cs∧cs.length=j∧ao H1 H'∧bY H' m cs (L.take j)) ⟨[],rfl,rfl,.refl H1,⟨rfl,fun _ _ h=>nomatch h⟩⟩ (fun j ys H' _ ⟨cs,e,hj,s',_⟩=>⟨.of (s' _ _ eq),by rw[e,rV,length_map,hj]⟩) (aI (by rw[rV,length_map];omega)) ?_ ?_⟩
 ·rintro j x ys H2 Q' hj ⟨yi,rfl,nD,s2,rn⟩ q'
  obtain⟨c,hc,rfl⟩:=cy hj
  obtain⟨r,jm,hd⟩:=hM.g j c hc
  obtain⟨b,kk,e,_,eb,fK⟩:=hd.e
  have e:=s2 _ _ e
  have eb:=s2 _ _ eb
  refine⟨_,rfl,c,_,_,_,rfl,rfl,cL e,rfl,b,_,_,_,rfl,rfl,cL eb,rfl,_,rfl,c,_,_,_,rfl,rfl,cL e,rfl,b,_,_,_,rfl,rfl,cL eb,rfl,_,rfl,c,_,_,_,rfl,rfl,cL e,rfl,b,_,_,_,rfl,rfl,cL eb,rfl,aI (by show 3≤1000;decide),fun g ng=>?_⟩
  refine q' _ _ ⟨yi++[g],by simp[rV],by simp[nD],s2.trans (ao.new ng),?_⟩
  rw[take_add_one,jm,Option.toList_some]
  exact(rn.same (ao.new ng)).app ah fK.1
 ·rintro ys H2 p ⟨yi,rfl,nD,s2,rn⟩ np
  rw[rV,length_map,hM.l,take_length] at rn
  exact k p yi L _ ((s1.trans s2).trans (ao.new np)) ((s1.trans s2).free np) ah (rn.same (ao.new np)) hG hs
end
end iE
set_option maxHeartbeats 4000000
namespace iE
open PySem L2 TC
theorem yj {K:Frag}{a:Addr}{xs:List V}{tt:TT}{te:TE}{σ:St}{H:Hp}{Q:VK}(c:Nat→Bool) (f:Nat→V) (hl:cC K H a xs) (hz:xs.length≤sizeLine)
  (ht:∀(i:Nat) x H' Q',xs[i]?=some x→ao H H'→(∀nj,ao H' nj→Q' (c i) nj)→tt (some (.int i)::some x::σ) H' Q')
  (he:∀(i:Nat) x H' Q',xs[i]?=some x→c i=true→ao H H'→(∀nj,ao H' nj→Q' (f i) nj)→te (some (.int i)::some x::σ) H' Q')
  (hd:∀p H',ao H H'→H p=none→H' p=some (.lst (((List.range xs.length).filter c).map f))→Q (.ref p) H'):∃W,(∃m,W 0 m [] H)∧xB K (LR K a) tt te σ Q W:=by
 refine⟨fun i m ys H'=>m=xs.length-i∧i≤xs.length∧ys=((List.range i).filter c).map f∧ao H H',⟨xs.length,by simp,Nat.zero_le _,rfl,.refl H⟩,?_⟩
 rintro i m ys H' ⟨rfl,hi,rfl,s⟩
 have q:=s.seq hl
 have hlen:(((List.range i).filter c).map f).length≤i:=by
  rw[length_map];exact Nat.le_trans (List.length_filter_le _ _) (by rw[length_range];exact Nat.le_refl _)
 by_cases bZ:i<xs.length
 ·refine .inr ⟨⟨xs,xs[i],q,by simp[bZ]⟩,by omega,fun x H2 y=>?_⟩
  obtain⟨p,v,hp,rfl,rfl,y⟩:=y
  have hx:=y xs q
  have s2:ao H (upd H' p (.tup [.int i,v])):=s.trans (ao.new hp)
  refine⟨p,_,_,rfl,.inl (.inl ah),?_⟩
  refine ht i v _ _ hx s2 fun H3 s3=>?_
  cases hc:c i with
  | true =>
   rw[if_pos rfl]
   refine he i v _ _ hx hc (s2.trans s3) fun nj s'=>⟨xs.length-(i+1),by omega,rfl,bZ,?_,(s2.trans s3).trans s'⟩
   rw[List.range_succ,List.filter_append,filter_cons,hc];simp
  | false =>
   rw[if_neg (by decide)]
   refine⟨xs.length-(i+1),by omega,rfl,bZ,?_,s2.trans s3⟩
   rw[List.range_succ,List.filter_append,filter_cons,hc];simp
 ·have e:i=xs.length:=by omega
  subst e
  refine .inl ⟨⟨xs,q,Nat.le_refl _⟩,by omega,fun p hp=>hd p _ (s.upd (s.free hp)) (s.free hp) ?_⟩
  rw[ah]
noncomputable def wM (c:Nat→Bool):Nat→Nat
 | 0=>0
 | n+1=>wM c n+if c n then 2^n else 0
theorem yk (c:Nat→Bool):∀n,wM c n<2^n
 | 0=>by show 0<2^0;decide
 | n+1=>by
  have ih:=yk c n
  show wM c n+(if c n then 2^n else 0)<_
  rw[Nat.pow_succ]
  split<;>omega
theorem K7 (c:Nat→Bool) (n:Nat):wM c n|||2^n=wM c n+2^n:=by
 have h:=Nat.two_pow_add_eq_or_of_lt (yk c n) 1
 rw[Nat.mul_one] at h
 rw[Nat.or_comm,←h,Nat.add_comm]
theorem zP (c:Nat→Bool):∀n,(((List.range n).filter c).map fun i=>((2^i:Nat):Int)).sum=(wM c n:Int)
 | 0=>rfl
 | n+1=>by
  rw[List.range_succ,List.filter_append,List.map_append,List.sum_append,zP c n]
  show _=((wM c n+(if c n then 2^n else 0):Nat):Int)
  cases h:c n with
  | true=>rw[filter_cons,h];simp
  | false=>rw[filter_cons,h];simp
noncomputable def ki (rs:List Rw) (t:Rw):Nat:=wM (fun i=>!sU (ra rs i) t) rs.length
noncomputable abbrev cfs (m:Nat) (l:Addr):List (Str×V):=[("coins",.int m),("checks",.ref l)]
structure Fb (H:Hp) (C x:Addr) (m:Nat) (rs:List Rw):Prop where
 ex:∃(dx l:Addr) (as:List Addr),H x=some (.ins C dx (cfs m l))∧H l=some (.lst (rV as))∧bY H m as rs
theorem Fb.same {H H':Hp}{C x:Addr}{m:Nat}{rs:List Rw}(h:Fb H C x m rs) (s:ao H H'):Fb H' C x m rs:=by
 obtain⟨dx,l,as,h1,h2,h3⟩:=h.ex
 exact⟨dx,l,as,s _ _ h1,s _ _ h2,h3.same s⟩
noncomputable def vY (K:Frag):Sp:=fun vs H Q _=>∃(a:Addr) (as:List Addr) (rs ds:List Rw) (m:Nat),vs=[.int m,.ref a]∧cC K H a (rV as)∧bY H m as rs∧Fr m rs ds∧1≤m∧m≤6∧rs.length≤m∧∀H',ao H H'→Q .cK H'
noncomputable def zQ (K:Frag) (C:Addr):Sp:=fun vs H Q _=>∃(x dx a:Addr) (as:List Addr) (rs ds:List Rw) (m:Nat),vs=[.ref x,.int m,.ref a]∧cC K H a (rV as)∧bY H m as rs∧Fr m rs ds∧1≤m∧m≤6∧rs.length≤m∧H x=some (.ins C dx []) ∧
 ∀l H',H' x=some (.ins C dx (cfs m l))→H' l=some (.lst (rV as))→(∀b o,b≠x→H b=some o→H' b=some o)→Q .cK H'
noncomputable def vZ (K:Frag) (C:Addr):Sp:=fun vs H Q _=>∃(x t:Addr) (rs:List Rw) (r:Rw) (m:Nat),vs=[.ref x,.ref t]∧Fb H C x m rs∧fh K H t r.vals∧r.ok m∧m≤6∧rs.length≤6∧∀H',ao H H'→Q (.int (ki rs r:Nat)) H'
noncomputable def zR (C:Addr):Sp:=fun vs H Q _=>∃(x t:Addr) (rs ds:List Rw) (r:Rw) (m:Nat),vs=[.ref x,.ref t]∧Fb H C x m rs∧H t=some (.tup r.vals)∧r.ok m∧m≤6∧rs.length≤6∧Fr m rs ds∧((∃n,Is rs r n)→∀H',ao H H'→Q (.bl true) H')∧((∀n,¬Is rs r n)→∀H',ao H H'→Q (.bl false) H')
section
variable {P:Program}{w:World}{K:Frag}{mg:Str→Option Value}{base:Heap}{C:Addr}
/- check_code: 0:coins 1:checks 2:check -/
noncomputable abbrev dw:Stmt:=top 39
theorem kJ:az ["coins","checks","check"] ["coins","checks"] (af dw):=⟨rfl,rfl,rfl,by decide +kernel,rfl,by decide +kernel,by decide +kernel⟩
theorem D5 (T:gu mg) (MC:∃t,mg "MOST_COINS"=some (.int 6 t)) (D:Def K mg "check_code" dw ["coins","checks"]) (D6:bR P w K mg base bu 1 "is_row" ["row","coins"] (zL K)) (tU:bR P w K mg base bu 6 "least_rows" ["rows"] (vX K)):bR P w K mg base bu 7 "check_code" ["coins","checks"] (vY K):=by
 refine D.ok kJ (fun vs H Q E h=>?_) (fun f bf A outer s H vs Q E hr h=>?_)
 ·obtain⟨a,as,rs,ds,m,rfl,_⟩:=h;rfl
 obtain⟨a,as,rs,ds,m,rfl,hS,hR,hF,m1,m6,hl,k⟩:=h
 have wK:as.length=rs.length:=hR.l
 refine⟨_,(aj (bq (PW.pt (pw_or (aF i9 (pv 0) ae (aM _)) (pw_or1 (aF qY (pv 0) (yU MC) (aM _)))))
    (ak gZ)
    aO)
   (aj (bq (aF qY (aK (hX K) (by rfl) T.oC kW (aa (pv 1) ai)) (pv 0) (aM _))
    (ak gZ)
    aO)
   (aj (ck PassesOwn.never rfl (bU K (pv 1)) (aH (i:=2) kJ.nd rfl (Or.inl rfl))
    (ak (bq (dM (cS (aC D6 hr.sub (aa (pv 2) (aa (pv 0) ai)))))
     (ak gZ)
     aO)))
   (ak (gx (aC tU hr.sub (aa (pv 1) ai))))))),?_⟩
 refine⟨_,rfl,_,_,rfl,rfl,_,rfl,nt (by show ¬(m:Int)<1;omega) ?_⟩
 refine⟨_,rfl,_,_,rfl,rfl,_,rfl,nt (by show ¬(m:Int) > 6;omega) ?_⟩
 refine⟨_,rfl,a,_,rfl,.inl hS,_,rfl,_,_,rfl,rfl,_,rfl,nt (by show ¬((rV as).length:Int) > (m:Int);rw[rV,length_map];omega) ?_⟩
 refine⟨_,rfl,a,rfl,⟨_,hS⟩,d0 (K:=K) (a:=a) (xs:=rV as) (fun i σ H'=>∃v,σ=[some (.int m),some (.ref a),v]∧ao H H') ⟨_,rfl,.refl H⟩ (fun i σ H' _ ⟨_,_,s'⟩=>s'.seq hS) ?_ ?_⟩
 ·rintro i x σ H' hi ⟨v,rfl,s'⟩
  obtain⟨b,hb,rfl⟩:=cy hi
  obtain⟨r,jm,er,fK⟩:=hR.g i b hb
  exact⟨_,rfl,_,rfl,b,r,m,rfl,cL (s' _ _ er),m6,fK,fun H2 s2=>⟨_,rfl,fW ⟨_,rfl,s'.trans s2⟩⟩⟩
 ·rintro σ H' ⟨v,rfl,s'⟩
  exact⟨_,rfl,a,as,rs,ds,m,rfl,s'.seq hS,hR.same s',hF,m6,by omega,fun q qs L H2 s2 _ _ _ _ _=>k H2 (s'.trans s2)⟩
/- Code.__init__: 0:self 1:coins 2:checks -/
noncomputable abbrev cc:Stmt:=vK (top 41) 0
theorem mT:az ["self","coins","checks"] ["self","coins","checks"] (af cc):=⟨rfl,rfl,rfl,by decide +kernel,rfl,by decide +kernel,by decide +kernel⟩
theorem Hh (T:gu mg) (N1:bE K C "coins") (N2:bE K C "checks") (D:DG K mg "Code" C "Code.__init__" cc ["self","coins","checks"]) (tV:bR P w K mg base bu 7 "check_code" ["coins","checks"] (vY K)):GG P w K mg base 8 "Code" C (zQ K C):=by
 have cl:=D.c
 refine D.ok mT (fun vs H Q E h=>?_) (fun f bf A outer s H vs Q E hr h=>?_)
 ·obtain⟨x,dx,a,as,rs,ds,m,rfl,_⟩:=h;rfl
 obtain⟨x,dx,a,as,rs,ds,m,rfl,hS,hR,hF,m1,m6,hl,ex,k⟩:=h
 refine⟨_,(aj (gx (aC tV hr.sub (aa (pv 1) (aa (pv 2) ai))))
   (aj (zB K (pv 0) (pv 1))
   (ak (zB K (pv 0) (j6 (kX K) (by rfl) T.sO nS (aa (pv 2) ai)))))),?_⟩
 refine⟨_,rfl,_,rfl,a,as,rs,ds,m,rfl,hS,hR,hF,m1,m6,hl,fun H1 s1=>?_⟩
 have D7:=s1 _ _ ex
 refine⟨_,rfl,_,rfl,x,C,dx,[],rfl,D7,cl,N1,by decide,?_⟩
 have T3:upd H1 x (.ins C dx (gr "coins" (.int m) [])) x=some (.ins C dx [("coins",.int m)]):=ah
 have wL:∀b o,b≠x→H1 b=some o→upd H1 x (.ins C dx (gr "coins" (.int m) [])) b=some o:=fun b o hb h=>by rw[av hb];exact h
 generalize upd H1 x (.ins C dx (gr "coins" (.int m) []))=H2 at T3 wL ⊢
 have S0:cC K H2 a (rV as):=by
  rcases s1.seq hS with(h|⟨o,h⟩)|h
  ·exact .inl (.inl (wL a _ (fun z=>by rw[z,D7] at h;cases h) h))
  ·exact .inl (.inr ⟨o,wL a _ (fun z=>by rw[z,D7] at h;cases h) h⟩)
  ·exact .inr h
 refine⟨_,rfl,a,_,rfl,.inl S0,fun l nl=>?_⟩
 have hlx:x≠l:=aE T3 nl
 refine⟨_,rfl,x,C,dx,[("coins",.int m)],rfl,ao.new nl _ _ T3,cl,N2,by show 1<1000;decide,?_⟩
 refine k l _ (by rw[ah];rfl) (by rw[av (Ne.symm hlx)];exact ah) (fun b o hb h=>?_)
 rw[av hb]
 exact ao.new nl _ _ (wL b o hb (s1 _ _ h))
/- Code.marks: 0:self 1:turn -/
noncomputable abbrev cH:Stmt:=vK (top 41) 1
theorem kK:az ["self","turn"] ["self","turn"] (af cH):=⟨rfl,rfl,rfl,by decide +kernel,rfl,by decide +kernel,by decide +kernel⟩
theorem D8 (T:gu mg) (Oj:mg "sum"=none) (N2:bE K C "checks") (D:oV K C "marks" "Code.marks" cH ["self","turn"]) (tR:bR P w K mg base bu 2 "agree" ["one","other"] (oZ K)):xV P w K mg base 3 C "marks" (vZ K C):=by
 have cl:=D.c
 refine D.ok kK (fun vs H Q E h=>?_) (fun f bf A outer s H vs Q E hr h=>?_)
 ·obtain⟨x,t,rs,r,m,rfl,_⟩:=h;rfl
 obtain⟨x,t,rs,r,m,rfl,hc,hT,fK,m6,hl,k⟩:=h
 obtain⟨dx,l,as,ex,el,hR⟩:=hc.ex
 have wK:as.length=rs.length:=hR.l
 refine⟨_,(ak (aD (aK (Aw K) (by rfl) Oj Kc (aa (AA K rfl kK.nd (cs2 (N:=["self","turn"]) (N':=["self","turn"]) (osc:=af cH) (by decide +kernel)) (lM K rfl T.gB (aa (tG K (pv 0)) ai)) (fun _ _ _ _=>(lI (dM (cS (aC tR hr.sub (aa (pv 1) (aa (pv 3) ai))))))) (fun _ _ _ _=>(aq cu ae (pv 0)))) ai)))),?_⟩
 refine⟨_,rfl,x,C,dx,_,.ref l,rfl,ex,cl,N2,rfl,l,_,rfl,.of el,yj (fun i=>!sU (ra rs i) r) (fun i=>.int ((2^i:Nat):Int)) (.of el) (aI (by rw[rV,length_map];omega)) ?_ ?_ ?_⟩
 ·intro i y H' Q' hi s' q'
  obtain⟨b,hb,rfl⟩:=cy hi
  obtain⟨u,hu,eu,uO⟩:=hR.g i b hb
  rw[cX hu] at q'
  exact⟨_,rfl,_,rfl,b,t,u,r,m,rfl,cL (s' _ _ eu),s'.tup hT,m6,uO,fK,fun H2 s2=>⟨_,rfl,q' H2 s2⟩⟩
 ·intro i y H' Q' hi _ s' q'
  have hi6:i<6:=by have:=(List.getElem?_eq_some_iff.mp hi).1;rw[rV,length_map] at this;omega
  refine⟨_,rfl,_,_,rfl,rfl,Ke (by omega),?_⟩
  have:=q' H' (.refl H')
  rw[←gF] at this
  exact this
 intro p H1 s1 np ep
 rw[rV,length_map,wK] at ep
 refine⟨p,_,rfl,.of (xs:=zV (((List.range rs.length).filter fun i=>!sU (ra rs i) r).map fun i=>((2^i:Nat):Int))) (by rw[ep,zV,List.map_map];rfl),?_⟩
 rw[zP]
 exact k H1 s1
/- Code.is_harmless: 0:self 1:turn -/
noncomputable abbrev bB:Stmt:=vK (top 41) 2
theorem kD:az ["self","turn"] ["self","turn"] (af bB):=⟨rfl,rfl,rfl,by decide +kernel,rfl,by decide +kernel,by decide +kernel⟩
theorem Hi (T:gu mg) (N2:bE K C "checks") (D:oV K C "is_harmless" "Code.is_harmless" bB ["self","turn"]) (A7:bR P w K mg base bu 6 "made_of" ["rows","row"] (r6 K)):xV P w K mg base 7 C "is_harmless" (zR C):=by
 have cl:=D.c
 refine D.ok kD (fun vs H Q E h=>?_) (fun f bf A outer s H vs Q E hr h=>?_)
 ·obtain⟨x,t,rs,ds,r,m,rfl,_⟩:=h;rfl
 obtain⟨x,t,rs,ds,r,m,rfl,hc,eT,fK,m6,hl,hF,k1,k2⟩:=h
 obtain⟨dx,l,as,ex,el,hR⟩:=hc.ex
 refine⟨_,(ak (aD (iw sv (aC A7 hr.sub (aa (tG K (pv 0)) (aa (pv 1) ai))) mz (aM _)))),?_⟩
 refine⟨_,rfl,x,C,dx,_,.ref l,rfl,ex,cl,N2,rfl,_,rfl,l,t,as,rs,ds,r,m,rfl,.of el,hR,hF,m6,hl,eT,fK,fun n hn q z H1 s1 nq nz ez eq=>?_,fun hn H1 s1=>?_⟩
 ·exact⟨rfl,k1 ⟨n,hn⟩ H1 s1⟩
 ·exact⟨rfl,k2 hn H1 s1⟩
end
end iE
set_option maxHeartbeats 4000000
namespace iE
open PySem L2 TC
noncomputable def Ol (H:Hp) (p:Rw→Bool):V→Bool
 | .ref a=>match H a with
  | some (.tup [.int s,.int x,.int z])=>p ⟨s,x.toNat,z.toNat⟩
  | _=>false
 | _=>false
theorem D9 {H:Hp}{p:Rw→Bool}{a:Addr}{r:Rw}(h:H a=some (.tup r.vals)):Ol H p (.ref a)=p r:=by
 unfold Ol
 simp only[h,Rw.vals,Int.toNat_natCast]
theorem r9 {H:Hp}{m:Nat}(p:Rw→Bool):∀{as:List Addr}{L:List Rw},bY H m as L→∃bs:List Addr,((rV as).filter (Ol H p)).map id=rV bs∧bY H m bs (L.filter p)
 | [],L,h=>⟨[],rfl,by
   have:L=[]:=length_eq_zero_iff.mp h.l.symm
   subst this
   exact⟨rfl,fun _ _ e=>nomatch e⟩⟩
 | a::as,L,h=>by
  cases L with
  | nil=>exact absurd h.l (by simp)
  | cons r L =>
   obtain⟨r',h1,h2,h3⟩:=h.g 0 a rfl
   have er:r=r':=Option.some.inj h1
   subst er
   have hT:bY H m as L:=⟨by have:=h.l;simpa using this,fun i b e=>h.g (i+1) b e⟩
   obtain⟨bs,e,hb⟩:=r9 p hT
   have ez:=D9 (p:=p) h2
   show ∃cs,((V.ref a::rV as).filter (Ol H p)).map id=rV cs∧_
   rw[filter_cons,filter_cons,ez]
   cases p r with
   | true =>
    refine⟨a::bs,by rw[if_pos rfl,List.map_cons,e];rfl,?_⟩
    rw[if_pos rfl]
    refine⟨by simp[hb.l],fun i b eb=>?_⟩
    cases i with
    | zero=>cases eb;exact⟨r,rfl,h2,h3⟩
    | succ i=>exact hb.g i b eb
   | false =>
    exact⟨bs,by rw[if_neg (by decide)];exact e,by rw[if_neg (by decide)];exact hb⟩
theorem bY.cat {H:Hp}{m:Nat}{as bs:List Addr}{rs ts:List Rw}(h:bY H m as rs) (g:bY H m bs ts):bY H m (as++bs) (rs++ts):=⟨by rw[length_append,length_append,h.l,g.l],fun i a e=>by
 rcases Nat.lt_or_ge i as.length with q|q
 ·rw[getElem?_append_left q] at e
  obtain⟨r,h1,h2,h3⟩:=h.g i a e
  exact⟨r,by rw[getElem?_append_left (by rw[←h.l];exact q)];exact h1,h2,h3⟩
 ·rw[getElem?_append_right q] at e
  obtain⟨r,h1,h2,h3⟩:=g.g _ a e
  exact⟨r,by rw[getElem?_append_right (by rw[←h.l];exact q),←h.l];exact h1,h2,h3⟩⟩
noncomputable def L7 (H:Hp):V→Nat
 | .ref a=>match H a with
  | some (.tup [.int _,.int x,.int z])=>pc (x.toNat|||z.toNat)
  | _=>0
 | _=>0
theorem yl {H:Hp}{a:Addr}{r:Rw}(h:H a=some (.tup r.vals)):L7 H (.ref a)=dY r:=by
 unfold L7 dY
 simp only[h,Rw.vals,Int.toNat_natCast]
theorem Ea {H:Hp}{m:Nat}{as bs:List Addr}(p:bs.Perm as):∀{rs:List Rw},bY H m as rs→∃ts,bY H m bs ts∧ts.Perm rs:=by
 induction p with
 | nil=>intro rs h;exact⟨rs,h,.refl rs⟩
 | cons x _ ih =>
  intro rs h
  cases rs with
  | nil=>exact absurd h.l (by simp)
  | cons r rs =>
   obtain⟨r',h1,h2,h3⟩:=h.g 0 x rfl
   cases h1
   have hT:bY H m _ rs:=⟨by have:=h.l;simpa using this,fun i b e=>h.g (i+1) b e⟩
   obtain⟨ts,g,gp⟩:=ih hT
   exact⟨r::ts,⟨by simp[g.l],fun i b e=>by
    cases i with
    | zero=>cases e;exact⟨r,rfl,h2,h3⟩
    | succ i=>exact g.g i b e⟩,gp.cons r⟩
 | swap x y l =>
  intro rs h
  match rs,h with
  | [],h=>exact absurd h.l (by simp)
  | [_],h=>exact absurd h.l (by simp)
  | r::t::rs,h =>
   obtain⟨r',h1,h2,h3⟩:=h.g 0 _ rfl
   cases h1
   obtain⟨t',g1,g2,g3⟩:=h.g 1 _ rfl
   cases g1
   refine⟨t::r::rs,⟨by have:=h.l;simpa using this,fun i b e=>?_⟩,.swap r t rs⟩
   match i,e with
   | 0,e=>cases e;exact⟨t,rfl,g2,g3⟩
   | 1,e=>cases e;exact⟨r,rfl,h2,h3⟩
   | i+2,e=>exact h.g (i+2) b e
 | trans _ _ Nv Nw =>
  intro rs h
  obtain⟨t1,h1,p1⟩:=Nw h
  obtain⟨t2,h2,p2⟩:=Nv h1
  exact⟨t2,h2,p2.trans p1⟩
noncomputable def wa:Sp:=fun vs H Q _=>∃(m:Nat) (n:Int),vs=[.int m,.int n]∧1≤m∧m≤6∧∀q as rs H',ao H H'→H q=none→H' q=some (.lst (rV as))→bY H' m as rs→rs.Perm (fM n m)→rs.Pairwise (fun r t=>dY r≤dY t)→Q (.ref q) H'
section
variable {P:Program}{w:World}{K:Frag}{mg:Str→Option Value}{base:Heap}
/- turns_up_to: 0:coins 1:many 2:turns 3:coin 4:bit 5:fewer 6:x 7:z -/
noncomputable abbrev bP:Stmt:=top 40
theorem bj:az ["coins","many","turns","coin","bit","fewer","x","z"] ["coins","many"] (af bP):=⟨rfl,rfl,rfl,by decide +kernel,rfl,by decide +kernel,by decide +kernel⟩
theorem Eb (T:gu mg) (gc:mg "sorted"=none) (D:Def K mg "turns_up_to" bP ["coins","many"]) (fR:bR P w K mg base bu 2 "letters" ["row"] (iF K)):bR P w K mg base bu 5 "turns_up_to" ["coins","many"] wa:=by
 refine D.ok bj (fun vs H Q E h=>?_) (fun f bf A outer s H vs Q E hr h=>?_)
 ·obtain⟨m,n,rfl,_⟩:=h;rfl
 obtain⟨m,n,rfl,m1,m6,k⟩:=h
 refine⟨_,(aj (aB (i:=2) bj.nd rfl (Or.inl rfl) (dN (aa (aS (aa ae (aa ae (aa ae ai)))) ai)))
   (aj (ck PassesOwn.never rfl (eh rfl T.eV (aa (pv 0) ai)) (aH (i:=3) bj.nd rfl (Or.inl rfl))
    (aj (aB (i:=4) bj.nd rfl (Or.inl rfl) (aq cu ae (pv 3)))
    (aj (sJ (i:=5) rfl bj.nd rfl rfl (cs (N:=["coins","many","turns","coin","bit","fewer","x","z"]) (osc:=af bP) (by decide +kernel)) (bU K (pv 2)) (fun _ _ _ _=>(lI (aF i9 (aC fR hr.sub (aa (pv 0) ai)) (pv 2) (aM _)))) (fun _ _ _ _=>(pv 0)))
    (ak (ck PassesOwn.never rfl (yV K (aS (aa (aS (aa (pv 4) (aa ae ai))) (aa (aS (aa ae (aa (pv 4) ai))) (aa (aS (aa (pv 4) (aa (pv 4) ai))) ai))))) (d3 K rfl (aQ (aH (i:=6) bj.nd rfl (Or.inr rfl)) (aQ (aH (i:=7) bj.nd rfl (Or.inr rfl)) dZ)))
     (ak (aB (i:=2) bj.nd rfl (Or.inl rfl) (aq mE (pv 2) (gA rfl bj.nd (cs (N:=["coins","many","turns","coin","bit","fewer","x","z"]) (osc:=af bP) (by decide +kernel)) (bU K (pv 5)) (fun _ _ _ _=>fk) (fun _ _ _ _=>(aS (aa ae (aa (aq cT (ay (au K) (pv 0) ae (fun _ _=>rfl)) (pv 7)) (aa (aq cT (ay (au K) (pv 0) ae (fun _ _=>rfl)) (pv 8)) ai))))))))))))))
   (ak (aD (ya K fR hr.sub gc (pv 2)))))),?_⟩
 refine⟨aI (by show 3≤1000;decide),fun g ng=>⟨aI (by show 1≤1000;decide),fun q nq=>?_⟩⟩
 dsimp only [aU]
 have v1:=ao.new (o:=.tup [V.int 1,V.int 0,V.int 0]) ng
 have v2:=ao.new (o:=.lst [V.ref g]) nq
 have eg:upd H g (.tup [V.int 1,V.int 0,V.int 0]) g=some (.tup (⟨1,0,0⟩:Rw).vals):=ah
 have eq:upd (upd H g (.tup [V.int 1,V.int 0,V.int 0])) q (.lst [V.ref g]) q=some (.lst (rV [g])):=ah
 have eg:=v2 _ _ eg
 have t2:=v1.trans v2
 have Hj:H q=none:=v1.free nq
 generalize upd (upd H g (.tup [V.int 1,V.int 0,V.int 0])) q (.lst [V.ref g])=H2 at eq eg t2 ⊢
 have R0:bY H2 m [g] (fM n 0):=bY.app (as:=[]) (rs:=[]) ⟨rfl,fun _ _ e=>nomatch e⟩ eg ⟨.inl rfl,Nat.two_pow_pos m,Nat.two_pow_pos m⟩
 refine⟨_,rfl,(m:Int),rfl,by omega,by omega,eD (lo:=0) (n:=(m:Int).toNat) (fun c σ H'=>∃(q:Addr) (as:List Addr) (v3 v4 v5 v6 v7:Option V),σ=[some (.int m),some (.int n),some (.ref q),v3,v4,v5,v6,v7]∧ao H H'∧H q=none∧H' q=some (.lst (rV as))∧bY H' m as (fM n c)) ⟨q,[g],_,_,_,_,_,rfl,t2,Hj,eq,R0⟩ ?_ ?_⟩
 ·clear eq eg t2 R0 Hj nq v1 v2 ng
  rintro c σ H3 hc ⟨q,as,v3,v4,v5,v6,v7,rfl,s3,nq,eq,R3⟩
  have T4:c<m:=by omega
  rw[Int.zero_add]
  refine⟨_,rfl,_,_,rfl,rfl,⟨Int.natCast_nonneg _,by omega,by decide⟩,?_⟩
  have lb:=dI
  have l4:=lU n c
  have p4:4^c≤4^6:=Nat.pow_le_pow_right (by decide) (by omega)
  have Om:(4:Nat)^6=4096:=by decide
  have wK:(rV as).length=(fM n c).length:=by rw[rV,length_map,R3.l]
  have T5:(1:Int)*2^(c:Int).toNat=((2^c:Nat):Int):=gF c
  refine⟨_,rfl,q,rfl,⟨_,.of eq⟩,xw (Ol H3 (fun r=>decide ((dY r:Int)<n))) id (.of eq) (by omega) ?_ ?_ ?_⟩
  ·intro i x H' Q' hi s' q'
   obtain⟨b,hb,rfl⟩:=cy hi
   obtain⟨r,jm,er,fK⟩:=R3.g i b hb
   refine⟨_,rfl,b,r,m,rfl,cL (s' _ _ er),m6,fK,fun H4 s4=>?_⟩
   have:=q' H4 s4
   rw[D9 er] at this
   exact⟨_,rfl,_,_,rfl,rfl,_,rfl,this⟩
  ·intro j y H' Q' hj _ s' q'
   exact⟨_,rfl,q' H' (.refl H')⟩
  intro fq H4 s4 nfq Qz
  obtain⟨fs,e1,hF⟩:=r9 (fun r=>decide ((dY r:Int)<n)) R3
  rw[e1] at Qz
  have hF4:=hF.same s4
  have eq4:=s4 _ _ eq
  have R4:=R3.same s4
  have t4:=s3.trans s4
  dsimp only [aU]
  rw[T5]
  refine⟨_,rfl,aI (by show 2≤1000;decide),fun u1 n1=>⟨_,rfl,aI (by show 2≤1000;decide),fun u2 n2=>⟨_,rfl,_,rfl,aI (by show 2≤1000;decide),fun u3 n3=>⟨aI (by show 3≤1000;decide),fun u n4=>?_⟩⟩⟩⟩
  have w1:=ao.new (o:=.tup [V.int ((2^c:Nat):Int),V.int 0]) n1
  have w2:=ao.new (o:=.tup [V.int 0,V.int ((2^c:Nat):Int)]) n2
  have w3:=ao.new (o:=.tup [V.int ((2^c:Nat):Int),V.int ((2^c:Nat):Int)]) n3
  have w4:=ao.new (o:=.tup [V.ref u1,V.ref u2,V.ref u3]) n4
  have x1:=(w2.trans (w3.trans w4)) u1 _ ah
  have x2:=(w3.trans w4) u2 _ ah
  have x3:=w4 u3 _ ah
  have x4:upd (upd (upd (upd H4 u1 (.tup [V.int ((2^c:Nat):Int),V.int 0])) u2 (.tup [V.int 0,V.int ((2^c:Nat):Int)])) u3 (.tup [V.int ((2^c:Nat):Int),V.int ((2^c:Nat):Int)])) u (.tup [V.ref u1,V.ref u2,V.ref u3]) u=some (.tup [V.ref u1,V.ref u2,V.ref u3]):=ah
  have w:=w1.trans (w2.trans (w3.trans w4))
  generalize upd (upd (upd (upd H4 u1 (.tup [V.int ((2^c:Nat):Int),V.int 0])) u2 (.tup [V.int 0,V.int ((2^c:Nat):Int)])) u3 (.tup [V.int ((2^c:Nat):Int),V.int ((2^c:Nat):Int)])) u (.tup [V.ref u1,V.ref u2,V.ref u3])=H5 at x1 x2 x3 x4 w ⊢
  clear w1 w2 w3 w4 n1 n2 n3 n4
  have Qz:=w _ _ Qz
  have QB:=hF4.same w
  have eq5:=w _ _ eq4
  have R5:=R4.same w
  have t5:=t4.trans w
  obtain⟨ad,QC⟩:∃ad:List (Nat×Nat),ad=[(2^c,0),(0,2^c),(2^c,2^c)]:=⟨_,rfl⟩
  obtain⟨fw,T6⟩:∃fw,fw=vn n (fM n c):=⟨_,rfl⟩
  have Oo:(fM n c).filter (fun r=>decide ((dY r:Int)<n))=fw:=by rw[T6];rfl
  rw[Oo] at QB
  have fl:fw.length≤4096:=by
   have:=List.length_filter_le (fun r=>decide ((dY r:Int)<n)) (fM n c)
   rw[Oo] at this;omega
  have uM:∀r∈fw,r.x<2^c∧r.z<2^c:=fun r iV=>by
   rw[T6] at iV
   have:=(eX n c (by omega) r).mp (mem_filter.mp iV).1
   exact this.1.2
  have pcm:2^c+2^c≤2^m:=by
   have:2^(c+1)≤2^m:=Nat.pow_le_pow_right (by decide) T4
   rw[Nat.pow_succ] at this;omega
  have prt:∀(j:Nat) (p:Nat×Nat),ad[j]?=some p→∃uj:Addr,([V.ref u1,V.ref u2,V.ref u3]:List V)[j]?=some (V.ref uj)∧H5 uj=some (.tup [V.int (p.1:Int),V.int (p.2:Int)])∧p.1≤2^c∧p.2≤2^c:=fun j p hp=>by
   rw[QC] at hp
   match j,hp with
   | 0,hp=>cases hp;exact⟨u1,rfl,x1,Nat.le_refl _,Nat.zero_le _⟩
   | 1,hp=>cases hp;exact⟨u2,rfl,x2,Nat.zero_le _,Nat.le_refl _⟩
   | 2,hp=>cases hp;exact⟨u3,rfl,x3,Nat.le_refl _,Nat.le_refl _⟩
  refine⟨u,rfl,⟨_,cL x4⟩,yD (K:=K) (a:=u) (xs:=[V.ref u1,V.ref u2,V.ref u3]) (fun j σ H'=>∃(q':Addr) (IZ:List Addr) (v6 v7:Option V),σ=[some (.int m),some (.int n),some (.ref q'),some (.int c),some (.int ((2^c:Nat):Int)),some (.ref fq),v6,v7]∧ao H5 H'∧H q'=none∧H' q'=some (.lst (rV IZ))∧bY H' m IZ (fM n c++((ad.take j).map fun p=>fw.map (fu p.1 p.2)).flatten)) ⟨q,as,_,_,rfl,.refl H5,nq,eq5,by simpa using R5⟩ (fun j σ H' _ ⟨_,_,_,_,_,s',_⟩=>s'.tup (cL x4)) ?_ ?_⟩
  ·rintro j x σ H6 hj ⟨q',IZ,v6,v7,rfl,s6,nq',L8,R6⟩
   obtain⟨p,hp⟩:∃p,ad[j]?=some p:=by
    have:j<3:=(List.getElem?_eq_some_iff.mp hj).1
    rw[QC];exact⟨_,getElem?_eq_getElem (by simpa using this)⟩
   obtain⟨uj,e1,e2,b1,b2⟩:=prt j p hp
   rw[hj] at e1;cases e1
   refine⟨uj,_,rfl,cL (s6 _ _ e2),rfl,_,_,rfl,_,_,rfl,rfl,?_⟩
   have Oq:=s6 _ _ Qz
   have T7:=QB.same s6
   refine⟨_,rfl,_,rfl,fq,rfl,⟨_,.of Oq⟩,fZ (K:=K) (a:=fq) (xs:=rV fs) (fun i ys H'=>∃bs:List Addr,ys=rV bs∧bs.length=i∧ao H6 H'∧bY H' m bs ((fw.take i).map (fu p.1 p.2))) ⟨[],rfl,rfl,.refl H6,⟨rfl,fun _ _ e=>nomatch e⟩⟩ (fun i ys H' _ ⟨bs,e,hb,s',_⟩=>⟨.of (s' _ _ Oq),by rw[e,rV,length_map,hb]⟩) (by rw[rV,length_map,T7.l];omega) ?_ ?_⟩
   ·rintro i y ys H7 Q' hi ⟨bs,rfl,vP,s7,hB⟩ q7
    obtain⟨b,hb,rfl⟩:=cy hi
    obtain⟨r,jm,er,fK⟩:=T7.g i b hb
    have Ot:=s7 _ _ er
    obtain⟨rx,rz⟩:=uM r (mem_of_getElem? jm)
    refine⟨_,rfl,b,_,_,_,rfl,rfl,cL Ot,rfl,_,rfl,_,_,rfl,rfl,_,rfl,b,_,_,_,rfl,rfl,cL Ot,rfl,_,rfl,_,_,rfl,rfl,aI (by show 3≤1000;decide),fun g ng=>q7 _ _ ?_⟩
    have vv:=ao.new (o:=.tup [V.int 1,V.int ((r.x:Int)+(p.1:Int)),V.int ((r.z:Int)+(p.2:Int))]) ng
    refine⟨bs++[g],by simp[rV],by simp[vP],s7.trans vv,?_⟩
    rw[take_add_one,jm,Option.toList_some,List.map_append]
    refine(hB.same vv).app (r:=fu p.1 p.2 r) ?_ ⟨.inl rfl,?_,?_⟩
    ·rw[ah]
     show some (HO.tup [V.int 1,V.int ((r.x:Int)+(p.1:Int)),V.int ((r.z:Int)+(p.2:Int))])=some (HO.tup [V.int 1,V.int ((r.x+p.1:Nat):Int),V.int ((r.z+p.2:Nat):Int)])
     rw[Int.natCast_add,Int.natCast_add]
    ·show r.x+p.1<2^m;omega
    ·show r.z+p.2<2^m;omega
   ·rintro ys H7 pz ⟨bs,rfl,vP,s7,hB⟩ npz
    rw[rV,length_map,T7.l,take_length] at hB
    have vz:=ao.new (o:=.lst (rV bs)) npz
    have ez:upd H7 pz (.lst (rV bs)) pz=some (.lst (rV bs)):=ah
    have s8:=s7.trans vz
    have hB:=hB.same vz
    generalize upd H7 pz (.lst (rV bs))=H8 at ez s8 hB ⊢
    have R8:=(R6.same s8).cat hB
    have eq8:=s8 _ _ L8
    have Dj:IZ.length≤16384:=by
     rw[R6.l,length_append]
     have h0:(((ad.take j).map fun p=>fw.map (fu p.1 p.2)).flatten).length≤3*fw.length:=by
      rw[QC]
      match j with
      | 0=>simp
      | 1=>simp;omega
      | 2=>simp;omega
      | j+3=>simp;omega
     omega
    have uK:bs.length≤4096:=by rw[hB.l,length_map];exact fl
    refine⟨q',pz,_,_,rfl,rfl,eq8,ez,by rw[rV,rV,length_map,length_map];omega,fun q2 K8=>?_⟩
    have v9:=ao.new (o:=.lst (rV IZ++rV bs)) K8
    refine⟨q2,IZ++bs,_,_,rfl,(s6.trans s8).trans v9,?_,by rw[ah];simp[rV],?_⟩
    ·exact(t5.trans (s6.trans s8)).free K8
    ·have e:fM n c++((ad.take (j+1)).map fun p=>fw.map (fu p.1 p.2)).flatten=(fM n c++((ad.take j).map fun p=>fw.map (fu p.1 p.2)).flatten)++fw.map (fu p.1 p.2):=by
      rw[take_add_one,hp];simp
     rw[e]
     exact R8.same v9
  ·rintro σ H6 ⟨q',IZ,v6,v7,rfl,s6,nq',L8,R6⟩
   refine⟨q',IZ,_,_,_,_,_,rfl,t5.trans s6,nq',L8,?_⟩
   have e:fM n c++((ad.take [V.ref u1,V.ref u2,V.ref u3].length).map fun p=>fw.map (fu p.1 p.2)).flatten=fM n (c+1):=by
    show _=mO n c (fM n c)
    rw[QC,T6];unfold mO;simp
   rw[e] at R6
   exact R6
 ·rintro σ H3 ⟨q,as,v3,v4,v5,v6,v7,rfl,s3,nq,eq,R3⟩
  rw[Int.toNat_natCast] at R3
  have l4:=lU n m
  have p4:4^m≤4^6:=Nat.pow_le_pow_right (by decide) m6
  have Om:(4:Nat)^6=4096:=by decide
  refine⟨_,rfl,q,rV as,fun v=>(L7 H3 v:Int),rfl,.of eq,by rw[rV,length_map,R3.l];omega,fun x H4 Q' hx s4 q'=>?_,fun x _=>Int.natCast_nonneg _,fun l H4 ws s4 nl el hp hw=>?_⟩
  ·obtain⟨a,ha,rfl⟩:=List.mem_map.mp hx
   obtain⟨i,hi⟩:=mem_iff_getElem?.mp ha
   obtain⟨r,jm,er,fK⟩:=R3.g i a hi
   refine⟨a,r,m,rfl,cL (s4 _ _ er),m6,fK,fun H5 s5=>?_⟩
   have:Q' (.int (L7 H3 (.ref a):Int)) H5:=q' H5 s5
   rw[yl er] at this
   exact this
  ·obtain⟨bs,rfl,hbp⟩:=rZ hp
   obtain⟨rs,hR,hrp⟩:=Ea hbp R3
   refine k l bs rs H4 (s3.trans s4) (s3.free nl) el (hR.same s4) hrp ?_
   rw[List.pairwise_iff_getElem]
   intro i j hi hj gv
   have gt:∀t (ht:t<rs.length),∃b,bs[t]?=some b∧H3 b=some (.tup (rs[t]).vals):=fun t ht=>by
    have hb:t<bs.length:=by rw[hR.l];exact ht
    obtain⟨r,e1,e2,_⟩:=hR.g t bs[t] (getElem?_eq_getElem hb)
    rw[getElem?_eq_getElem ht] at e1;cases e1
    exact⟨bs[t],getElem?_eq_getElem hb,e2⟩
   obtain⟨b1,f1,g1⟩:=gt i hi
   obtain⟨b2,f2,g2⟩:=gt j hj
   have hl:∀t b,bs[t]?=some b→(rV bs)[t]?=some (V.ref b):=fun t b h=>by rw[rV,getElem?_map,h];rfl
   obtain⟨y1,z1⟩:=List.getElem?_eq_some_iff.mp (hl i b1 f1)
   obtain⟨y2,z2⟩:=List.getElem?_eq_some_iff.mp (hl j b2 f2)
   have:=List.pairwise_iff_getElem.mp hw i j y1 y2 gv
   rw[z1,z2] at this
   have this:(L7 H3 (.ref b1):Int)≤(L7 H3 (.ref b2):Int):=this
   rw[yl g1,yl g2] at this
   omega
end
end iE
set_option maxHeartbeats 4000000
namespace iE
open PySem L2 TC
noncomputable def Ou (b i:Nat):Bool:=b.testBit i
theorem Hk:∀b:Nat,b<64→((List.range 6).filter (Ou b)).length=pc b:=by
 have:∀b:Fin 64,((List.range 6).filter (Ou b.1)).length=pc b.1:=by decide +kernel
 exact fun b hb=>this ⟨b,hb⟩
theorem T8:∀b:Nat,b<64→∀i:Nat,i<6→decide (V.int (Builtin.bitAnd ((b:Int)/2^(i:Int).toNat) 1)=V.int 1)=Ou b i:=by
 have:∀b:Fin 64,∀i:Fin 6,decide (V.int (Builtin.bitAnd (((b.1:Nat):Int)/2^((i.1:Nat):Int).toNat) 1)=V.int 1)=Ou b.1 i.1:=by decide +kernel
 exact fun b hb i hi=>this ⟨b,hb⟩ ⟨i,hi⟩
noncomputable def n5 (K:Frag):Sp:=fun vs H Q _=>∃(a:Addr) (r:Rw) (m:Nat),vs=[.ref a]∧fh K H a r.vals∧m≤6∧r.ok m∧∀H',ao H H'→Q (.int (dY r:Nat)) H'
section
variable {P:Program}{w:World}{K:Frag}{mg:Str→Option Value}{base:Heap}
/- _law_letters: 0:_law_turn 1:_law_bits -/
noncomputable abbrev cn:Stmt:=top 51
theorem gm:az ["_law_turn","_law_bits"] ["_law_turn"] (af cn):=⟨rfl,rfl,rfl,by decide +kernel,rfl,by decide +kernel,by decide +kernel⟩
theorem Hl (T:gu mg) (D:Def K mg "_law_letters" cn ["_law_turn"]):bR P w K mg base bu 1 "_law_letters" ["_law_turn"] (n5 K):=by
 refine D.ok gm (fun vs H Q E h=>?_) (fun f bf A outer s H vs Q E hr h=>?_)
 ·obtain⟨a,r,m,rfl,_⟩:=h;rfl
 obtain⟨a,r,m,rfl,hA,m6,fK,k⟩:=h
 refine⟨_,(aj (aB (i:=1) gm.nd rfl (Or.inr rfl) (aq u6 (ay (au K) (pv 0) ae (fun _ _=>rfl)) (ay (au K) (pv 0) ae (fun _ _=>rfl))))
   (ak (aD (aK (hX K) (by rfl) T.oC kW (aa (gA rfl gm.nd (cs (N:=["_law_turn","_law_bits"]) (osc:=af cn) (by decide +kernel)) (eh rfl T.eV (aa ae ai)) (fun _ _ _ _=>(lI (aF d9 (aq cx (aq i7 (pv 2) (pv 0)) ae) ae (aM _)))) (fun _ _ _ _=>(pv 0))) ai))))),?_⟩
 have hb:r.x|||r.z<64:=tN m6 fK.x fK.z
 refine⟨_,rfl,a,_,_,_,rfl,rfl,hA,rfl,_,rfl,a,_,_,_,rfl,rfl,hA,rfl,_,_,rfl,rfl,?_⟩
 dsimp only [aU]
 rw[Nr]
 unfold dY at k
 generalize r.x|||r.z=b at hb k ⊢
 refine⟨6,rfl,by decide,by decide,?_⟩
 refine nr (n:=6) (Ou b) (fun i=>.int (i:Int)) (aI (by decide)) ?_ ?_ ?_
 ·intro j H' Q' hj s' q'
  rw[Int.zero_add]
  have:=q' H' (.refl H')
  rw[←T8 b hb j hj] at this
  exact⟨_,rfl,_,rfl,_,_,rfl,rfl,by omega,_,_,rfl,rfl,rfl,_,rfl,this⟩
 ·intro j H' Q' hj _ s' q'
  rw[Int.zero_add]
  exact⟨_,rfl,q' H' (.refl H')⟩
 ·intro p H2 s2 np ep
  refine⟨p,_,rfl,.inl (.of ep),?_⟩
  have:=k H2 s2
  rw[←Hk b hb] at this
  rw[length_map]
  exact this
noncomputable def se:Sp:=fun vs H Q _=>∃(m:Nat) (n:Int),vs=[.int m,.int n]∧1≤m∧m≤6∧∀q as rs H',ao H H'→H q=none→H' q=some (.lst (rV as))→bY H' m as rs→(∀r,r∈rs↔r∈fM n m)→rs.length≤4096→Q (.ref q) H'
theorem wb {H:Hp}{m:Nat}{bs:List Addr}{rs:List Rw}{u:Addr}{ys zs:List V}(h:bY H m bs rs) (e:H u=some (.lst ys)):bY (upd H u (.lst zs)) m bs rs:=⟨h.l,fun i a ea=>by
 obtain⟨r,h1,h2,h3⟩:=h.g i a ea
 exact⟨r,h1,by rw[av (fun z=>by rw[z,e] at h2;cases h2)];exact h2,h3⟩⟩
noncomputable def Ov (n:Int) (c:Nat) (ts:List Rw) (r:Rw):Prop:=r∈ts∧((dY r:Int)<n→fu (2^c) 0 r∈ts∧fu 0 (2^c) r∈ts∧fu (2^c) (2^c) r∈ts)
theorem Ov.mono {n:Int}{c:Nat}{ts us:List Rw}{r:Rw}(h:Ov n c ts r) (s:∀t∈ts,t∈us):Ov n c us r:=⟨s _ h.1,fun z=>⟨s _ (h.2 z).1,s _ (h.2 z).2.1,s _ (h.2 z).2.2⟩⟩
theorem Hm {n:Int}{c:Nat}{rs ts:List Rw}(hr:∀r,r∈rs↔r∈fM n c) (h:∀r∈rs,Ov n c ts r):∀t∈fM n (c+1),t∈ts:=by
 intro t ht
 have ht:t∈mO n c (fM n c):=ht
 unfold mO at ht
 simp only[mem_append,List.mem_map] at ht
 have fw:∀r∈vn n (fM n c),r∈rs∧(dY r:Int)<n:=fun r h'=>by
  obtain⟨h1,h2⟩:=mem_filter.mp h'
  exact⟨(hr r).mpr h1,of_decide_eq_true h2⟩
 rcases ht with((z|⟨r,z,rfl⟩)|⟨r,z,rfl⟩)|⟨r,z,rfl⟩
 ·exact(h t ((hr t).mpr z)).1
 ·exact((h r (fw r z).1).2 (fw r z).2).1
 ·exact((h r (fw r z).1).2 (fw r z).2).2.1
 ·exact((h r (fw r z).1).2 (fw r z).2).2.2
/- _law_turns: 0:_law_coins 1:_law_most 2:_law_found 3:_law_c 4:_law_more 5:_law_turn 6:_law_kind -/
noncomputable abbrev dU:Stmt:=top 52
theorem cI:az ["_law_coins","_law_most","_law_found","_law_c","_law_more","_law_turn","_law_kind"] ["_law_coins","_law_most"] (af dU):=⟨rfl,rfl,rfl,by decide +kernel,rfl,by decide +kernel,by decide +kernel⟩
theorem A8 (T:gu mg) (D:Def K mg "_law_turns" dU ["_law_coins","_law_most"]) (cP:bR P w K mg base bu 1 "_law_letters" ["_law_turn"] (n5 K)):bR P w K mg base bu 2 "_law_turns" ["_law_coins","_law_most"] se:=by
 refine D.ok cI (fun vs H Q E h=>?_) (fun f bf A outer s H vs Q E hr h=>?_)
 ·obtain⟨m,n,rfl,_⟩:=h;rfl
 obtain⟨m,n,rfl,m1,m6,k⟩:=h
 refine⟨_,(aj (aB (i:=2) cI.nd rfl (Or.inl rfl) (dN (aa (aS (aa ae (aa ae (aa ae ai)))) ai)))
   (aj (ck PassesOwn.never rfl (eh rfl T.eV (aa (pv 0) ai)) (aH (i:=3) cI.nd rfl (Or.inl rfl))
    (aj (aB (i:=4) cI.nd rfl (Or.inl rfl) (dN ai))
    (aj (ck PassesOwn.never rfl (bU K (pv 2)) (aH (i:=5) cI.nd rfl (Or.inl rfl))
     (aj (gx (B4 PySem.F.plainAttrs_list PySem.F.slot_list_append PySem.F.type_list_append rm (pv 4) (aa (pv 5) ai)))
     (ak (bq (aF i9 (aC cP hr.sub (aa (pv 5) ai)) (pv 1) (aM _))
      (ak (ck PassesOwn.never rfl (mB rfl T.eV (aa ae (aa ae ai))) (aH (i:=6) cI.nd rfl (Or.inl rfl))
       (ak (gx (B4 PySem.F.plainAttrs_list PySem.F.slot_list_append PySem.F.type_list_append rm (pv 4) (aa (aS (aa ae (aa (aq u6 (ay (au K) (pv 5) ae (fun _ _=>rfl)) (aq cu (aq br (pv 6) ae) (pv 3))) (aa (aq u6 (ay (au K) (pv 5) ae (fun _ _=>rfl)) (aq cu (aq cM (pv 6) ae) (pv 3))) ai)))) ai))))))
      aO))))
    (ak (aB (i:=2) cI.nd rfl (Or.inl rfl) (pv 4))))))
   (ak (aD (pv 2))))),?_⟩
 refine⟨aI (by show 3≤1000;decide),fun g ng=>⟨aI (by show 1≤1000;decide),fun q nq=>?_⟩⟩
 dsimp only [aU]
 have v1:=ao.new (o:=.tup [V.int 1,V.int 0,V.int 0]) ng
 have v2:=ao.new (o:=.lst [V.ref g]) nq
 have eg:upd H g (.tup [V.int 1,V.int 0,V.int 0]) g=some (.tup (⟨1,0,0⟩:Rw).vals):=ah
 have eq:upd (upd H g (.tup [V.int 1,V.int 0,V.int 0])) q (.lst [V.ref g]) q=some (.lst (rV [g])):=ah
 have eg:=v2 _ _ eg
 have t2:=v1.trans v2
 have Hj:H q=none:=v1.free nq
 generalize upd (upd H g (.tup [V.int 1,V.int 0,V.int 0])) q (.lst [V.ref g])=H2 at eq eg t2 ⊢
 have R0:bY H2 m [g] [(⟨1,0,0⟩:Rw)]:=bY.app (as:=[]) (rs:=[]) ⟨rfl,fun _ _ e=>nomatch e⟩ eg ⟨.inl rfl,Nat.two_pow_pos m,Nat.two_pow_pos m⟩
 refine⟨_,rfl,(m:Int),rfl,by omega,by omega,eD (lo:=0) (n:=(m:Int).toNat) (fun c σ H'=>∃(q:Addr) (as:List Addr) (rs:List Rw) (v3 v4 v5 v6:Option V),σ=[some (.int m),some (.int n),some (.ref q),v3,v4,v5,v6]∧ao H H'∧H q=none∧H' q=some (.lst (rV as))∧bY H' m as rs∧(∀r,r∈rs↔r∈fM n c)∧rs.length≤4^c) ⟨q,[g],_,_,_,_,_,rfl,t2,Hj,eq,R0,fun r=>Iff.rfl,Nat.le_refl 1⟩ ?_ ?_⟩
 ·clear eq eg t2 R0 Hj nq v1 v2 ng
  rintro c σ H3 hc ⟨q,as,rs,v3,v4,v5,v6,rfl,s3,nq,eq,R3,hm,hl⟩
  have T4:c<m:=by omega
  rw[Int.zero_add]
  have lb:=dI
  have p4:4^c≤4^6:=Nat.pow_le_pow_right (by decide) (by omega)
  have Om:(4:Nat)^6=4096:=by decide
  have pcm:2^c+2^c≤2^m:=by
   have:2^(c+1)≤2^m:=Nat.pow_le_pow_right (by decide) T4
   rw[Nat.pow_succ] at this;omega
  refine⟨Nat.zero_le _,fun u nu=>?_⟩
  dsimp only [aU]
  have w0:=ao.new (o:=.lst []) nu
  refine⟨_,rfl,q,rfl,⟨_,.of (w0 _ _ eq)⟩,d0 (K:=K) (a:=q) (xs:=rV as) (fun i σ H'=>∃(bs:List Addr) (ts:List Rw) (v5 v6:Option V),σ=[some (.int m),some (.int n),some (.ref q),some (.int c),some (.ref u),v5,v6]∧ao H3 H'∧H' u=some (.lst (rV bs))∧bY H' m bs ts∧(∀r∈ts,r∈fM n (c+1))∧ts.length≤4*i∧(∀j,j<i→∀r,rs[j]?=some r→Ov n c ts r)) ⟨[],[],_,_,rfl,w0,ah,⟨rfl,fun _ _ e=>nomatch e⟩,fun _ h=>(nomatch h),Nat.le_refl 0,fun j hj=>absurd hj (Nat.not_lt_zero j)⟩ (fun i σ H' _ ⟨_,_,_,_,_,s',_⟩=>.of (s' _ _ eq)) ?_ ?_⟩
  ·rintro i x σ H4 hi ⟨bs,ts,v5,v6,rfl,s4,eu,hT,uM,bZ,Ec⟩
   obtain⟨b,hb,rfl⟩:=cy hi
   obtain⟨r,jm,er,fK⟩:=R3.g i b hb
   have hil:i<rs.length:=(List.getElem?_eq_some_iff.mp jm).1
   have Hn:=s4 _ _ er
   have T9:=(hm r).mp (mem_of_getElem? jm)
   have QD:=(eX n c (by omega) r).mp T9
   refine⟨_,rfl,.inl ⟨rfl,_,.of eu⟩,_,rfl,u,_,_,rfl,rfl,eu,by rw[rV,length_map,hT.l];omega,?_⟩
   have QF:upd H4 u (.lst (rV bs++[V.ref b])) b=some (.tup r.vals):=by rw[av (fun z=>by rw[z,eu] at Hn;cases Hn)];exact Hn
   have Ua:upd H4 u (.lst (rV bs++[V.ref b])) u=some (.lst (rV (bs++[b]))):=by rw[ah];simp[rV]
   have s5:ao H3 (upd H4 u (.lst (rV bs++[V.ref b]))):=s4.upd nu
   have LQ:bY (upd H4 u (.lst (rV bs++[V.ref b]))) m (bs++[b]) (ts++[r]):=(wb hT eu).app QF fK
   generalize upd H4 u (.lst (rV bs++[V.ref b]))=H5 at QF Ua s5 LQ ⊢
   have Ow:∀t∈ts++[r],t∈fM n (c+1):=fun t ht=>by
    rcases mem_append.mp ht with h|h
    ·exact uM t h
    ·rw[mem_singleton.mp h]
     show r∈mO n c (fM n c)
     unfold mO
     exact mem_append_left _ (mem_append_left _ (mem_append_left _ T9))
   refine⟨_,rfl,b,r,m,rfl,cL QF,m6,fK,fun H6 s6=>?_⟩
   refine⟨_,rfl,_,_,rfl,rfl,_,rfl,ve (fun Ub=>?_) (fun rG=>?_)⟩
   ·have B5:r∈vn n (fM n c):=mem_filter.mpr ⟨T9,Ub⟩
    have Uc:=s6 _ _ QF
    refine⟨1,4,rfl,⟨by decide,by decide,by decide,by decide⟩,eD (lo:=1) (n:=((4:Int)-1).toNat) (fun j σ H'=>∃(K9:List Addr) (Cj:List Rw) (v6:Option V),σ=[some (.int m),some (.int n),some (.ref q),some (.int c),some (.ref u),some (.ref b),v6]∧ao H3 H'∧H' u=some (.lst (rV K9))∧bY H' m K9 Cj∧(∀t∈Cj,t∈fM n (c+1))∧Cj.length≤4*i+1+j∧(∀t∈ts++[r],t∈Cj)∧(∀k,k<j→fu ((1+k)%2*2^c) ((1+k)/2*2^c) r∈Cj)) ⟨bs++[b],ts++[r],_,rfl,s5.trans s6,s6 _ _ Ua,LQ.same s6,Ow,by rw[length_append];show _+1≤_;omega,fun _ h=>h,fun k hk=>absurd hk (Nat.not_lt_zero k)⟩ ?_ ?_⟩
    ·rintro j σ H7 hj ⟨K9,Cj,v6,rfl,s7,QG,Ud,La,hl7,Ho,Ox⟩
     have Ot:=s7 _ _ er
     have hj3:j<3:=hj
     have md:(1+(j:Int))%2=(((1+j)%2:Nat):Int):=by omega
     have dv:(1+(j:Int)).fdiv 2=(((1+j)/2:Nat):Int):=by
      rw[Int.fdiv_eq_ediv_of_nonneg _ (by decide)];omega
     have put:∀x kk:Nat,x<2^c→kk≤1→Builtin.bitOr (x:Int) ((kk:Int)*2^(c:Int).toNat)=((x+kk*2^c:Nat):Int):=fun x kk hx hk=>by
      have e:(kk:Int)*2^(c:Int).toNat=((kk*2^c:Nat):Int):=by rw[Int.toNat_natCast,Int.natCast_mul,Int.natCast_pow];rfl
      rw[e,Nr]
      congr 1
      rcases(show kk=0∨kk=1 by omega) with rfl|rfl
      ·rw[Nat.zero_mul,Nat.or_zero];rfl
      ·rw[Nat.one_mul,Nat.or_comm,←mP hx,Nat.add_comm]
     refine⟨_,rfl,.inl ⟨rfl,_,.of QG⟩,_,rfl,b,_,_,_,rfl,rfl,cL Ot,rfl,_,rfl,_,_,rfl,rfl,(by show (0:Int)<_;decide),_,rfl,_,_,rfl,rfl,⟨Int.natCast_nonneg _,by omega,?_⟩,_,_,rfl,rfl,_,rfl,b,_,_,_,rfl,rfl,cL Ot,rfl,_,rfl,_,_,rfl,rfl,Bw (by decide) (by decide),_,rfl,_,_,rfl,rfl,⟨Int.natCast_nonneg _,by omega,?_⟩,_,_,rfl,rfl,aI (by show 3≤1000;decide),fun g ng=>?_⟩
     ·rw[md];rcases(show (1+j)%2=0∨(1+j)%2=1 by omega) with e|e<;>rw[e]<;>decide
     ·show Int.natAbs ((1+(j:Int)).fdiv 2)<_
      rw[dv];rcases(show (1+j)/2=0∨(1+j)/2=1 by omega) with e|e<;>rw[e]<;>decide
     have nn:∃t:Rw,[V.int 1,V.int (Builtin.bitOr (r.x:Int) ((1+(j:Int))%2*2^(c:Int).toNat)),V.int (Builtin.bitOr (r.z:Int) ((1+(j:Int)).fdiv 2*2^(c:Int).toNat))]=t.vals∧t∈fM n (c+1)∧t.ok m∧t=fu ((1+j)%2*2^c) ((1+j)/2*2^c) r:=by
      rw[md,dv,put r.x _ QD.1.2.1 (by omega),put r.z _ QD.1.2.2 (by omega)]
      refine⟨fu ((1+j)%2*2^c) ((1+j)/2*2^c) r,rfl,?_,⟨.inl rfl,?_,?_⟩,rfl⟩
      ·show _∈mO n c (fM n c)
       unfold mO
       match j,hj3 with
       | 0,_=>exact mem_append_left _ (mem_append_left _ (mem_append_right _ (List.mem_map.mpr ⟨r,B5,by simp⟩)))
       | 1,_=>exact mem_append_left _ (mem_append_right _ (List.mem_map.mpr ⟨r,B5,by simp⟩))
       | 2,_=>exact mem_append_right _ (List.mem_map.mpr ⟨r,B5,by simp⟩)
      ·have:(1+j)%2*2^c≤1*2^c:=Nat.mul_le_mul_right _ (by omega)
       show r.x+(1+j)%2*2^c<2^m
       have:=QD.1.2.1;omega
      ·have:(1+j)/2*2^c≤1*2^c:=Nat.mul_le_mul_right _ (by omega)
       show r.z+(1+j)/2*2^c<2^m
       have:=QD.1.2.2;omega
     obtain⟨t,et,L5,tok,hta⟩:=nn
     have vv:=ao.new (o:=.tup t.vals) ng
     rw[show upd H7 g (HO.tup [V.int 1,V.int (Builtin.bitOr (r.x:Int) ((1+(j:Int))%2*2^(c:Int).toNat)),V.int (Builtin.bitOr (r.z:Int) ((1+(j:Int)).fdiv 2*2^(c:Int).toNat))])=upd H7 g (.tup t.vals) by rw[et]]
     have QH:upd H7 g (.tup t.vals) g=some (.tup t.vals):=ah
     have QI:=vv _ _ QG
     have Ue:=Ud.same vv
     have s8:=s7.trans vv
     generalize upd H7 g (.tup t.vals)=H8 at QH QI Ue s8 ⊢
     refine⟨u,_,_,rfl,rfl,QI,by rw[rV,length_map,Ue.l];omega,?_⟩
     have eg9:upd H8 u (.lst (rV K9++[V.ref g])) g=some (.tup t.vals):=by rw[av (fun z=>by rw[z,QI] at QH;cases QH)];exact QH
     refine⟨K9++[g],Cj++[t],_,rfl,s8.upd nu,by rw[ah];simp[rV],(wb Ue QI).app eg9 tok,fun v hv=>?_,by rw[length_append];show _+1≤_;omega,fun v hv=>mem_append_left _ (Ho v hv),fun k hk=>?_⟩
     ·rcases mem_append.mp hv with h|h
      ·exact La v h
      ·rw[mem_singleton.mp h];exact L5
     ·rcases Nat.lt_or_ge k j with z|z
      ·exact mem_append_left _ (Ox k z)
      ·have e:k=j:=by omega
       rw[e,←hta]
       exact mem_append_right _ (mem_singleton.mpr rfl)
    ·rintro σ H7 ⟨K9,Cj,v6,rfl,s7,QG,Ud,La,hl7,Ho,Ox⟩
     have n3:((4:Int)-1).toNat=3:=rfl
     refine⟨K9,Cj,_,_,rfl,s7,QG,Ud,La,by omega,fun j hj u hu=>?_⟩
     rcases Nat.lt_or_ge j i with z|z
     ·exact(Ec j z u hu).mono fun t ht=>Ho t (mem_append_left _ ht)
     ·have e:j=i:=by omega
      rw[e,jm] at hu
      cases hu
      refine⟨Ho r (mem_append_right _ (mem_singleton.mpr rfl)),fun _=>⟨?_,?_,?_⟩⟩
      ·have:=Ox 0 (by omega);simpa using this
      ·have:=Ox 1 (by omega);simpa using this
      ·have:=Ox 2 (by omega);simpa using this
   ·refine⟨bs++[b],ts++[r],_,_,rfl,s5.trans s6,s6 _ _ Ua,LQ.same s6,Ow,by rw[length_append];show _+1≤_;omega,fun j hj u hu=>?_⟩
    rcases Nat.lt_or_ge j i with z|z
    ·exact(Ec j z u hu).mono fun t ht=>mem_append_left _ ht
    ·have e:j=i:=by omega
     rw[e,jm] at hu
     cases hu
     exact⟨mem_append_right _ (mem_singleton.mpr rfl),fun z=>absurd (decide_eq_true z) rG⟩
  ·rintro σ H4 ⟨bs,ts,v5,v6,rfl,s4,eu,hT,uM,bZ,Ec⟩
   rw[rV,length_map,R3.l] at bZ Ec
   have JI:=Hm hm fun r iV=>by
    obtain⟨j,hj⟩:=mem_iff_getElem?.mp iV
    exact Ec j (List.getElem?_eq_some_iff.mp hj).1 r hj
   refine⟨_,rfl,u,bs,ts,_,_,_,_,rfl,s3.trans s4,s3.free nu,eu,hT,fun r=>⟨uM r,JI r⟩,?_⟩
   rw[Nat.pow_succ];omega
 ·rintro σ H3 ⟨q,as,rs,v3,v4,v5,v6,rfl,s3,nq,eq,R3,hm,hl⟩
  rw[Int.toNat_natCast] at hm hl
  have p4:4^m≤4^6:=Nat.pow_le_pow_right (by decide) m6
  have Om:(4:Nat)^6=4096:=by decide
  exact⟨_,rfl,k q as rs H3 s3 nq eq R3 hm (by omega)⟩
end
noncomputable def mU (K:Frag):Sp:=fun vs H Q _=>∃(a:Addr) (r:Rw) (m:Nat),vs=[.ref a,.int m]∧H a=some (.tup r.vals)∧m≤6∧r.sg=1∧r.ok m∧∀H',ao H H'→Q (.bl true) H'
section
variable {P:Program}{w:World}{K:Frag}{mg:Str→Option Value}{base:Heap}
/- _law_is_turn: 0:_law_turn 1:_law_coins 2:_law_part -/
noncomputable abbrev cQ:Stmt:=top 53
theorem jo:az ["_law_turn","_law_coins","_law_part"] ["_law_turn","_law_coins"] (af cQ):=⟨rfl,rfl,rfl,by decide +kernel,rfl,by decide +kernel,by decide +kernel⟩
theorem A9 (T:gu mg) (D:Def K mg "_law_is_turn" cQ ["_law_turn","_law_coins"]):bR P w K mg base bu 1 "_law_is_turn" ["_law_turn","_law_coins"] (mU K):=by
 refine D.ok jo (fun vs H Q E h=>?_) (fun f bf A outer s H vs Q E hr h=>?_)
 ·obtain⟨a,r,m,rfl,_⟩:=h;rfl
 obtain⟨a,r,m,rfl,hA,hm,h1,iV,k⟩:=h
 refine⟨_,(aj (bq (PW.pt (pw_or (dM (cS (aK (aV K) (by rfl) T.aJ aG (aa (pv 0) (aa (rB T.F0 Cu) ai))))) (pw_or1 (aF i8 (aK (hX K) (by rfl) T.oC kW (aa (pv 0) ai)) ae (aM _)))))
    (ak (aD fg))
    aO)
   (aj (ck PassesOwn.never rfl (yV K (pv 0)) (aH (i:=2) jo.nd rfl (Or.inl rfl))
    (ak (bq (PW.pt (pw_or (dM (cS (aK (aV K) (by rfl) T.aJ aG (aa (pv 2) (aa (rB T.Nd J5) ai))))) (pw_or1 (cS (aK (aV K) (by rfl) T.aJ aG (aa (pv 2) (aa (rB T.CG yT) ai)))))))
     (ak (aD fg))
     aO)))
   (ak (aD (wR (iw d9 (ay (au K) (pv 0) ae (fun _ _=>rfl)) ae (aM _)) (wR (lF yH i9 ae (ay (au K) (pv 0) ae (fun _ _=>rfl)) (aq cu ae (pv 1))) (BH (lF yH i9 ae (ay (au K) (pv 0) ae (fun _ _=>rfl)) (aq cu ae (pv 1)))))))))),?_⟩
 refine⟨_,rfl,_,_,_,_,_,rfl,rfl,.of (.tup hA),Sh K,_,rfl,fW ?_⟩
 refine⟨_,rfl,a,_,rfl,.inr (cL hA),rfl,_,rfl,bV (by rfl) ?_⟩
 refine⟨_,rfl,a,rfl,⟨_,cL hA⟩,yD (K:=K) (a:=a) (xs:=r.vals) (fun i σ H'=>∃v2,σ=[some (.ref a),some (.int m),v2]∧ao H H') ⟨_,rfl,.refl H⟩ (fun i σ H' _ ⟨_,_,s'⟩=>s'.tup (cL hA)) ?_ ?_⟩
 ·rintro i x σ H' hi ⟨v2,rfl,s'⟩
  obtain⟨n,rfl⟩:∃n:Int,x = .int n:=by
   match i,hi with
   | 0,hi=>cases hi;exact⟨_,rfl⟩
   | 1,hi=>cases hi;exact⟨_,rfl⟩
   | 2,hi=>cases hi;exact⟨_,rfl⟩
   | i+3,hi=>cases hi
  refine⟨_,rfl,_,_,_,_,_,rfl,rfl,.of (.int n),Sf K,_,rfl,fW ?_⟩
  refine⟨_,rfl,_,_,_,_,_,rfl,rfl,.of (.int n),Na K,_,rfl,fW ?_⟩
  exact⟨_,rfl,s'⟩
 ·rintro σ H2 ⟨v2,rfl,s2⟩
  have eA:=s2 _ _ hA
  have hx:(r.x:Int)<1*2^(m:Int).toNat:=by rw[gF];have:=iV.x;omega
  have hz:(r.z:Int)<1*2^(m:Int).toNat:=by rw[gF];have:=iV.z;omega
  refine⟨_,rfl,a,_,_,_,rfl,rfl,cL eA,rfl,rfl,_,rfl,lK (by rw[h1];rfl) ?_⟩
  refine⟨_,rfl,a,_,_,_,rfl,rfl,cL eA,rfl,_,_,rfl,rfl,_,rfl,qF (Int.natCast_nonneg _) ?_⟩
  refine⟨_,rfl,_,_,rfl,rfl,Ke hm,_,_,rfl,rfl,_,rfl,qF hx ?_⟩
  refine⟨_,rfl,a,_,_,_,rfl,rfl,cL eA,rfl,_,_,rfl,rfl,_,rfl,qF (Int.natCast_nonneg _) ?_⟩
  refine⟨_,rfl,_,_,rfl,rfl,Ke hm,_,_,rfl,rfl,?_⟩
  have:=k H2 s2
  rw[←decide_eq_true hz] at this
  exact this
end
end iE
set_option maxHeartbeats 4000000
namespace iE
open PySem L2 TC
noncomputable def tW (K:Frag):Sp:=fun vs H Q _=>∃(p:Addr) (ns:List Int) (k:Nat),vs=[.ref p,.int k]∧cC K H p (zV ns)∧ns.length≤63∧k≤900∧∀c:Int,0≤c→∀H',ao H H'→Q (.int c) H'
noncomputable def yn:Sp:=fun vs H Q _=>∃n:Nat,vs=[.int n]∧n<64∧∀H',ao H H'→Q (.int (if par n then 1 else 0)) H'
theorem Lb:(10:Int)^(64:Int).toNat=10000000000000000000000000000000000000000000000000000000000000000:=by decide
theorem Ed:∀n:Nat,n<64→n≠0→par (n&&&(n-1)) = !par n∧n&&&(n-1)<n:=by decide +kernel
section
variable {P:Program}{w:World}{K:Frag}{mg:Str→Option Value}{base:Heap}
/- _law_number: 0:_law_script 1:_law_k 2:_law_cell 3:_law_number_here -/
noncomputable abbrev dy:Stmt:=top 43
theorem gH:az ["_law_script","_law_k","_law_cell","_law_number_here"] ["_law_script","_law_k"] (af dy):=⟨rfl,rfl,rfl,by decide +kernel,rfl,by decide +kernel,by decide +kernel⟩
theorem Lc (T:gu mg) (D:Def K mg "_law_number" dy ["_law_script","_law_k"]):bR P w K mg base bu 1 "_law_number" ["_law_script","_law_k"] (tW K):=by
 refine D.ok gH (fun vs H Q E h=>?_) (fun f bf A outer s H vs Q E hr h=>?_)
 ·obtain⟨p,ns,k,rfl,_⟩:=h;rfl
 obtain⟨p,ns,k,rfl,hS,hl,hk,q⟩:=h
 refine⟨_,(aj (aB (i:=2) gH.nd rfl (Or.inl rfl) (lE (aF i9 (pv 1) (aK (hX K) (by rfl) T.oC kW (aa (pv 0) ai)) (aM _)) (ay (fY K) (pv 0) (pv 1) (fun _ _=>rfl)) ae))
   (aj (bq (PW.pt (pw_or (aF i9 (pv 2) ae (aM _)) (pw_or1 (aF MD (pv 2) (aq BP ae ae) (aM _)))))
    (ak (aD (aq br (pv 2) (aq BP ae ae))))
    aO)
   (aj (aB (i:=3) gH.nd rfl (Or.inl rfl) (aq br (aq cT (aq bM (aq br (pv 2) ae) ae) (aq bM (aq cT (aq bM (pv 1) (pv 1)) ae) ae)) ae))
   (ak (aD (aq br (aq cT (aq bM (pv 3) (aq cT (aq br (pv 3) ae) ae)) (aq bM (aq cT (pv 1) ae) ae)) ae)))))),?_⟩
 refine⟨_,rfl,_,rfl,p,_,rfl,.inl hS,_,_,rfl,rfl,_,rfl,?_⟩
 have kk:(k:Int)*k≤810000:=by
  have:=Nat.mul_le_mul hk hk
  have e:((k*k:Nat):Int)=(k:Int)*k:=Int.natCast_mul k k
  omega
 have kk0:0≤(k:Int)*k:=Int.mul_nonneg (by omega) (by omega)
 refine yW (ι:=Int) (C:=fun _=>True) (G:=?JG) (fun rest=>ve (fun d=>?ja) (fun _=>?jb)) ?jk
 case ja =>
  have c':(k:Int)<(ns.length:Int):=by simpa using d
  obtain⟨n,hn⟩:∃n,ns[k]?=some n:=⟨ns[k]'(by omega),getElem?_eq_getElem (by omega)⟩
  refine⟨_,rfl,_,rfl,p,_,_,_,rfl,rfl,hS,M9 hn,?_⟩
  exact rest n trivial
 case jb=>exact rest 0 trivial
 case jk =>
 intro c _
 have Oy:Q (.int (c%10^(64:Int).toNat)) H:=q _ (fo _ (by rw[Lb];decide)) H (.refl H)
 refine⟨_,rfl,_,_,rfl,rfl,_,rfl,?_⟩
 refine ve (fun d=>?_) (fun d=>?_)
 ·refine xq ?_
  exact⟨_,rfl,_,_,rfl,rfl,Su _ (by decide) (by decide),_,_,rfl,rfl,(by show (0:Int)<10^(64:Int).toNat;rw[Lb];decide),Oy⟩
 refine⟨_,rfl,_,_,rfl,rfl,Su _ (by decide) (by decide),_,_,rfl,rfl,_,rfl,?_⟩
 refine ve (fun d=>?_) (fun d=>?_)
 ·exact⟨_,rfl,_,_,rfl,rfl,Su _ (by decide) (by decide),_,_,rfl,rfl,(by show (0:Int)<10^(64:Int).toNat;rw[Lb];decide),Oy⟩
 have a0:=fo c (m:=3037000493) (by decide)
 have a1:=iP c (m:=3037000493) (by decide)
 refine⟨_,rfl,_,_,rfl,rfl,(by show (0:Int)<_;decide),_,_,rfl,rfl,⟨big (by omega) (by omega),big (by decide) (by decide)⟩,_,rfl,_,rfl,_,_,rfl,rfl,⟨big (by omega) (by omega),big (by omega) (by omega)⟩,_,_,rfl,rfl,_,_,rfl,rfl,⟨big (by omega) (by omega),big (by decide) (by decide)⟩,_,_,rfl,rfl,_,_,rfl,rfl,(by show (0:Int)<_;decide),?_⟩
 dsimp only [aU]
 have n0:=fo (c%3037000493*2654435761+((k:Int)*k+3)*104395301) (m:=3037000493) (by decide)
 have n1:=iP (c%3037000493*2654435761+((k:Int)*k+3)*104395301) (m:=3037000493) (by decide)
 generalize (c%3037000493*2654435761+((k:Int)*k+3)*104395301)%3037000493=n at n0 n1 ⊢
 have b0:=fo n (m:=65521) (by decide)
 have b1:=iP n (m:=65521) (by decide)
 refine⟨_,rfl,_,rfl,_,_,rfl,rfl,(by show (0:Int)<_;decide),_,_,rfl,rfl,_,_,rfl,rfl,⟨big (by omega) (by omega),big (by omega) (by omega)⟩,_,rfl,_,_,rfl,rfl,_,_,rfl,rfl,⟨big (by omega) (by omega),big (by decide) (by decide)⟩,_,_,rfl,rfl,_,_,rfl,rfl,(by show (0:Int)<_;decide),?_⟩
 exact q _ (fo _ (by decide)) H (.refl H)
/- _law_odd: 0:_law_number_here 1:_law_found -/
noncomputable abbrev fT:Stmt:=top 44
theorem iI:az ["_law_number_here","_law_found"] ["_law_number_here"] (af fT):=⟨rfl,rfl,rfl,by decide +kernel,rfl,by decide +kernel,by decide +kernel⟩
theorem Le (T:gu mg) (D:Def K mg "_law_odd" fT ["_law_number_here"]):bR P w K mg base bu 1 "_law_odd" ["_law_number_here"] yn:=by
 refine D.ok iI (fun vs H Q E h=>?_) (fun f bf A outer s H vs Q E hr h=>?_)
 ·obtain⟨n,rfl,_⟩:=h;rfl
 obtain⟨n,rfl,hn,k⟩:=h
 refine⟨_,(aj (aB (i:=1) iI.nd rfl (Or.inl rfl) ae)
   (aj (uY PassesOwn.never (aF qY (pv 0) ae (aM _))
    (aj (aB (i:=1) iI.nd rfl (Or.inl rfl) (aq ir ae (pv 1)))
    (ak (aB (i:=0) iI.nd rfl (Or.inl rfl) (aq cx (pv 0) (aq ir (pv 0) ae))))))
   (ak (aD (pv 1))))),?_⟩
 refine⟨fun m σ H'=>∃(b:Nat) (y:Bool),σ=[some (.int b),some (.int (if y=true then 1 else 0))]∧m=b∧b<64∧(y ^^ par b)=par n∧ao H H',⟨_,n,false,rfl,rfl,hn,Bool.false_xor _,.refl H⟩,?_⟩
 rintro m σ H' ⟨b,y,rfl,em,hb,hy,s'⟩
 have TL:=em.symm
 subst TL
 refine⟨_,rfl,_,_,rfl,rfl,_,rfl,?_⟩
 by_cases h0:b=0
 ·subst h0
  refine nt (by decide) ?_
  refine⟨_,rfl,?_⟩
  have:=k H' s'
  rw[vw,Bool.xor_false] at hy
  rw[←hy] at this
  exact this
 ·refine qF (by omega) ?_
  obtain⟨p1,p2⟩:=Ed b hb h0
  refine⟨fun σ2 H2=>σ2=[some (.int ((b&&&(b-1):Nat):Int)),some (.int (if (!y)=true then 1 else 0))]∧ao H H2,?_,?_⟩
  ·rintro σ2 H2 ⟨rfl,s2⟩
   refine⟨b&&&(b-1),p2,b&&&(b-1),!y,rfl,rfl,by omega,?_,s2⟩
   rw[p1,←hy];cases y<;>cases par b<;>rfl
  ·refine⟨_,rfl,_,_,rfl,rfl,?_⟩
   refine⟨_,rfl,_,rfl,_,_,rfl,rfl,_,_,rfl,rfl,?_⟩
   refine⟨?_,s'⟩
   show [some (V.int (Builtin.bitAnd (b:Int) ((b:Int)-1))),some (V.int (1-if y=true then 1 else 0))]=_
   have e:(b:Int)-1=((b-1:Nat):Int):=by omega
   rw[e,mF]
   cases y<;>rfl
/- _law_times: 0:_law_one 1:_law_other 2:_law_sign -/
noncomputable abbrev dW:Stmt:=top 47
theorem lW:az ["_law_one","_law_other","_law_sign"] ["_law_one","_law_other"] (af dW):=⟨rfl,rfl,rfl,by decide +kernel,rfl,by decide +kernel,by decide +kernel⟩
theorem Ba (T:gu mg) (D:Def K mg "_law_times" dW ["_law_one","_law_other"]) (kj:bR P w K mg base bu 1 "_law_odd" ["_law_number_here"] yn):bR P w K mg base bu 2 "_law_times" ["_law_one","_law_other"] (gj K):=by
 refine D.ok lW (fun vs H Q E h=>?_) (fun f bf A outer s H vs Q E hr h=>?_)
 ·obtain⟨a,b,r,t,m,rfl,_⟩:=h;rfl
 obtain⟨a,b,r,t,m,rfl,hA,hB,hm,h1,h2,k⟩:=h
 refine⟨_,(aj (aB (i:=2) lW.nd rfl (Or.inl rfl) (aq bM (aq bM (ay (au K) (pv 0) ae (fun _ _=>rfl)) (ay (au K) (pv 1) ae (fun _ _=>rfl))) (aq ir ae (aq bM ae (aC kj hr.sub (aa (aq cx (ay (au K) (pv 0) ae (fun _ _=>rfl)) (ay (au K) (pv 1) ae (fun _ _=>rfl))) ai))))))
   (ak (aD (aS (aa (pv 2) (aa (aq bI (ay (au K) (pv 0) ae (fun _ _=>rfl)) (ay (au K) (pv 1) ae (fun _ _=>rfl))) (aa (aq bI (ay (au K) (pv 0) ae (fun _ _=>rfl)) (ay (au K) (pv 1) ae (fun _ _=>rfl))) ai))))))),?_⟩
 have h6:r.z&&&t.x<64:=gh (le64 hm h1.z)
 refine⟨_,rfl,a,_,_,_,rfl,rfl,hA,rfl,_,rfl,b,_,_,_,rfl,rfl,hB,rfl,_,_,rfl,rfl,⟨cY h1.s,cY h2.s⟩,?_⟩
 refine⟨_,rfl,a,_,_,_,rfl,rfl,hA,rfl,_,rfl,b,_,_,_,rfl,rfl,hB,rfl,_,_,rfl,rfl,r.z&&&t.x,by show [V.int (Builtin.bitAnd (r.z:Int) (t.x:Int))]=_;rw[mF],h6,fun H1 s1=>?_⟩
 have eo:∀b:Bool,(2:Int)*(if b=true then 1 else 0)=if b=true then 2 else 0:=fun b=>by cases b<;>rfl
 have ob:∀b:Bool,one (1-2*(if b=true then 1 else 0)):=fun b=>by cases b<;>simp[one]
 refine⟨_,_,rfl,rfl,⟨big (by decide) (by decide),by cases par (r.z&&&t.x)<;>exact big (by decide) (by decide)⟩,_,_,rfl,rfl,_,_,rfl,rfl,⟨cY (one_mul h1.s h2.s),cY (ob _)⟩,?_⟩
 refine⟨_,rfl,_,rfl,a,_,_,_,rfl,rfl,s1.tup hA,rfl,_,rfl,b,_,_,_,rfl,rfl,s1.tup hB,rfl,_,_,rfl,rfl,_,rfl,a,_,_,_,rfl,rfl,s1.tup hA,rfl,_,rfl,b,_,_,_,rfl,rfl,s1.tup hB,rfl,_,_,rfl,rfl,aI (by show 3≤1000;decide),fun g ng=>?_⟩
 refine k g _ (s1.trans (ao.new ng)) (s1.free ng) ?_
 rw[ah]
 dsimp only
 rw[sS,sS]
 have e:r.sg*t.sg*(1-2*(if par (r.z&&&t.x)=true then 1 else 0))=(bz r t).sg:=by
  show _=chg (r.sg*t.sg) (par (r.z&&&t.x))
  cases par (r.z&&&t.x)
  ·show r.sg*t.sg*1=r.sg*t.sg;omega
  ·show r.sg*t.sg*(-1)=-(r.sg*t.sg);omega
 rw[e];rfl
end
end iE
set_option maxHeartbeats 4000000
namespace iE
open PySem L2 TC
noncomputable def wc:Sp:=fun vs H Q _=>∃(c:Int) (m:Nat),vs=[.int c,.int m]∧0≤c∧1≤m∧m≤6∧∀(g:Addr) (H':Hp) (gt:Gt),ao H H'→H g=none→H' g=some (.tup gt.vals)→gt.ok m→Q (.ref g) H'
section
variable {P:Program}{w:World}{K:Frag}{mg:Str→Option Value}{base:Heap}
noncomputable abbrev QJ:List V:=[.str "mix",.str "flip",.str "sign"]
noncomputable abbrev L9:List V:=[.str "mix",.str "sign",.str "flip"]
noncomputable abbrev Oz:List V:=[.str "mix",.str "follow",.str "sign",.str "meet",.str "flip",.str "swap"]
theorem OA (c:Int):∃x:Str,Bs QJ (c%3)=some (.str x)∧∀n:Nat,∃gt:Gt,gt.vals=[.str x,.int n]∧∀m,n<m→gt.ok m:=by
 have a:=fo c (m:=3) (by decide)
 have b:=iP c (m:=3) (by decide)
 have:c%3=0∨c%3=1∨c%3=2:=by omega
 rcases this with e|e|e<;>rw[e]
 ·exact⟨"mix",rfl,fun n=>⟨.mix n,rfl,fun m h=>h⟩⟩
 ·exact⟨"flip",rfl,fun n=>⟨.flip n,rfl,fun m h=>h⟩⟩
 ·exact⟨"sign",rfl,fun n=>⟨.sign n,rfl,fun m h=>h⟩⟩
theorem OB (c:Int):∃x:Str,Bs Oz (c%6)=some (.str x)∧((PR (.str x) L9=true∧∀n:Nat,∃gt:Gt,gt.vals=[.str x,.int n]∧∀m,n<m→gt.ok m) ∨
  (PR (.str x) L9=false∧∀a b:Nat,∃gt:Gt,gt.vals=[.str x,.int a,.int b]∧∀m,a<m→b<m→a≠b→gt.ok m)):=by
 have a:=fo c (m:=6) (by decide)
 have b:=iP c (m:=6) (by decide)
 have:c%6=0∨c%6=1∨c%6=2∨c%6=3∨c%6=4∨c%6=5:=by omega
 rcases this with e|e|e|e|e|e<;>rw[e]
 ·exact⟨"mix",rfl,.inl ⟨by decide +kernel,fun n=>⟨.mix n,rfl,fun m h=>h⟩⟩⟩
 ·exact⟨"follow",rfl,.inr ⟨by decide +kernel,fun n k=>⟨.d4 n k,rfl,fun m h h' OC=>⟨h,h',OC⟩⟩⟩⟩
 ·exact⟨"sign",rfl,.inl ⟨by decide +kernel,fun n=>⟨.sign n,rfl,fun m h=>h⟩⟩⟩
 ·exact⟨"meet",rfl,.inr ⟨by decide +kernel,fun n k=>⟨.meet n k,rfl,fun m h h' OC=>⟨h,h',OC⟩⟩⟩⟩
 ·exact⟨"flip",rfl,.inl ⟨by decide +kernel,fun n=>⟨.flip n,rfl,fun m h=>h⟩⟩⟩
 ·exact⟨"swap",rfl,.inr ⟨by decide +kernel,fun n k=>⟨.swap n k,rfl,fun m h h' OC=>⟨h,h',OC⟩⟩⟩⟩
theorem OD {n r m:Int}(h1:2≤m) (h2:m≤6) (n0:0≤n) (n1:n<m) (r0:0≤r) (r1:r<m-1):∃k:Nat,(n+1+r)%m=k∧(k:Int)<m∧(k:Int)≠n:=by
 have:m=2∨m=3∨m=4∨m=5∨m=6:=by omega
 rcases this with rfl|rfl|rfl|rfl|rfl<;>exact⟨_,(Int.toNat_of_nonneg (by omega)).symm,by omega,by omega⟩
/- _law_gate: 0:_law_number_here 1:_law_coins 2:_law_word 3:_law_c -/
noncomputable abbrev eG:Stmt:=top 45
theorem jq:az ["_law_number_here","_law_coins","_law_word","_law_c"] ["_law_number_here","_law_coins"] (af eG):=⟨rfl,rfl,rfl,by decide +kernel,rfl,by decide +kernel,by decide +kernel⟩
theorem Ee (T:gu mg) (D:Def K mg "_law_gate" eG ["_law_number_here","_law_coins"]):bR P w K mg base bu 1 "_law_gate" ["_law_number_here","_law_coins"] wc:=by
 refine D.ok jq (fun vs H Q E h=>?_) (fun f bf A outer s H vs Q E hr h=>?_)
 ·obtain⟨c,m,rfl,_⟩:=h;rfl
 obtain⟨c,m,rfl,c0,m1,m6,k⟩:=h
 refine⟨_,(aj (bq (aF d9 (pv 1) ae (aM _))
    (ak (aD (aS (aa (ay (fY K) (dN (aa de (aa de (aa de ai)))) (aq br (pv 0) ae) (fun _ _=>rfl)) (aa ae ai)))))
    aO)
   (aj (aB (i:=2) jq.nd rfl (Or.inl rfl) (ay (fY K) (dN (aa de (aa de (aa de (aa de (aa de (aa de ai))))))) (aq br (pv 0) ae) (fun _ _=>rfl)))
   (aj (aB (i:=3) jq.nd rfl (Or.inl rfl) (aq br (aq cM (pv 0) ae) (pv 1)))
   (aj (bq (aF (J7 K) (pv 2) (aS (aa de (aa de (aa de ai)))) rfl)
    (ak (aD (aS (aa (pv 2) (aa (pv 3) ai)))))
    aO)
   (ak (aD (aS (aa (pv 2) (aa (pv 3) (aa (aq br (aq cT (aq cT (pv 3) ae) (aq br (aq cM (pv 0) ae) (aq ir (pv 1) ae))) (pv 1)) ai)))))))))),?_⟩
 refine⟨_,rfl,rfl,_,rfl,?_⟩
 refine ve (fun hc=>?_) (fun hc=>?_)
 ·have e1:(m:Int)=1:=by have:=of_decide_eq_true hc;injection this
  obtain⟨x,hx,hg⟩:=OA c
  obtain⟨gt,hv,aR⟩:=hg 0
  refine⟨aI (by show 3≤1000;decide),fun u hu=>?_⟩
  have eu:upd H u (.lst QJ) u=some (.lst QJ):=ah
  have s1:ao H (upd H u (.lst QJ)):=ao.new hu
  refine⟨_,rfl,_,_,rfl,rfl,(by show (0:Int)<_;decide),u,_,_,_,rfl,rfl,.of eu,hx,aI (by show 2≤1000;decide),fun g hg=>?_⟩
  exact k g _ gt (s1.trans (ao.new hg)) (s1.free hg) (by rw[ah,hv];rfl) (aR _ (by omega))
 have Sb:2≤(m:Int):=by
  have:(m:Int)≠1:=fun z=>hc (decide_eq_true (by rw[z]))
  omega
 have f0:=fo (c.fdiv 6) (m:=m) (by omega)
 have f1:=iP (c.fdiv 6) (m:=m) (by omega)
 obtain⟨n,hn⟩:∃n:Nat,c.fdiv 6%m=n:=⟨_,(Int.toNat_of_nonneg f0).symm⟩
 have r0:=fo (c.fdiv 36) (m:=(m:Int)-1) (by omega)
 have r1:=iP (c.fdiv 36) (m:=(m:Int)-1) (by omega)
 obtain⟨j,hj,Qo,Qp⟩:=OD Sb (by omega) f0 f1 r0 r1
 obtain⟨x,hx,hw⟩:=OB c
 refine⟨aI (by show 6≤1000;decide),fun u hu=>?_⟩
 have eu:upd H u (.lst Oz) u=some (.lst Oz):=ah
 have s1:ao H (upd H u (.lst Oz)):=ao.new hu
 refine⟨_,rfl,_,_,rfl,rfl,(by show (0:Int)<_;decide),u,_,_,_,rfl,rfl,.of eu,hx,?_⟩
 refine⟨_,rfl,_,_,rfl,rfl,Bw (by decide) (by decide),_,rfl,_,_,rfl,rfl,(by show (0:Int)<m;omega),?_⟩
 dsimp only [aU]
 generalize upd H u (.lst Oz)=H1 at s1 ⊢
 refine⟨_,rfl,aI (by show 3≤1000;decide),fun v hv=>?_⟩
 have ev:upd H1 v (.tup L9) v=some (.tup L9):=ah
 have s2:=s1.trans (ao.new (o:=.tup L9) hv)
 generalize upd H1 v (.tup L9)=H2 at s2 ev ⊢
 refine⟨v,_,rfl,.inr (cL ev),rfl,rfl,_,rfl,?_⟩
 rcases hw with⟨hi,hg⟩|⟨hi,hg⟩
 ·obtain⟨gt,hv,aR⟩:=hg n
  refine lK hi ?_
  refine⟨_,rfl,_,rfl,aI (by show 2≤1000;decide),fun g hg=>?_⟩
  exact k g _ gt (s2.trans (ao.new hg)) (s2.free hg) (by rw[ah,hv,←hn]) (aR _ (by omega))
 ·obtain⟨gt,hv,aR⟩:=hg n j
  refine bV hi ?_
  refine⟨_,rfl,_,rfl,_,rfl,_,_,rfl,rfl,_,rfl,_,_,rfl,rfl,Bw (by decide) (by decide),_,rfl,_,_,rfl,rfl,_,_,rfl,rfl,(by show (0:Int)<m-1;omega),_,_,rfl,rfl,_,rfl,_,_,rfl,rfl,(by show (0:Int)<m;omega),aI (by show 3≤1000;decide),fun g hg=>?_⟩
  exact k g _ gt (s2.trans (ao.new hg)) (s2.free hg) (by rw[ah,hv,←hn,←hj]) (aR _ (by omega) (by omega) (by omega))
end
end iE
set_option maxHeartbeats 4000000
namespace iE
open PySem L2 TC
noncomputable def ph (K:Frag):Sp:=fun vs H Q _=>∃(a g:Addr) (r:Rw) (gt:Gt) (m:Nat),vs=[.ref a,.ref g]∧fh K H a r.vals∧fh K H g gt.vals∧m≤6∧r.ok m∧gt.ok m∧∀q H',ao H H'→H q=none→H' q=some (.tup (rD r gt).vals)→Q (.ref q) H'
theorem QK (b:Bool):one (1-2*((bN b:Nat):Int)):=by cases b<;>simp[one,bN]
theorem QL (b:Bool):((bN b:Nat):Int).natAbs<2^4000:=by cases b<;>exact big (by decide) (by decide)
theorem Hq (n:Int) (b:Bool):n*(1-2*((bN b:Nat):Int))=chg n b:=by
 cases b
 ·show n*1=n;omega
 ·show n*(-1)=-n;omega
section
variable {P:Program}{w:World}{K:Frag}{mg:Str→Option Value}{base:Heap}
/- _law_shifted: 0:_law_row 1:_law_gate_here 2:_law_c 3:_law_d 4:_law_x 5:_law_z 6:_law_xd 7:_law_zd 8:_law_sign 9:_law_xs 10:_law_zs -/
noncomputable abbrev cR:Stmt:=top 46
theorem aZ:az ["_law_row","_law_gate_here","_law_c","_law_d","_law_x","_law_z","_law_xd","_law_zd","_law_sign","_law_xs","_law_zs"] ["_law_row","_law_gate_here"] (af cR):=⟨rfl,rfl,rfl,by decide +kernel,rfl,by decide +kernel,by decide +kernel⟩
theorem yo (T:gu mg) (D:Def K mg "_law_shifted" cR ["_law_row","_law_gate_here"]):bR P w K mg base bu 1 "_law_shifted" ["_law_row","_law_gate_here"] (ph K):=by
 refine D.ok aZ (fun vs H Q E h=>?_) (fun f bf A outer s H vs Q E hr h=>?_)
 ·obtain⟨a,g,r,gt,m,rfl,_⟩:=h;rfl
 obtain⟨a,g,r,gt,m,rfl,hA,hG,hm,iV,hg,k⟩:=h
 refine⟨_,(aj (kP (pv 0) (d3 K rfl (aQ (aH (i:=8) aZ.nd rfl (Or.inl rfl)) (aQ (aH (i:=9) aZ.nd rfl (Or.inl rfl)) (aQ (aH (i:=10) aZ.nd rfl (Or.inl rfl)) dZ)))))
   (aj (aB (i:=2) aZ.nd rfl (Or.inl rfl) (ay (au K) (pv 1) ae (fun _ _=>rfl)))
   (aj (aB (i:=3) aZ.nd rfl (Or.inl rfl) (ay (au K) (pv 1) (yE su ae) (fun _ _=>rfl)))
   (aj (aB (i:=4) aZ.nd rfl (Or.inl rfl) (aq cx (aq i7 (pv 9) (pv 2)) ae))
   (aj (aB (i:=5) aZ.nd rfl (Or.inl rfl) (aq cx (aq i7 (pv 10) (pv 2)) ae))
   (aj (aB (i:=6) aZ.nd rfl (Or.inl rfl) (aq cx (aq i7 (pv 9) (pv 3)) ae))
   (aj (aB (i:=7) aZ.nd rfl (Or.inl rfl) (aq cx (aq i7 (pv 10) (pv 3)) ae))
   (aj (bq (aF d9 (ay (au K) (pv 1) ae (fun _ _=>rfl)) de (aM _))
    (ak (aD (aS (aa (aq bM (pv 8) (aq ir ae (aq bM ae (aq cx (pv 4) (pv 5))))) (aa (aq bI (pv 9) (aq cu (aq bI (pv 4) (pv 5)) (pv 2))) (aa (aq bI (pv 10) (aq cu (aq bI (pv 4) (pv 5)) (pv 2))) ai))))))
    aO)
   (aj (bq (aF d9 (ay (au K) (pv 1) ae (fun _ _=>rfl)) de (aM _))
    (ak (aD (aS (aa (aq bM (pv 8) (aq ir ae (aq bM ae (pv 5)))) (aa (pv 9) (aa (pv 10) ai))))))
    aO)
   (aj (bq (aF d9 (ay (au K) (pv 1) ae (fun _ _=>rfl)) de (aM _))
    (ak (aD (aS (aa (aq bM (pv 8) (aq ir ae (aq bM ae (pv 4)))) (aa (pv 9) (aa (pv 10) ai))))))
    aO)
   (aj (bq (aF d9 (ay (au K) (pv 1) ae (fun _ _=>rfl)) de (aM _))
    (ak (aD (aS (aa (pv 8) (aa (aq bI (pv 9) (aq cu (pv 4) (pv 3))) (aa (aq bI (pv 10) (aq cu (pv 7) (pv 2))) ai))))))
    aO)
   (aj (bq (aF d9 (ay (au K) (pv 1) ae (fun _ _=>rfl)) de (aM _))
    (ak (aD (aS (aa (aq bM (pv 8) (aq ir ae (aq bM ae (aq cx (pv 4) (pv 6))))) (aa (pv 9) (aa (aq bI (aq bI (pv 10) (aq cu (pv 4) (pv 3))) (aq cu (pv 6) (pv 2))) ai))))))
    aO)
   (ak (aD (aS (aa (pv 8) (aa (aq bI (aq bI (pv 9) (aq cu (aq bI (pv 4) (pv 6)) (pv 2))) (aq cu (aq bI (pv 4) (pv 6)) (pv 3))) (aa (aq bI (aq bI (pv 10) (aq cu (aq bI (pv 5) (pv 7)) (pv 2))) (aq cu (aq bI (pv 5) (pv 7)) (pv 3))) ai)))))))))))))))))),?_⟩
 refine⟨_,rfl,a,_,rfl,hA,rfl,_,_,rfl,_,_,rfl,_,_,rfl,rfl,?_⟩
 have x6:=le64 hm iV.x
 have z6:=le64 hm iV.z
 cases gt
 case mix c =>
  have hc:c<m:=hg
  have wd:c<6:=by omega
  refine⟨_,rfl,g,_,_,_,rfl,rfl,hG,rfl,?_⟩
  refine⟨_,rfl,_,rfl,g,_,_,_,rfl,rfl,hG,rfl,?_⟩
  refine⟨_,rfl,_,rfl,_,_,rfl,rfl,Int.natCast_nonneg _,_,_,rfl,rfl,?_⟩
  refine⟨_,rfl,_,rfl,_,_,rfl,rfl,Int.natCast_nonneg _,_,_,rfl,rfl,?_⟩
  refine⟨_,rfl,_,rfl,_,_,rfl,rfl,Int.natCast_nonneg _,_,_,rfl,rfl,?_⟩
  refine⟨_,rfl,_,rfl,_,_,rfl,rfl,Int.natCast_nonneg _,_,_,rfl,rfl,?_⟩
  dsimp only [aU]
  have e1:=bx r.x x6 c wd
  have e2:=bx r.z z6 c wd
  rw[e1,e2]
  refine⟨_,rfl,g,_,_,_,rfl,rfl,hG,rfl,rfl,_,rfl,lK (by decide +kernel) ?_⟩
  refine⟨_,rfl,_,rfl,_,rfl,_,_,rfl,rfl,_,_,rfl,rfl,⟨big (by decide) (by decide),(by rw[aN];exact QL _)⟩,_,_,rfl,rfl,_,_,rfl,rfl,⟨cY iV.s,(by rw[aN];exact cY (QK _))⟩,_,rfl,_,rfl,_,rfl,_,_,rfl,rfl,_,rfl,_,_,rfl,rfl,(by rw[xN];exact EY _ (by omega)),_,_,rfl,rfl,_,rfl,_,rfl,_,rfl,_,_,rfl,rfl,_,rfl,_,_,rfl,rfl,(by rw[xN];exact EY _ (by omega)),_,_,rfl,rfl,aI (by show 3≤1000;decide),fun q hq=>?_⟩
  refine k q _ (ao.new hq) hq ?_
  rw[ah]
  dsimp only
  rw[aN,Hq,xN,xT,xT]
  rfl
 case flip c =>
  have hc:c<m:=hg
  have wd:c<6:=by omega
  refine⟨_,rfl,g,_,_,_,rfl,rfl,hG,rfl,?_⟩
  refine⟨_,rfl,_,rfl,g,_,_,_,rfl,rfl,hG,rfl,?_⟩
  refine⟨_,rfl,_,rfl,_,_,rfl,rfl,Int.natCast_nonneg _,_,_,rfl,rfl,?_⟩
  refine⟨_,rfl,_,rfl,_,_,rfl,rfl,Int.natCast_nonneg _,_,_,rfl,rfl,?_⟩
  refine⟨_,rfl,_,rfl,_,_,rfl,rfl,Int.natCast_nonneg _,_,_,rfl,rfl,?_⟩
  refine⟨_,rfl,_,rfl,_,_,rfl,rfl,Int.natCast_nonneg _,_,_,rfl,rfl,?_⟩
  dsimp only [aU]
  have e1:=bx r.x x6 c wd
  have e2:=bx r.z z6 c wd
  rw[e1,e2]
  refine⟨_,rfl,g,_,_,_,rfl,rfl,hG,rfl,rfl,_,rfl,bV (by decide +kernel) ?_⟩
  refine⟨_,rfl,g,_,_,_,rfl,rfl,hG,rfl,rfl,_,rfl,lK (by decide +kernel) ?_⟩
  refine⟨_,rfl,_,rfl,_,_,rfl,rfl,⟨big (by decide) (by decide),QL _⟩,_,_,rfl,rfl,_,_,rfl,rfl,⟨cY iV.s,cY (QK _)⟩,_,rfl,_,rfl,aI (by show 3≤1000;decide),fun q hq=>?_⟩
  refine k q _ (ao.new hq) hq ?_
  rw[ah]
  dsimp only
  rw[Hq]
  rfl
 case sign c =>
  have hc:c<m:=hg
  have wd:c<6:=by omega
  refine⟨_,rfl,g,_,_,_,rfl,rfl,hG,rfl,?_⟩
  refine⟨_,rfl,_,rfl,g,_,_,_,rfl,rfl,hG,rfl,?_⟩
  refine⟨_,rfl,_,rfl,_,_,rfl,rfl,Int.natCast_nonneg _,_,_,rfl,rfl,?_⟩
  refine⟨_,rfl,_,rfl,_,_,rfl,rfl,Int.natCast_nonneg _,_,_,rfl,rfl,?_⟩
  refine⟨_,rfl,_,rfl,_,_,rfl,rfl,Int.natCast_nonneg _,_,_,rfl,rfl,?_⟩
  refine⟨_,rfl,_,rfl,_,_,rfl,rfl,Int.natCast_nonneg _,_,_,rfl,rfl,?_⟩
  dsimp only [aU]
  have e1:=bx r.x x6 c wd
  have e2:=bx r.z z6 c wd
  rw[e1,e2]
  refine⟨_,rfl,g,_,_,_,rfl,rfl,hG,rfl,rfl,_,rfl,bV (by decide +kernel) ?_⟩
  refine⟨_,rfl,g,_,_,_,rfl,rfl,hG,rfl,rfl,_,rfl,bV (by decide +kernel) ?_⟩
  refine⟨_,rfl,g,_,_,_,rfl,rfl,hG,rfl,rfl,_,rfl,lK (by decide +kernel) ?_⟩
  refine⟨_,rfl,_,rfl,_,_,rfl,rfl,⟨big (by decide) (by decide),QL _⟩,_,_,rfl,rfl,_,_,rfl,rfl,⟨cY iV.s,cY (QK _)⟩,_,rfl,_,rfl,aI (by show 3≤1000;decide),fun q hq=>?_⟩
  refine k q _ (ao.new hq) hq ?_
  rw[ah]
  dsimp only
  rw[Hq]
  rfl
 case d4 c d =>
  obtain⟨hc,hd,fG⟩:=hg
  have wd:c<6:=by omega
  have Ja:d<6:=by omega
  refine⟨_,rfl,g,_,_,_,rfl,rfl,hG,rfl,?_⟩
  refine⟨_,rfl,_,rfl,g,_,_,_,rfl,rfl,hG,rfl,?_⟩
  refine⟨_,rfl,_,rfl,_,_,rfl,rfl,Int.natCast_nonneg _,_,_,rfl,rfl,?_⟩
  refine⟨_,rfl,_,rfl,_,_,rfl,rfl,Int.natCast_nonneg _,_,_,rfl,rfl,?_⟩
  refine⟨_,rfl,_,rfl,_,_,rfl,rfl,Int.natCast_nonneg _,_,_,rfl,rfl,?_⟩
  refine⟨_,rfl,_,rfl,_,_,rfl,rfl,Int.natCast_nonneg _,_,_,rfl,rfl,?_⟩
  dsimp only [aU]
  have e1:=bx r.x x6 c wd
  have e2:=bx r.z z6 c wd
  have e3:=bx r.x x6 d Ja
  have e4:=bx r.z z6 d Ja
  rw[e1,e2,e3,e4]
  refine⟨_,rfl,g,_,_,_,rfl,rfl,hG,rfl,rfl,_,rfl,bV (by decide +kernel) ?_⟩
  refine⟨_,rfl,g,_,_,_,rfl,rfl,hG,rfl,rfl,_,rfl,bV (by decide +kernel) ?_⟩
  refine⟨_,rfl,g,_,_,_,rfl,rfl,hG,rfl,rfl,_,rfl,bV (by decide +kernel) ?_⟩
  refine⟨_,rfl,g,_,_,_,rfl,rfl,hG,rfl,rfl,_,rfl,lK (by decide +kernel) ?_⟩
  refine⟨_,rfl,_,rfl,_,rfl,_,rfl,_,_,rfl,rfl,EY _ (by omega),_,_,rfl,rfl,_,rfl,_,rfl,_,rfl,_,_,rfl,rfl,EY _ (by omega),_,_,rfl,rfl,aI (by show 3≤1000;decide),fun q hq=>?_⟩
  refine k q _ (ao.new hq) hq ?_
  rw[ah]
  dsimp only
  rw[xT,xT]
  rfl
 case meet c d =>
  obtain⟨hc,hd,fG⟩:=hg
  have wd:c<6:=by omega
  have Ja:d<6:=by omega
  refine⟨_,rfl,g,_,_,_,rfl,rfl,hG,rfl,?_⟩
  refine⟨_,rfl,_,rfl,g,_,_,_,rfl,rfl,hG,rfl,?_⟩
  refine⟨_,rfl,_,rfl,_,_,rfl,rfl,Int.natCast_nonneg _,_,_,rfl,rfl,?_⟩
  refine⟨_,rfl,_,rfl,_,_,rfl,rfl,Int.natCast_nonneg _,_,_,rfl,rfl,?_⟩
  refine⟨_,rfl,_,rfl,_,_,rfl,rfl,Int.natCast_nonneg _,_,_,rfl,rfl,?_⟩
  refine⟨_,rfl,_,rfl,_,_,rfl,rfl,Int.natCast_nonneg _,_,_,rfl,rfl,?_⟩
  dsimp only [aU]
  have e1:=bx r.x x6 c wd
  have e2:=bx r.z z6 c wd
  have e3:=bx r.x x6 d Ja
  have e4:=bx r.z z6 d Ja
  rw[e1,e2,e3,e4]
  refine⟨_,rfl,g,_,_,_,rfl,rfl,hG,rfl,rfl,_,rfl,bV (by decide +kernel) ?_⟩
  refine⟨_,rfl,g,_,_,_,rfl,rfl,hG,rfl,rfl,_,rfl,bV (by decide +kernel) ?_⟩
  refine⟨_,rfl,g,_,_,_,rfl,rfl,hG,rfl,rfl,_,rfl,bV (by decide +kernel) ?_⟩
  refine⟨_,rfl,g,_,_,_,rfl,rfl,hG,rfl,rfl,_,rfl,bV (by decide +kernel) ?_⟩
  refine⟨_,rfl,g,_,_,_,rfl,rfl,hG,rfl,rfl,_,rfl,lK (by decide +kernel) ?_⟩
  refine⟨_,rfl,_,rfl,_,rfl,_,_,rfl,rfl,_,_,rfl,rfl,⟨big (by decide) (by decide),(by rw[aN];exact QL _)⟩,_,_,rfl,rfl,_,_,rfl,rfl,⟨cY iV.s,(by rw[aN];exact cY (QK _))⟩,_,rfl,_,rfl,_,rfl,_,rfl,_,_,rfl,rfl,EY _ (by omega),_,_,rfl,rfl,_,rfl,_,rfl,_,_,rfl,rfl,EY _ (by omega),_,_,rfl,rfl,aI (by show 3≤1000;decide),fun q hq=>?_⟩
  refine k q _ (ao.new hq) hq ?_
  rw[ah]
  dsimp only
  rw[aN,Hq,xT,xT]
  rfl
 case swap c d =>
  obtain⟨hc,hd,fG⟩:=hg
  have wd:c<6:=by omega
  have Ja:d<6:=by omega
  refine⟨_,rfl,g,_,_,_,rfl,rfl,hG,rfl,?_⟩
  refine⟨_,rfl,_,rfl,g,_,_,_,rfl,rfl,hG,rfl,?_⟩
  refine⟨_,rfl,_,rfl,_,_,rfl,rfl,Int.natCast_nonneg _,_,_,rfl,rfl,?_⟩
  refine⟨_,rfl,_,rfl,_,_,rfl,rfl,Int.natCast_nonneg _,_,_,rfl,rfl,?_⟩
  refine⟨_,rfl,_,rfl,_,_,rfl,rfl,Int.natCast_nonneg _,_,_,rfl,rfl,?_⟩
  refine⟨_,rfl,_,rfl,_,_,rfl,rfl,Int.natCast_nonneg _,_,_,rfl,rfl,?_⟩
  dsimp only [aU]
  have e1:=bx r.x x6 c wd
  have e2:=bx r.z z6 c wd
  have e3:=bx r.x x6 d Ja
  have e4:=bx r.z z6 d Ja
  rw[e1,e2,e3,e4]
  refine⟨_,rfl,g,_,_,_,rfl,rfl,hG,rfl,rfl,_,rfl,bV (by decide +kernel) ?_⟩
  refine⟨_,rfl,g,_,_,_,rfl,rfl,hG,rfl,rfl,_,rfl,bV (by decide +kernel) ?_⟩
  refine⟨_,rfl,g,_,_,_,rfl,rfl,hG,rfl,rfl,_,rfl,bV (by decide +kernel) ?_⟩
  refine⟨_,rfl,g,_,_,_,rfl,rfl,hG,rfl,rfl,_,rfl,bV (by decide +kernel) ?_⟩
  refine⟨_,rfl,g,_,_,_,rfl,rfl,hG,rfl,rfl,_,rfl,bV (by decide +kernel) ?_⟩
  refine⟨_,rfl,_,rfl,_,rfl,_,rfl,_,_,rfl,rfl,_,rfl,_,_,rfl,rfl,(by rw[xN];exact EY _ (by omega)),_,_,rfl,rfl,_,rfl,_,rfl,_,_,rfl,rfl,_,rfl,_,_,rfl,rfl,(by rw[xN];exact EY _ (by omega)),_,_,rfl,rfl,_,rfl,_,rfl,_,rfl,_,_,rfl,rfl,_,rfl,_,_,rfl,rfl,(by rw[xN];exact EY _ (by omega)),_,_,rfl,rfl,_,rfl,_,rfl,_,_,rfl,rfl,_,rfl,_,_,rfl,rfl,(by rw[xN];exact EY _ (by omega)),_,_,rfl,rfl,aI (by show 3≤1000;decide),fun q hq=>?_⟩
  refine k q _ (ao.new hq) hq ?_
  rw[ah]
  dsimp only
  rw[xN,xN,xT,xT,xT,xT]
  rfl
end
end iE
set_option maxHeartbeats 4000000
namespace iE
open PySem L2 TC
theorem bY.at {H:Hp}{m:Nat}{as:List Addr}{rs:List Rw}(h:bY H m as rs) {i:Nat}(hi:i<rs.length):∃b,as[i]?=some b∧Bs (rV as) (i:Int)=some (.ref b)∧H b=some (.tup (ra rs i).vals)∧(ra rs i).ok m:=by
 obtain⟨b,r,h1,h2,h3,h4⟩:=h.get hi
 rw[cX h2]
 exact⟨b,h1,sD (by rw[rV,getElem?_map,h1];rfl),h3,h4⟩
theorem bY.set {H:Hp}{m:Nat}{as:List Addr}{rs:List Rw}(h:bY H m as rs) {i:Nat}{b:Addr}{r:Rw}(e:H b=some (.tup r.vals)) (ok:r.ok m):bY H m (as.set i b) (rs.set i r):=by
 refine⟨by rw[List.length_set,List.length_set,h.l],fun j x hx=>?_⟩
 rw[List.getElem?_set] at hx ⊢
 by_cases gv:i=j
 ·subst gv
  rw[if_pos rfl] at hx ⊢
  rw[←h.l]
  split at hx
  ·rename_i bZ
   cases hx
   exact⟨r,by rw[if_pos bZ],e,ok⟩
  ·cases hx
 ·rw[if_neg gv] at hx ⊢
  exact h.g j x hx
theorem Fp.sub {m:Nat}{ps qs:List (Rw×Rw)}(h:Fp m ps) (p:qs.Sublist ps):Fp m qs :=
 ⟨h.c.sub fun r hr=>(p.map (·.1)).subset hr,h.p.sublist p,fun x hx=>h.o x (p.subset hx)⟩
theorem Fr.tk {m:Nat}{rs ds:List Rw}(h:Fr m rs ds) (n:Nat):Fr m (rs.take n) (ds.take n):=by
 obtain⟨ps,h1,h2,h3⟩:=h.fp
 have:=(Fp.sub h3 (List.take_sublist n ps)).fr
 rw[List.map_take,List.map_take,h1,h2] at this
 exact this
theorem Fr.dp {m:Nat}{rs ds:List Rw}(h:Fr m rs ds) (n:Nat):Fr m (rs.drop n) (ds.drop n):=by
 obtain⟨ps,h1,h2,h3⟩:=h.fp
 have:=(Fp.sub h3 (List.drop_sublist n ps)).fr
 rw[List.map_drop,List.map_drop,h1,h2] at this
 exact this
theorem Fr.signs {m:Nat}{rs ds:List Rw}(h:Fr m rs ds) {s:Int}(hs:one s):Fr m (rs.map (sc s)) ds:=by
 have aR:∀r∈rs,(sc s r).ok m∧nT (sc s r)=nT r:=fun r hr=>⟨⟨one_mul hs (h.c.ok r hr).s,(h.c.ok r hr).x,(h.c.ok r hr).z⟩,rfl⟩
 have Ug:∀i,i<rs.length→ra (rs.map (sc s)) i=sc s (ra rs i):=fun i hi=>cX (by rw[getElem?_map,iA hi];rfl)
 refine⟨⟨fun r hr=>?_,fun r hr=>?_,fun r hr t ht=>?_⟩,by rw[h.l,length_map],fun i j hi hj=>?_⟩
 ·obtain⟨u,hu,rfl⟩:=List.mem_map.mp hr;exact(aR u hu).1
 ·obtain⟨u,hu,rfl⟩:=List.mem_map.mp hr;rw[(aR u hu).2];exact h.c.ev u hu
 ·obtain⟨u,hu,rfl⟩:=List.mem_map.mp hr
  obtain⟨v,hv,rfl⟩:=List.mem_map.mp ht
  exact h.c.ag u hu v hv
 ·rw[length_map] at hi hj
  rw[Ug i hi]
  exact h.d i j hi hj
theorem Lf {n d k:Nat}(h:k≤n):HT.qA n d (some (k:Int))=k:=(HT.FC n d k).trans (Nat.min_eq_left h)
theorem Lg {xs:List V}{k:Nat}(h:k≤xs.length):hV xs none (some (k:Int))=xs.take k:=by
 unfold hV
 rw[Lf h]
 show (xs.drop 0).take (k-0)=_
 rw[List.drop_zero,Nat.sub_zero]
theorem bY.tk {H:Hp}{m:Nat}{as:List Addr}{rs:List Rw}(h:bY H m as rs) (n:Nat):bY H m (as.take n) (rs.take n):=⟨by rw[length_take,length_take,h.l],fun i a e=>by
 by_cases c:i<n
 ·rw[List.getElem?_take_of_lt c] at e
  rw[List.getElem?_take_of_lt c]
  exact h.g i a e
 ·rw[getElem?_eq_none (by rw[length_take];omega)] at e
  cases e⟩
noncomputable def sf (K:Frag):Sp:=fun vs H Q _=>∃(p:Addr) (ss:List Int) (s m n:Nat),vs=[.ref p,.int s,.int m,.int n]∧cC K H p (zV ss)∧ss.length≤63∧s≤500∧1≤m∧m≤6∧n≤m∧∀q qs rs ds H',ao H H'→H q=none→H' q=some (.lst (rV qs))→bY H' m qs rs→Fr m rs ds→rs.length=n→Q (.ref q) H'
section
variable {P:Program}{w:World}{K:Frag}{mg:Str→Option Value}{base:Heap}
/- _law_checks: 0:_law_script 1:_law_start 2:_law_coins 3:_law_many 4:_law_rows 5:_law_k 6:_law_sign 7:_law_gate_here 8:_law_number_here -/
noncomputable abbrev bO:Stmt:=top 48
theorem bg:az ["_law_script","_law_start","_law_coins","_law_many","_law_rows","_law_k","_law_sign","_law_gate_here","_law_number_here"] ["_law_script","_law_start","_law_coins","_law_many"] (af bO):=⟨rfl,rfl,rfl,by decide +kernel,rfl,by decide +kernel,by decide +kernel⟩
theorem Bb (T:gu mg) (D:Def K mg "_law_checks" bO ["_law_script","_law_start","_law_coins","_law_many"]) (d8:bR P w K mg base bu 1 "_law_number" ["_law_script","_law_k"] (tW K)) (yp:bR P w K mg base bu 1 "_law_gate" ["_law_number_here","_law_coins"] wc) (qP:bR P w K mg base bu 1 "_law_shifted" ["_law_row","_law_gate_here"] (ph K)) (we:bR P w K mg base bu 2 "_law_times" ["_law_one","_law_other"] (gj K)):bR P w K mg base bu 3 "_law_checks" ["_law_script","_law_start","_law_coins","_law_many"] (sf K):=by
 refine D.ok bg (fun vs H Q E h=>?_) (fun f bf A outer s H vs Q E hr h=>?_)
 ·obtain⟨p,ss,s,m,n,rfl,_⟩:=h;rfl
 obtain⟨p,ss,s0,m,n,rfl,hS,hl,hs0,m1,m6,Cb,k⟩:=h
 refine⟨_,(aj (sJ (i:=4) rfl bg.nd rfl rfl (cs (N:=["_law_script","_law_start","_law_coins","_law_many","_law_rows","_law_k","_law_sign","_law_gate_here","_law_number_here"]) (osc:=af bO) (by decide +kernel)) (eh rfl T.eV (aa (pv 2) ai)) (fun _ _ _ _=>fk) (fun _ _ _ _=>(aS (aa ae (aa ae (aa (aq cu ae (pv 0)) ai))))))
   (aj (ck PassesOwn.never rfl (mB rfl T.eV (aa (pv 1) (aa (aq cT (pv 1) ae) ai))) (aH (i:=5) bg.nd rfl (Or.inl rfl))
    (aj (aB (i:=7) bg.nd rfl (Or.inr rfl) (aC yp hr.sub (aa (aC d8 hr.sub (aa (pv 0) (aa (pv 5) ai))) (aa (pv 2) ai))))
    (ak (sJ (i:=4) rfl bg.nd rfl rfl (cs (N:=["_law_script","_law_start","_law_coins","_law_many","_law_rows","_law_k","_law_sign","_law_gate_here","_law_number_here"]) (osc:=af bO) (by decide +kernel)) (bU K (pv 4)) (fun _ _ _ _=>fk) (fun _ _ _ _=>(aC qP hr.sub (aa (pv 0) (aa (pv 8) ai))))))))
   (aj (aB (i:=4) bg.nd rfl (Or.inl rfl) (g9 (hZ K) (pv 4) j7 (j8 (pv 3))))
   (aj (ck PassesOwn.never rfl (mB rfl T.eV (aa (aq cT (pv 1) ae) (aa (aq cT (pv 1) ae) ai))) (aH (i:=5) bg.nd rfl (Or.inl rfl))
    (aj (aB (i:=8) bg.nd rfl (Or.inl rfl) (aC d8 hr.sub (aa (pv 0) (aa (pv 5) ai))))
    (ak (bq (PW.pt (pw_and (aF qY (pv 3) ae (aM _)) (pw_and1 (aF i8 (aq br (pv 8) (pv 3)) (aq br (aq cM (pv 8) ae) (pv 3)) (aM _)))))
     (ak (kP (aC we hr.sub (aa (ay (fY K) (pv 4) (aq br (pv 8) (pv 3)) (fun _ _=>rfl)) (aa (ay (fY K) (pv 4) (aq br (aq cM (pv 8) ae) (pv 3)) (fun _ _=>rfl)) ai))) (sr (pv 4) (aq br (pv 8) (pv 3)) set_list)))
     aO))))
   (aj (aB (i:=6) bg.nd rfl (Or.inr rfl) (aq ir ae (aq bM ae (aq cx (aq i7 (aC d8 hr.sub (aa (pv 0) (aa (pv 1) ai))) ae) ae))))
   (ak (aD (gA rfl bg.nd (cs (N:=["_law_script","_law_start","_law_coins","_law_many","_law_rows","_law_k","_law_sign","_law_gate_here","_law_number_here"]) (osc:=af bO) (by decide +kernel)) (bU K (pv 4)) (fun _ _ _ _=>fk) (fun _ _ _ _=>(aS (aa (aq bM (pv 7) (ay (au K) (pv 0) ae (fun _ _=>rfl))) (aa (ay (au K) (pv 0) ae (fun _ _=>rfl)) (aa (ay (au K) (pv 0) ae (fun _ _=>rfl)) ai))))))))))))),?_⟩
 refine⟨_,rfl,(m:Int),rfl,by omega,by omega,?_⟩
 rw[Int.toNat_natCast]
 refine vm (fun i ys H'=>∃as:List Addr,ys=rV as∧as.length=i∧bY H' m as ((sY m).take i)∧ao H H') ⟨[],rfl,rfl,⟨rfl,fun _ _ h=>nomatch h⟩,.refl H⟩ (fun i ys H' _ ⟨as,e,h,_⟩=>by rw[e,←h];simp[rV]) (aI (by omega)) ?_ ?_
 ·rintro i ys H' Q' hi ⟨as,rfl,wK,hR,s'⟩ q'
  rw[Int.zero_add]
  refine⟨_,rfl,_,_,rfl,rfl,Ke (by omega),aI (by show 3≤1000;decide),fun g ng=>?_⟩
  refine q' _ _ ⟨as++[g],by simp[rV],by simp[wK],?_,s'.trans (ao.new ng)⟩
  rw[take_add_one,zg hi,Option.toList_some]
  refine(hR.same (ao.new ng)).app ?_ (rF hi)
  rw[ah]
  show some (HO.tup [V.int 1,V.int 0,V.int (1*2^(i:Int).toNat)])=_
  rw[gF];rfl
 rintro ys H6 qr ⟨bs,rfl,vP,hR,s6⟩ OE
 have ez:(sY m).take m=(sY m).map (mG []):=by rw[F6,List.take_of_length_le (by rw[iC];exact Nat.le_refl _)]
 rw[ez] at hR
 have Lh:=s6.free OE
 have s7:=ao.new (o:=.lst (rV bs)) OE
 have er:upd H6 qr (.lst (rV bs)) qr=some (.lst (rV bs)):=ah
 have hR:=hR.same s7
 have t7:=s6.trans s7
 dsimp only [aU]
 generalize upd H6 qr (.lst (rV bs))=H7 at er hR t7 ⊢
 clear s7 s6 OE
 refine⟨_,rfl,_,rfl,_,_,rfl,rfl,(s0:Int),(s0:Int)+14,rfl,⟨by omega,by omega,by omega,by omega⟩,eD (lo:=(s0:Int)) (n:=((s0:Int)+14-(s0:Int)).toNat) (fun i σ H'=>∃(qr:Addr) (bs:List Addr) (gs:List Gt) (v5 v7:Option V),σ=[some (.ref p),some (.int s0),some (.int m),some (.int n),some (.ref qr),v5,none,v7,none]∧ao H H'∧H qr=none∧H' qr=some (.lst (rV bs))∧bY H' m bs ((sY m).map (mG gs))∧(∀g∈gs,g.ok m))
  ⟨qr,bs,[],_,_,rfl,t7,Lh,er,hR,(fun _ h=>nomatch h)⟩ ?_ ?_⟩
 ·clear er hR Lh t7 vP ez
  rintro i σ H8 hi ⟨qr,bs,gs,v5,v7,rfl,u,OE,er,hR,Kr⟩
  have hi14:i<14:=by omega
  refine⟨_,rfl,_,rfl,p,ss,s0+i,by show [V.ref p,V.int ((s0:Int)+(i:Int))]++[]=_;rw[Int.natCast_add];rfl,u.seq hS,hl,by omega,fun c c0 H9 s9=>?_⟩
  refine⟨_,rfl,c,m,rfl,c0,m1,m6,fun g He gt Hc ng eg xW=>?_⟩
  have u10:=(u.trans s9).trans Hc
  have er:=Hc _ _ (s9 _ _ er)
  have hR:=(hR.same s9).same Hc
  have wN:((sY m).map (mG gs)).length=m:=by rw[length_map,iC]
  have vP:bs.length=m:=by rw[hR.l,wN]
  dsimp only [aU]
  refine⟨_,rfl,qr,rfl,⟨_,.of er⟩,fZ (fun j zs H'=>∃cs:List Addr,zs=rV cs∧cs.length=j∧ao He H'∧bY H' m cs ((((sY m).map (mG gs)).take j).map (rD · gt))) ⟨[],rfl,rfl,.refl He,⟨rfl,fun _ _ h=>nomatch h⟩⟩
   (fun j zs H' _ ⟨cs,e1,e2,s',_⟩=>⟨.of (s' _ _ er),by rw[e1,rV,length_map,e2]⟩) (aI (by rw[rV,length_map];omega)) ?_ ?_⟩
  ·rintro j x zs H' Q' hj ⟨cs,rfl,nD,s',hC⟩ q'
   obtain⟨b,hb,rfl⟩:=cy hj
   obtain⟨r,jm,eb,fK⟩:=hR.g j b hb
   refine⟨_,rfl,_,rfl,b,g,r,gt,m,rfl,cL (s' _ _ eb),cL (s' _ _ eg),m6,fK,xW,fun y Jb qv ny ey=>q' _ _ ?_⟩
   refine⟨cs++[y],by simp[rV],by simp[nD],s'.trans qv,?_⟩
   rw[take_add_one,jm,Option.toList_some,List.map_append]
   exact(hC.same qv).app ey (oJ fK xW)
  rintro zs Jb qr' ⟨cs,rfl,nD,qv,hC⟩ OF
  rw[rV,length_map,vP,List.take_of_length_le (by rw[wN];exact Nat.le_refl _)] at hC
  have uP:=ao.new (o:=.lst (rV cs)) OF
  refine⟨qr',cs,gs++[gt],_,_,rfl,(u10.trans qv).trans uP,(u10.trans qv).free OF,ah,?_,?_⟩
  ·have e1:(sY m).map (mG (gs++[gt]))=((sY m).map (mG gs)).map (rD · gt):=by
    rw[List.map_map]
    exact map_congr_left fun r _=>Gd gs gt r
   rw[e1]
   exact hC.same uP
  ·intro x hx
   rcases mem_append.mp hx with hx|hx
   ·exact Kr x hx
   ·rw[mem_singleton.mp hx];exact xW
 clear er hR Lh t7 vP ez
 rintro σ H8 ⟨qr,bs,gs,v5,v7,rfl,u,OE,er,hR,Kr⟩
 have wN:((sY m).map (mG gs)).length=m:=by rw[length_map,iC]
 have Ma:=Fr.tk (Df m6 Kr) n
 generalize (sY m).map (mG gs)=QM at hR wN Ma
 generalize ((LV m).map (mG gs)).take n=Uh at Ma
 have vP:bs.length=m:=by rw[hR.l,wN]
 refine⟨_,rfl,_,rfl,_,rfl,qr,_,rfl,.of er,fun q1 Ui=>?_⟩
 rw[Lg (by rw[rV,length_map];omega)]
 dsimp only [aU]
 generalize hG:upd H8 q1 _=H9
 have e1:H9 q1=some (.lst (rV (bs.take n))):=by rw[←hG,ah,rV,rV,List.map_take]
 have u9:ao H8 H9:=hG▸ao.new Ui
 clear hG
 have t9:=u.trans u9
 have Hj:=u.free Ui
 have OG:=(bY.tk hR n).same u9
 have Hr:(QM.take n).length=n:=by rw[length_take,wN];omega
 generalize QM.take n=QN at Ma OG Hr
 generalize bs.take n=bs1 at e1 OG
 clear hR wN er vP Ui
 refine⟨_,rfl,_,_,rfl,rfl,_,rfl,_,_,rfl,rfl,(s0:Int)+14,(s0:Int)+18,rfl,⟨by omega,by omega,by omega,by omega⟩,eD (lo:=(s0:Int)+14) (n:=((s0:Int)+18-((s0:Int)+14)).toNat) (fun i σ H'=>∃(bs:List Addr) (rs ds:List Rw) (v5 v7 v8:Option V),σ=[some (.ref p),some (.int s0),some (.int m),some (.int n),some (.ref q1),v5,none,v7,v8]∧ao H H'∧H' q1=some (.lst (rV bs))∧bY H' m bs rs∧Fr m rs ds∧rs.length=n)
  ⟨bs1,QN,Uh,_,_,_,rfl,t9,e1,OG,Ma,Hr⟩ ?_ ?_⟩
 ·clear e1 OG Ma Hr t9
  rintro i σ He hi ⟨bs,rs,ds,v5,v7,v8,rfl,u,er,hR,hF,wN⟩
  have hi4:i<4:=by omega
  refine⟨_,rfl,_,rfl,p,ss,s0+14+i,by show [V.ref p,V.int ((s0:Int)+14+(i:Int))]++[]=_;rw[Int.natCast_add,Int.natCast_add];rfl,u.seq hS,hl,by omega,fun c c0 E9 qO=>?_⟩
  have Mb:=u.trans qO
  have er:=qO _ _ er
  have hR:=hR.same qO
  dsimp only [aU]
  refine⟨_,rfl,_,_,rfl,rfl,_,rfl,?_⟩
  by_cases hn1:(n:Int) > 1
  rotate_left
  ·refine nt hn1 ?_
   exact⟨bs,rs,ds,_,_,_,rfl,Mb,er,hR,hF,wN⟩
  refine qF hn1 ?_
  have Hs:(0:Int)<(n:Int):=by omega
  refine⟨_,rfl,_,rfl,_,_,rfl,rfl,Hs,_,rfl,_,_,rfl,rfl,Bw (by decide) (by decide),_,rfl,_,_,rfl,rfl,Hs,rfl,_,rfl,?_⟩
  have x0:=fo c Hs
  have x1:=iP c Hs
  have y0:=fo (c.fdiv 7) Hs
  have y1:=iP (c.fdiv 7) Hs
  obtain⟨x,hx,hx1⟩:∃x:Nat,c%(n:Int)=(x:Int)∧x<n:=⟨(c%(n:Int)).toNat,by omega,by omega⟩
  obtain⟨y,hy,hy1⟩:∃y:Nat,c.fdiv 7%(n:Int)=(y:Int)∧y<n:=⟨(c.fdiv 7%(n:Int)).toNat,by omega,by omega⟩
  by_cases NW:x=y
  ·refine bV (by rw[decide_eq_true (show V.int (c%(n:Int))=V.int (c.fdiv 7%(n:Int)) by rw[hx,hy,NW])];rfl) ?_
   exact⟨bs,rs,ds,_,_,_,rfl,Mb,er,hR,hF,wN⟩
  ·refine lK (by rw[decide_eq_false (fun z=>NW (by have z:V.int (c%(n:Int))=V.int (c.fdiv 7%(n:Int)):=z;injection z with z;omega))];rfl) ?_
   have NZ:x<rs.length:=by omega
   have hyl:y<rs.length:=by omega
   obtain⟨b1,zi,ab1,TR,ok1⟩:=bY.at hR NZ
   obtain⟨b2,KZ,ab2,DK,ok2⟩:=bY.at hR hyl
   rw[←hx] at ab1
   rw[←hy] at ab2
   refine⟨_,rfl,_,rfl,_,rfl,_,_,rfl,rfl,Hs,q1,_,_,_,rfl,rfl,.of er,ab1,_,rfl,_,rfl,_,_,rfl,rfl,Bw (by decide) (by decide),_,rfl,_,_,rfl,rfl,Hs,q1,_,_,_,rfl,rfl,.of er,ab2,b1,b2,ra rs x,ra rs y,m,rfl,cL TR,cL DK,m6,ok1,ok2,fun g Jb qv ng eg=>?_⟩
   have er:=qv _ _ er
   have hR:=hR.same qv
   have u12:=Mb.trans qv
   obtain⟨OH,_,_⟩:=hF.mul NZ hyl NW
   refine⟨_,rfl,_,rfl,_,rfl,_,_,rfl,rfl,Hs,q1,_,_,x,rfl,rfl,er,by rw[hx];exact F5 (by rw[rV,length_map,hR.l];exact NZ),?_⟩
   have kT:∀(c:Addr) (xs:List V),Jb c=some (.tup xs)→upd Jb q1 (.lst ((rV bs).set x (V.ref g))) c=some (.tup xs):=fun c xs e=>by
    have:c≠q1:=fun z=>by rw[z,er] at e;cases e
    rw[av this];exact e
   have hR':=bY.set hR (i:=x) eg (oH ok1 ok2)
   refine⟨bs.set x g,rs.set x (bz (ra rs x) (ra rs y)),_,_,_,_,rfl,u12.upd Hj,by rw[ah,rV,rV,List.map_set],⟨hR'.l,fun j c e=>?_⟩,OH,by rw[List.length_set];exact wN⟩
   obtain⟨r',h1,h2,h3⟩:=hR'.g j c e
   exact⟨r',h1,kT _ _ h2,h3⟩
 clear e1 OG Ma Hr t9
 rintro σ He ⟨bs,rs,ds,v5,v7,v8,rfl,u,er,hR,hF,wN⟩
 refine⟨_,rfl,_,rfl,p,ss,s0,rfl,u.seq hS,hl,by omega,fun c c0 E9 qO=>?_⟩
 obtain⟨c,rfl⟩:∃k:Nat,c=(k:Int):=⟨c.toNat,by omega⟩
 have Mb:=u.trans qO
 have er:=qO _ _ er
 have hR:=hR.same qO
 refine⟨_,_,rfl,rfl,by show (0:Int)≤3;decide,_,_,rfl,rfl,_,_,rfl,rfl,?_⟩
 have OI:Builtin.bitAnd ((c:Int)/2^(3:Int).toNat) 1=0∨Builtin.bitAnd ((c:Int)/2^(3:Int).toNat) 1=1:=by
  have e3:((c:Int)/2^(3:Int).toNat)=((c/8:Nat):Int):=by
   rw[show (2:Int)^(3:Int).toNat=((8:Nat):Int) by decide,Int.natCast_ediv]
  have:Builtin.bitAnd (((c/8:Nat):Int)) ((1:Nat):Int)=((c/8&&&1:Nat):Int):=mF _ _
  rw[e3,show (1:Int)=((1:Nat):Int) from rfl,this,Nat.and_one_is_mod]
  omega
 generalize Builtin.bitAnd ((c:Int)/2^(3:Int).toNat) 1=bb at OI ⊢
 refine⟨⟨big (by decide) (by decide),big (by omega) (by omega)⟩,_,_,rfl,rfl,?_⟩
 have Ef:one (1-2*bb):=by rcases OI with rfl|rfl<;>simp[one]
 dsimp only [aU]
 generalize 1-2*bb=sg at Ef ⊢
 have vP:bs.length=n:=by rw[hR.l,wN]
 refine⟨_,rfl,q1,rfl,⟨_,.of er⟩,fZ (fun j zs H'=>∃cs:List Addr,zs=rV cs∧cs.length=j∧ao E9 H'∧bY H' m cs ((rs.take j).map (sc sg))) ⟨[],rfl,rfl,.refl E9,⟨rfl,fun _ _ h=>nomatch h⟩⟩
   (fun j zs H' _ ⟨cs,e1,e2,s',_⟩=>⟨.of (s' _ _ er),by rw[e1,rV,length_map,e2]⟩) (aI (by rw[rV,length_map];omega)) ?_ ?_⟩
 ·rintro j x zs H' Q' hj ⟨cs,rfl,nD,s',hC⟩ q'
  obtain⟨b,hb,rfl⟩:=cy hj
  obtain⟨r,jm,eb,fK⟩:=hR.g j b hb
  have eb:=s' _ _ eb
  have QN:=fK.s
  refine⟨_,rfl,_,rfl,b,_,_,_,rfl,rfl,cL eb,rfl,_,_,rfl,rfl,⟨big (by rcases Ef with h|h<;>rw[h]<;>decide) (by rcases Ef with h|h<;>rw[h]<;>decide),big (by rcases QN with h|h<;>rw[h]<;>decide) (by rcases QN with h|h<;>rw[h]<;>decide)⟩,_,rfl,b,_,_,_,rfl,rfl,cL eb,rfl,_,rfl,b,_,_,_,rfl,rfl,cL eb,rfl,aI (by show 3≤1000;decide),fun y ny=>q' _ _ ?_⟩
  refine⟨cs++[y],by simp[rV],by simp[nD],s'.trans (ao.new ny),?_⟩
  rw[take_add_one,jm,Option.toList_some,List.map_append]
  exact(hC.same (ao.new ny)).app (r:=sc sg r) (by rw[ah];rfl) ⟨one_mul Ef fK.s,fK.x,fK.z⟩
 rintro zs Jb q2 ⟨cs,rfl,nD,qv,hC⟩ K8
 rw[rV,length_map,vP,List.take_of_length_le (by omega)] at hC
 have uP:=ao.new (o:=.lst (rV cs)) K8
 exact k q2 cs _ ds _ ((Mb.trans qv).trans uP) ((Mb.trans qv).free K8) ah (hC.same uP) (Fr.signs hF Ef) (by rw[length_map];exact wN)
end
end iE
set_option maxHeartbeats 4000000
namespace iE
open PySem L2 TC
noncomputable def tX (r:Nat×Nat):List Key:=[.inl (r.1:Int),.inl (r.2:Int)]
theorem Ht {r t:Nat×Nat}(h:tX r=tX t):r=t:=by
 obtain⟨a,b⟩:=r
 obtain⟨a',b'⟩:=t
 unfold tX at h
 simp only[List.cons.injEq,Sum.inl.injEq,Int.natCast_inj] at h
 obtain⟨rfl,rfl,_⟩:=h
 rfl
noncomputable def qw (ps:List (Nat×Nat)):List (List Key×V):=ps.map fun r=>(tX r,.bl true)
theorem tY (ps:List (Nat×Nat)) (r:Nat×Nat):((qw ps).any fun kv=>decide (kv.1=tX r))=true↔r∈ps:=by
 rw[any_eq_true]
 constructor
 ·rintro⟨kv,hk,e⟩
  obtain⟨t,ht,rfl⟩:=List.mem_map.mp hk
  rw[←Ht (of_decide_eq_true e)];exact ht
 ·intro h
  exact⟨_,List.mem_map.mpr ⟨r,h,rfl⟩,decide_eq_true rfl⟩
theorem Hu (ps:List (Nat×Nat)) (r:Nat×Nat):(bW (qw ps) (tX r)).isSome=true↔r∈ps:=by rw[←d6];exact tY ps r
noncomputable def ins (ps:List (Nat×Nat)) (r:Nat×Nat):List (Nat×Nat):=open Classical in if r∈ps then ps else ps++[r]
theorem Hv (ps:List (Nat×Nat)) (r:Nat×Nat):putK (qw ps) (tX r) (.bl true)=qw (ins ps r):=by
 unfold putK ins
 by_cases h:r∈ps
 ·rw[if_pos ((tY ps r).mpr h),if_pos h,qw,List.map_map]
  refine map_congr_left fun t _=>?_
  show (if tX t=tX r then (tX t,V.bl true) else (tX t,V.bl true))=_
  split<;>rfl
 ·rw[if_neg (fun z=>h ((tY ps r).mp z)),if_neg h,qw,qw,List.map_append];rfl
theorem Hw {ps:List (Nat×Nat)}{r t:Nat×Nat}:t∈ins ps r↔t∈ps∨t=r:=by
 unfold ins
 by_cases h:r∈ps
 ·rw[if_pos h]
  exact⟨.inl,fun z=>z.elim id fun e=>e▸h⟩
 ·rw[if_neg h,mem_append,mem_singleton]
theorem Hy (ps:List (Nat×Nat)) (r:Nat×Nat):(ins ps r).length≤ps.length+1:=by
 unfold ins
 by_cases hr:r∈ps
 ·rw[if_pos hr];omega
 ·rw[if_neg hr,length_append];exact Nat.le_refl _
noncomputable abbrev xz (r:Rw):Nat×Nat:=(r.x,r.z)
theorem Eg {rs:List Rw}{i:Nat}(hi:i<rs.length) (t:Nat×Nat):(∃n,n<2^(i+1)∧xz (iD rs n (i+1))=t)↔(∃n,n<2^i∧xz (iD rs n i)=t)∨∃n,n<2^i∧t=((iD rs n i).x^^^(ra rs i).x,(iD rs n i).z^^^(ra rs i).z):=by
 have low:∀n,n<2^i→iD rs n (i+1)=iD rs n i:=fun n hn=>by
  show (if n.testBit i=true then bz (iD rs n i) (ra rs i) else iD rs n i)=_
  rw[Nat.testBit_lt_two_pow hn,if_neg (by decide)]
 have high:∀n,n<2^i→iD rs (n+2^i) (i+1)=bz (iD rs n i) (ra rs i):=fun n hn=>by
  have hb:(n+2^i).testBit i=true:=by
   rw[Nat.add_comm,Nat.testBit_two_pow_add_eq,Nat.testBit_lt_two_pow hn];rfl
  show (if (n+2^i).testBit i=true then bz (iD rs (n+2^i) i) (ra rs i) else iD rs (n+2^i) i)=_
  rw[if_pos hb,(zo (n:=n) (Nat.le_refl i)).1]
 constructor
 ·rintro⟨n,hn,e⟩
  by_cases h:n<2^i
  ·exact .inl ⟨n,h,by rw[←e,low n h]⟩
  ·have BF:n-2^i<2^i:=by rw[Nat.pow_succ] at hn;omega
   refine .inr ⟨n-2^i,BF,?_⟩
   rw[←e,show n=(n-2^i)+2^i by omega,high _ BF,show n-2^i+2^i-2^i=n-2^i by omega];rfl
 ·rintro(⟨n,hn,e⟩|⟨n,hn,e⟩)
  ·exact⟨n,by rw[Nat.pow_succ];omega,by rw[low n hn];exact e⟩
  ·exact⟨n+2^i,by rw[Nat.pow_succ];omega,by rw[high n hn,e];rfl⟩
noncomputable def Eh (K:Frag):Sp:=fun vs H Q _=>∃(a:Addr) (as:List Addr) (rs:List Rw) (m:Nat),vs=[.ref a]∧cC K H a (rV as)∧bY H m as rs∧m≤6∧rs.length≤6∧∀q ps H',ao H H'→H q=none→H' q=some (.dT (qw ps))→(∀t,(∃n,Is rs t n)↔xz t∈ps)→Q (.ref q) H'
theorem Hz {H:Hp}{p b:Addr}{ar Li:List (List Key×V)}{xs:List V}(ep:H p=some (.dT ar)) (eb:H b=some (.tup xs)):upd H p (.dT Li) b=some (.tup xs):=by rw[av (iX eb ep (fun z=>nomatch z))];exact eb
theorem QO (a b:Nat):Builtin.bitXor (a:Int) (b:Int)=((a^^^b:Nat):Int):=sS a b
section
variable {P:Program}{w:World}{K:Frag}{mg:Str→Option Value}{base:Heap}
/- _law_made: 0:_law_checks_here 1:_law_found 2:_law_sign 3:_law_xs 4:_law_zs 5:_law_a 6:_law_b -/
noncomputable abbrev eI:Stmt:=top 50
theorem dj:az ["_law_checks_here","_law_found","_law_sign","_law_xs","_law_zs","_law_a","_law_b"] ["_law_checks_here"] (af eI):=⟨rfl,rfl,rfl,by decide +kernel,rfl,by decide +kernel,by decide +kernel⟩
theorem Lj (T:gu mg) (D:Def K mg "_law_made" eI ["_law_checks_here"]):bR P w K mg base bu 1 "_law_made" ["_law_checks_here"] (Eh K):=by
 refine D.ok dj (fun vs H Q E h=>?_) (fun f bf A outer s H vs Q E hr h=>?_)
 ·obtain⟨a,as,rs,m,rfl,_⟩:=h;rfl
 obtain⟨a,as,rs,m,rfl,hS,hR,hm,hl,k⟩:=h
 have lb:(1000:Nat)≤sizeLine:=aI (by decide)
 refine⟨_,(aj (aB (i:=1) dj.nd rfl (Or.inl rfl) (NH hr.eF (aS (aa ae (aa ae ai))) fg))
   (aj (ck PassesOwn.never rfl (bU K (pv 0)) (d3 K rfl (aQ (aH (i:=2) dj.nd rfl (Or.inl rfl)) (aQ (aH (i:=3) dj.nd rfl (Or.inl rfl)) (aQ (aH (i:=4) dj.nd rfl (Or.inl rfl)) dZ))))
    (ak (ck PassesOwn.never rfl (bU K (j6 xQ (by rfl) T.sO nS (aa (pv 1) ai))) (d3 K rfl (aQ (aH (i:=5) dj.nd rfl (Or.inl rfl)) (aQ (aH (i:=6) dj.nd rfl (Or.inl rfl)) dZ)))
     (ak (kP fg (sr (pv 1) (aS (aa (aq bI (pv 5) (pv 3)) (aa (aq bI (pv 6) (pv 4)) ai))) (Kv hr.eF)))))))
   (ak (aD (pv 1))))),?_⟩
 refine fun p np=>⟨aI (by show 2≤1000;decide),fun b nb=>⟨b,tX (0,0),rfl,ah,?_,?_⟩⟩
 ·exact ao.new nb _ _ ah
 generalize hG:upd (upd (upd H p (.dT [])) b _) p _=H1
 have s1:ao H H1:=hG▸((ao.new np).trans (ao.new nb)).upd np
 have e1:H1 p=some (.dT (qw [(0,0)])):=by rw[←hG,ah];rfl
 clear hG
 have wK:as.length=rs.length:=hR.l
 refine⟨_,rfl,a,rfl,⟨_,s1.seq hS⟩,d0 (K:=K) (a:=a) (xs:=rV as) (fun i σ H'=>∃(ps:List (Nat×Nat)) (v2 v3 v4 v5 v6:Option V),σ=[some (.ref a),some (.ref p),v2,v3,v4,v5,v6]∧ao H H'∧H' p=some (.dT (qw ps))∧(∀t,(∃n,n<2^i∧xz (iD rs n i)=t)↔t∈ps)∧ps.length≤2^i) ⟨[(0,0)],_,_,_,_,_,rfl,s1,e1,fun t=>⟨fun⟨n,hn,e⟩=>by rw[←e];exact mem_cons_self,fun h=>⟨0,by decide,(mem_singleton.mp h).symm⟩⟩,Nat.le_refl _⟩ (fun i σ H' _ ⟨_,_,_,_,_,_,_,s',_⟩=>s'.seq hS) ?_ ?_⟩
 ·rintro i x σ H2 hi ⟨ps,v2,v3,v4,v5,v6,rfl,s2,e2,hP,lG⟩
  obtain⟨rb,hrb,rfl⟩:=cy hi
  obtain⟨r,jm,er,fK⟩:=hR.g i rb hrb
  have Of:i<rs.length:=(List.getElem?_eq_some_iff.mp jm).1
  have hp64:2^i≤32:=Nat.pow_le_pow_right (n:=2) (by decide) (by omega:i≤5)
  have Ug:=cX jm
  refine⟨rb,_,rfl,cL (s2 _ _ er),rfl,_,_,rfl,_,_,rfl,_,_,rfl,rfl,?_⟩
  refine⟨_,rfl,p,qw ps,rfl,e2,fun bs l vP hbs nl=>?_⟩
  have s3:=ao.new (o:=.lst (bs.map V.ref)) nl
  have el:upd H2 l (.lst (bs.map V.ref)) l=some (.lst (bs.map V.ref)):=ah
  have e3:=s3 _ _ e2
  have OJ:∀(k:Nat) b' p',bs[k]?=some b'→ps[k]?=some p'→upd H2 l (.lst (bs.map V.ref)) b'=some (.tup [.int (p'.1:Int),.int (p'.2:Int)]):=fun k b' p' hb EW=>s3 _ _ (hbs k b' (tX p') (.bl true) hb (by rw[qw,getElem?_map,EW];rfl))
  have s3:=s2.trans s3
  have Lk:bs.length=ps.length:=by rw[vP,qw,length_map]
  generalize upd H2 l (.lst (bs.map V.ref))=H3 at s3 el e3 OJ ⊢
  refine⟨l,rfl,⟨_,.of el⟩,d0 (K:=K) (a:=l) (xs:=bs.map V.ref) (fun j σ H'=>∃(qs:List (Nat×Nat)) (v5 v6:Option V),σ=[some (.ref a),some (.ref p),some (.int r.sg),some (.int r.x),some (.int r.z),v5,v6]∧ao H H'∧H' p=some (.dT (qw qs))∧H' l=some (.lst (bs.map V.ref))∧(∀(k:Nat) b' p',bs[k]?=some b'→ps[k]?=some p'→H' b'=some (.tup [.int (p'.1:Int),.int (p'.2:Int)]))∧(∀t,t∈qs↔t∈ps∨∃p'∈ps.take j,t=(p'.1^^^r.x,p'.2^^^r.z))∧qs.length≤ps.length+j)
   ⟨ps,_,_,rfl,s3,e3,el,OJ,fun t=>⟨.inl,fun z=>z.elim id fun⟨_,h,_⟩=>nomatch h⟩,Nat.le_refl _⟩ (fun j σ H' _ ⟨_,_,_,_,_,_,h,_⟩=>.of h) ?_ ?_⟩
  ·rintro j x σ H4 hj ⟨qs,v5',v6',rfl,s4,e4,Uj,Uk,QP,hl4⟩
   obtain⟨b',iQ,rfl⟩:=cy hj
   have QQ:j<ps.length:=by rw[←Lk];exact(List.getElem?_eq_some_iff.mp iQ).1
   obtain⟨p',EW⟩:∃p',ps[j]?=some p':=⟨ps[j],getElem?_eq_getElem QQ⟩
   have eb4:=Uk j b' p' iQ EW
   refine⟨b',_,rfl,cL eb4,rfl,_,_,rfl,_,_,rfl,rfl,?_⟩
   refine⟨_,rfl,_,rfl,_,rfl,_,_,rfl,rfl,_,rfl,_,rfl,_,_,rfl,rfl,aI (by show 2≤1000;decide),fun q nq=>?_⟩
   have eq:upd H4 q (.tup [V.int (Builtin.bitXor (p'.1:Int) (r.x:Int)),V.int (Builtin.bitXor (p'.2:Int) (r.z:Int))]) q=some (.tup ((tX (p'.1^^^r.x,p'.2^^^r.z)).map kV)):=by rw[ah,QO,QO];rfl
   have s5:=ao.new (o:=.tup [V.int (Builtin.bitXor (p'.1:Int) (r.x:Int)),V.int (Builtin.bitXor (p'.2:Int) (r.z:Int))]) nq
   generalize upd H4 q (.tup [V.int (Builtin.bitXor (p'.1:Int) (r.x:Int)),V.int (Builtin.bitXor (p'.2:Int) (r.z:Int))])=H5 at eq s5 ⊢
   have e5:=s5 _ _ e4
   refine⟨p,q,qw qs,tX (p'.1^^^r.x,p'.2^^^r.z),rfl,rfl,e5,eq,by rw[qw,length_map];omega,?_⟩
   rw[Hv]
   refine⟨ins qs (p'.1^^^r.x,p'.2^^^r.z),_,_,rfl,(s4.trans s5).upd np,ah,?_,fun k b2 p2 h1 h2=>Hz e5 (s5 _ _ (Uk k b2 p2 h1 h2)),fun t=>?_,?_⟩
   ·rw[av (iX (s5 _ _ Uj) e5 (fun z=>nomatch z))];exact s5 _ _ Uj
   ·rw[Hw,QP t,take_add_one,EW,Option.toList_some]
    constructor
    ·rintro((h|⟨p2,h,e⟩)|h)
     ·exact .inl h
     ·exact .inr ⟨p2,mem_append_left _ h,e⟩
     ·exact .inr ⟨p',mem_append_right _ (mem_singleton.mpr rfl),h⟩
    ·rintro(h|⟨p2,h,e⟩)
     ·exact .inl (.inl h)
     ·rcases mem_append.mp h with h|h
      ·exact .inl (.inr ⟨p2,h,e⟩)
      ·rw[mem_singleton.mp h] at e;exact .inr e
   ·have:=Hy qs (p'.1^^^r.x,p'.2^^^r.z);omega
  ·rintro σ H4 ⟨qs,v5',v6',rfl,s4,e4,Uj,Uk,QP,hl4⟩
   rw[length_map,Lk,take_length] at QP
   rw[length_map,Lk] at hl4
   refine⟨qs,_,_,_,_,_,rfl,s4,e4,fun t=>?_,by rw[Nat.pow_succ];omega⟩
   rw[Eg Of,QP t,hP t,Ug]
   constructor
   ·rintro(h|⟨n,hn,e⟩)
    ·exact .inl h
    ·exact .inr ⟨xz (iD rs n i),(hP _).mp ⟨n,hn,rfl⟩,e⟩
   ·rintro(h|⟨p',EW,e⟩)
    ·exact .inl h
    ·obtain⟨n,hn,e'⟩:=(hP p').mpr EW
     exact .inr ⟨n,hn,by rw[e,←e']⟩
 ·rintro σ H2 ⟨ps,v2,v3,v4,v5,v6,rfl,s2,e2,hP,lG⟩
  rw[rV,length_map,wK] at hP
  refine⟨_,rfl,k p ps H2 s2 np e2 fun t=>?_⟩
  rw[←hP]
  constructor
  ·rintro⟨n,hn,h1,h2⟩
   exact⟨n,hn,by show ((pm rs n).x,(pm rs n).z)=_;rw[h1,h2]⟩
  ·rintro⟨n,hn,e⟩
   have e:((pm rs n).x,(pm rs n).z)=(t.x,t.z):=e
   exact⟨n,hn,congrArg Prod.fst e,congrArg Prod.snd e⟩
end
end iE
set_option maxHeartbeats 4000000
namespace iE
open PySem L2 TC
noncomputable def kl (K:Frag):Sp:=fun vs H Q _=>∃(a t:Addr) (as:List Addr) (rs:List Rw) (r:Rw) (m:Nat),vs=[.ref a,.ref t]∧cC K H a (rV as)∧bY H m as rs∧fh K H t r.vals∧r.ok m∧m≤6∧rs.length≤6∧∀H',ao H H'→Q (.int (ki rs r:Nat)) H'
theorem HA (a b:Rw):(!decide (V.int (if par (a.x&&&b.z) then 1 else 0)=V.int (if par (a.z&&&b.x) then 1 else 0))) = !sU a b:=by
 unfold sU
 cases par (a.x&&&b.z)<;>cases par (a.z&&&b.x)<;>decide
theorem tq {a b:Nat}(hm:a≤6) (hb:b<2^a):b<64:=Nat.lt_of_lt_of_le hb (Nat.pow_le_pow_right (n:=2) (by decide) hm)
section
variable {P:Program}{w:World}{K:Frag}{mg:Str→Option Value}{base:Heap}{C:Addr}
/- _law_marks_of: 0:_law_checks_here 1:_law_turn 2:_law_found 3:_law_k 4:_law_sign 5:_law_xs 6:_law_zs -/
noncomputable abbrev cA:Stmt:=top 49
theorem bJ:az ["_law_checks_here","_law_turn","_law_found","_law_k","_law_sign","_law_xs","_law_zs"] ["_law_checks_here","_law_turn"] (af cA):=⟨rfl,rfl,rfl,by decide +kernel,rfl,by decide +kernel,by decide +kernel⟩
theorem Bc (T:gu mg) (D:Def K mg "_law_marks_of" cA ["_law_checks_here","_law_turn"]) (kj:bR P w K mg base bu 1 "_law_odd" ["_law_number_here"] yn):bR P w K mg base bu 2 "_law_marks_of" ["_law_checks_here","_law_turn"] (kl K):=by
 refine D.ok bJ (fun vs H Q E h=>?_) (fun f bf A outer s H vs Q E hr h=>?_)
 ·obtain⟨a,t,as,rs,r,m,rfl,_⟩:=h;rfl
 obtain⟨a,t,as,rs,r,m,rfl,hS,hR,hT,fK,m6,hl,k⟩:=h
 have wK:(rV as).length=rs.length:=by rw[rV,length_map,hR.l]
 refine⟨_,(aj (aB (i:=2) bJ.nd rfl (Or.inl rfl) ae)
   (aj (ck PassesOwn.never rfl (eh rfl T.eV (aa (aK (hX K) (by rfl) T.oC kW (aa (pv 0) ai)) ai)) (aH (i:=3) bJ.nd rfl (Or.inl rfl))
    (aj (kP (ay (fY K) (pv 0) (pv 3) (fun _ _=>rfl)) (d3 K rfl (aQ (aH (i:=4) bJ.nd rfl (Or.inl rfl)) (aQ (aH (i:=5) bJ.nd rfl (Or.inl rfl)) (aQ (aH (i:=6) bJ.nd rfl (Or.inl rfl)) dZ)))))
    (ak (bq (aF i8 (aC kj hr.sub (aa (aq cx (pv 5) (ay (au K) (pv 1) ae (fun _ _=>rfl))) ai)) (aC kj hr.sub (aa (aq cx (pv 6) (ay (au K) (pv 1) ae (fun _ _=>rfl))) ai)) (aM _))
     (ak (aB (i:=2) bJ.nd rfl (Or.inl rfl) (aq u6 (pv 2) (aq cu ae (pv 3)))))
     aO))))
   (ak (aD (pv 2))))),?_⟩
 dsimp only [aU]
 refine⟨_,rfl,a,_,rfl,.inl hS,(rs.length:Int),by rw[wK],by omega,by omega,eD (lo:=0) (n:=(rs.length:Int).toNat) (fun i σ H'=>∃(v3 v4 v5 v6:Option V),σ=[some (.ref a),some (.ref t),some (.int (wM (fun i=>!sU (ra rs i) r) i:Nat)),v3,v4,v5,v6]∧ao H H') ⟨_,_,_,_,rfl,.refl H⟩ ?_ ?_⟩
 ·rintro i σ H1 hi ⟨v3,v4,v5,v6,rfl,s1⟩
  rw[Int.zero_add]
  have E3:i<rs.length:=by omega
  obtain⟨b,hb,ab,eb,uO⟩:=bY.at hR E3
  have eb:=s1 _ _ eb
  have ux:=tq m6 uO.x
  have uz:=tq m6 uO.z
  refine⟨_,rfl,_,rfl,a,_,_,_,rfl,rfl,s1.seq hS,ab,b,_,rfl,cL eb,rfl,_,_,rfl,_,_,rfl,_,_,rfl,rfl,?_⟩
  refine⟨_,rfl,_,rfl,t,_,_,_,rfl,rfl,s1.tup hT,rfl,_,_,rfl,rfl,(ra rs i).x&&&r.z,by show [V.int (Builtin.bitAnd ((ra rs i).x:Int) (r.z:Int))]++[]=_;rw[mF];rfl,Nat.lt_of_le_of_lt Nat.and_le_left ux,fun H2 s2=>?_⟩
  have t2:=s1.trans s2
  refine⟨_,rfl,_,rfl,t,_,_,_,rfl,rfl,t2.tup hT,rfl,_,_,rfl,rfl,(ra rs i).z&&&r.x,by show [V.int (Builtin.bitAnd ((ra rs i).z:Int) (r.x:Int))]++[]=_;rw[mF];rfl,Nat.lt_of_le_of_lt Nat.and_le_left uz,fun H3 s3=>?_⟩
  have t3:=t2.trans s3
  refine⟨rfl,_,rfl,?_⟩
  have ea:=HA (ra rs i) r
  have lG:wM (fun i=>!sU (ra rs i) r) i<64:=Nat.lt_of_lt_of_le (yk _ i) (Nat.pow_le_pow_right (n:=2) (by decide) (by omega:i≤6))
  cases hb:sU (ra rs i) r with
  | true =>
   rw[hb] at ea
   have e1:wM (fun i=>!sU (ra rs i) r) (i+1)=wM (fun i=>!sU (ra rs i) r) i:=by
    show wM _ i+(if (!sU (ra rs i) r)=true then 2^i else 0)=_
    rw[hb];rfl
   exact bV ea ⟨some (V.int (i:Int)),some (V.int (ra rs i).sg),some (V.int ((ra rs i).x:Int)),some (V.int ((ra rs i).z:Int)),by rw[e1];rfl,t3⟩
  | false =>
   rw[hb] at ea
   have e1:wM (fun i=>!sU (ra rs i) r) (i+1)=wM (fun i=>!sU (ra rs i) r) i|||2^i:=by
    rw[K7]
    show wM _ i+(if (!sU (ra rs i) r)=true then 2^i else 0)=_
    rw[hb];rfl
   exact lK ea ⟨_,rfl,_,rfl,_,_,rfl,rfl,Ke (by omega),_,_,rfl,rfl,some (V.int (i:Int)),some (V.int (ra rs i).sg),some (V.int ((ra rs i).x:Int)),some (V.int ((ra rs i).z:Int)),by rw[e1,←Nr,←gF];rfl,t3⟩
 ·rw[Int.toNat_natCast]
  rintro σ H1 ⟨v3,v4,v5,v6,rfl,s1⟩
  exact⟨_,rfl,k H1 s1⟩
end
end iE
set_option maxHeartbeats 4000000
namespace iE
open PySem L2 TC
noncomputable def zS (nM:Addr):Sp:=fun vs H Q _=>∃(e a b:Addr),vs=[.ref e,.ref a,.ref b]∧H e=some (iS e (.ref nM))∧∀d,H d=none→d≠e→Q .cK (upd (upd H e (iS e (.ref nM) (some d))) d (.xd [("one",.ref a),("other",.ref b)]))
noncomputable abbrev kM (rs:List Rw) (t:Rw):Key:=.inl ((ki rs t:Nat):Int)
structure iJ (H:Hp) (rs ts:List Rw) (ar:List (Key×V)):Prop where
 nd:(ar.map (·.1)).Nodup
 of:∀k v,bW ar k=some v→∃(u:Rw) (b:Addr),k=kM rs u∧v = .ref b∧H b=some (.tup u.vals)∧u∈ts
 to:∀t∈ts,∃(u:Rw) (b:Addr),bW ar (kM rs t)=some (.ref b)∧H b=some (.tup u.vals)∧u∈ts∧ki rs u=ki rs t∧dY u≤dY t∧∃k,Is rs (bz u t) k
 ln:ar.length≤ts.length
theorem HB {rs:List Rw}{u:Rw}(hx:u.x=0) (hz:u.z=0):Is rs u 0:=⟨Nat.two_pow_pos _,by rw[tT,hx];rfl,by rw[tT,hz];rfl⟩
theorem HC {rs:List Rw}(t:Rw):Is rs (bz t t) 0:=HB (Nat.xor_self _) (Nat.xor_self _)
theorem Ei {rs:List Rw}{t u:Rw}(h:kM rs t=kM rs u):ki rs t=ki rs u:=by
 have:((ki rs t:Nat):Int)=((ki rs u:Nat):Int):=Sum.inl.inj h
 omega
theorem iJ.nil {H:Hp}{rs:List Rw}:iJ H rs [] []:=⟨List.nodup_nil,fun k v h=>(nomatch h),fun t h=>(nomatch h),Nat.le_refl 0⟩
theorem iJ.same {H H':Hp}{rs ts:List Rw}{ar:List (Key×V)}(h:iJ H rs ts ar) (s:∀b (u:Rw),H b=some (.tup u.vals)→H' b=some (.tup u.vals)):iJ H' rs ts ar :=
 ⟨h.nd,fun k v hv=>by obtain⟨u,b,h1,h2,h3,h4⟩:=h.of k v hv;exact⟨u,b,h1,h2,s _ _ h3,h4⟩,fun t ht=>by obtain⟨u,b,h1,h2,h3⟩:=h.to t ht;exact⟨u,b,h1,s _ _ h2,h3⟩,h.ln⟩
theorem iJ.perm {H:Hp}{rs ts us:List Rw}{ar:List (Key×V)}(h:iJ H rs ts ar) (p:ts.Perm us):iJ H rs us ar :=
 ⟨h.nd,fun k v hv=>by obtain⟨u,b,h1,h2,h3,h4⟩:=h.of k v hv;exact⟨u,b,h1,h2,h3,p.mem_iff.mp h4⟩,fun t ht=>by obtain⟨u,b,h1,h2,h3,h4⟩:=h.to t (p.mem_iff.mpr ht);exact⟨u,b,h1,h2,p.mem_iff.mp h3,h4⟩,by rw[←p.length_eq];exact h.ln⟩
theorem iJ.new {H:Hp}{rs ts:List Rw}{ar:List (Key×V)}(h:iJ H rs ts ar) {t:Rw}{b:Addr}(hv:bW ar (kM rs t)=none) (hb:H b=some (.tup t.vals)):iJ H rs (ts++[t]) (putK ar (kM rs t) (.ref b)):=by
 refine⟨zH _ h.nd hv,fun k v hk=>?_,fun t' xM=>?_,?_⟩
 ·rw[ji] at hk
  split at hk
  ·rename_i e
   cases hk
   exact⟨t,b,e,rfl,hb,mem_append_right _ (mem_singleton.mpr rfl)⟩
  ·obtain⟨u,c,h1,h2,h3,h4⟩:=h.of k v hk
   exact⟨u,c,h1,h2,h3,mem_append_left _ h4⟩
 ·rcases mem_append.mp xM with z|z
  ·obtain⟨u,c,h1,h2,h3,h4⟩:=h.to t' z
   refine⟨u,c,?_,h2,mem_append_left _ h3,h4⟩
   rw[ji,if_neg (fun e=>by rw[e,hv] at h1;cases h1)]
   exact h1
  ·rw[mem_singleton.mp z]
   exact⟨t,b,by rw[ji,if_pos rfl],hb,mem_append_right _ (mem_singleton.mpr rfl),rfl,Nat.le_refl _,0,HC t⟩
 ·have:=gC ar (kM rs t) (.ref b)
  have:=h.ln
  rw[length_append];show _≤_+1;omega
theorem iJ.old {H:Hp}{rs ts:List Rw}{ar:List (Key×V)}(h:iJ H rs ts ar) {t u:Rw}{b:Addr}(hv:bW ar (kM rs t)=some (.ref b)) (hb:H b=some (.tup u.vals)) (hu:u∈ts) (hm:ki rs u=ki rs t) (hl:dY u≤dY t) (hI:∃k,Is rs (bz u t) k):iJ H rs (ts++[t]) ar:=by
 refine⟨h.nd,fun k v hk=>?_,fun t' xM=>?_,by rw[length_append];exact Nat.le_trans h.ln (Nat.le_add_right _ _)⟩
 ·obtain⟨u,c,h1,h2,h3,h4⟩:=h.of k v hk
  exact⟨u,c,h1,h2,h3,mem_append_left _ h4⟩
 ·rcases mem_append.mp xM with z|z
  ·obtain⟨u,c,h1,h2,h3,h4⟩:=h.to t' z
   exact⟨u,c,h1,h2,mem_append_left _ h3,h4⟩
  ·rw[mem_singleton.mp z]
   exact⟨u,b,hv,hb,mem_append_left _ hu,hm,hl,hI⟩
noncomputable def Mnd (m:Nat) (n:Int) (rs:List Rw):Prop:=∀t∈fM n m,∀u∈fM n m,ki rs t=ki rs u→∃k,Is rs (bz t u) k
noncomputable def EM (nM:Addr) (m:Nat) (n:Int) (rs:List Rw) (H:Hp) (E:XK):Prop:=∀(a b d:Addr) (t u:Rw) H',ao H H'→H d=none→H' d=some (.xd [("one",.ref a),("other",.ref b)])→H' a=some (.tup t.vals)→H' b=some (.tup u.vals)→t∈fM n m→u∈fM n m→ki rs t=ki rs u→(∀k,¬Is rs (bz t u) k)→E (.ref nM) (some d) H'
noncomputable def sh (C nM:Addr):Sp:=fun vs H Q E=>∃(x:Addr) (rs ds:List Rw) (m:Nat) (n:Int),vs=[.ref x,.int n]∧Fb H C x m rs∧1≤m∧m≤6∧rs.length≤6∧Fr m rs ds ∧
 (∀p ar H',ao H H'→H p=none→H' p=some (.dK ar)→iJ H' rs (fM n m) ar→Q (.ref p) H')∧EM nM m n rs H E
theorem wg {H:Hp}{m:Nat}{bs:List Addr}{rs:List Rw}{p:Addr}{ar Li:List (Key×V)}(h:bY H m bs rs) (e:H p=some (.dK ar)):bY (upd H p (.dK Li)) m bs rs:=⟨h.l,fun i a ea=>by
 obtain⟨r,h1,h2,h3⟩:=h.g i a ea
 exact⟨r,h1,by rw[av (fun z=>by rw[z,e] at h2;cases h2)];exact h2,h3⟩⟩
section
variable {P:Program}{w:World}{K:Frag}{mg:Str→Option Value}{base:Heap}{C nM cE:Addr}
/- CantMend.__init__: 0:self 1:one 2:other -/
noncomputable abbrev dR:Stmt:=vK (top 11) 0
theorem wj:az ["self","one","other"] ["self","one","other"] (af dR):=⟨rfl,rfl,rfl,by decide +kernel,rfl,by decide +kernel,by decide +kernel⟩
theorem HD (T:gu mg) (GB:dQ K mg "CoinError" cE) (BB:KA K cE) (OK:bE K nM "one") (OL:bE K nM "other") (D:AN K nM "CantMend.__init__" dR ["self","one","other"]):GD P w K mg base 1 nM (zS nM):=by
 have fl:=D.fl
 refine D.ok wj (fun vs H Q E h=>?_) (fun f bf A outer s H vs Q E hq hr h=>?_)
 ·obtain⟨e,a,b,rfl,_⟩:=h;rfl
 obtain⟨e,a,b,rfl,he,k⟩:=h
 refine⟨_,aj (gx (DA rfl GB.m BB hq (aa (pv 0) (aa (pv 1) (aa (pv 2) ai))))) (aj (zu (pv 0) (pv 1)) (ak (zu (pv 0) (pv 2)))),?_⟩
 refine⟨_,rfl,_,rfl,_,rfl,e,none,_,rfl,he,aI (by show 2≤1000;decide),?_⟩
 refine⟨_,rfl,_,rfl,e,nM,rfl,fl,OK,.inl ⟨he,fun d nd II=>?_⟩⟩
 refine⟨_,rfl,_,rfl,e,nM,rfl,fl,OL,.inr ⟨d,[("one",.ref a)],?_,ah,by show 1<1000;decide,?_⟩⟩
 ·rw[av (Ne.symm II),ah]
 ·rw[Fe]
  exact k d nd II
/- Code.table: 0:self 1:many 2:mending 3:turn 4:seen -/
noncomputable abbrev dz:Stmt:=vK (top 41) 4
theorem eZ:az ["self","many","mending","turn","seen"] ["self","many"] (af dz):=⟨rfl,rfl,rfl,by decide +kernel,rfl,by decide +kernel,by decide +kernel⟩
theorem Bd (T:gu mg) (GF:dQ K mg "CantMend" nM) (CF:GD P w K mg base 1 nM (zS nM)) (N1:bE K C "coins") (D:oV K C "table" "Code.table" dz ["self","many"]) (qQ:bR P w K mg base bu 5 "turns_up_to" ["coins","many"] wa) (HE:xV P w K mg base 3 C "marks" (vZ K C)) (qR:xV P w K mg base 7 C "is_harmless" (zR C)) (mQ:bR P w K mg base bu 2 "product" ["one","other"] (gj K)):zE P w K mg base 8 C "table" (sh C nM):=by
 have cl:=D.c
 refine D.RZ eZ (fun vs H Q E h=>?_) (fun f bf A outer s H vs Q E hr h R=>?_)
 ·obtain⟨x,rs,ds,m,n,rfl,_⟩:=h;rfl
 obtain⟨x,rs,ds,m,n,rfl,hc,m1,m6,hl,hF,kR,k⟩:=h
 obtain⟨dx,l,as,ex,el,hR⟩:=hc.ex
 have lb:=dI
 refine⟨_,(aj (aB (i:=2) eZ.nd rfl (Or.inl rfl) vL)
   (aj (ck PassesOwn.leaving rfl (bU K (aC qQ hr.sub (aa (tG K (pv 0)) (aa (pv 1) ai)))) (aH (i:=3) eZ.nd rfl (Or.inl rfl))
    (aj (aB (i:=4) eZ.nd rfl (Or.inl rfl) (zv HE hr.sub (pv 0) (aa (pv 3) ai)))
    (ak (bq (aF (oX hr.eF) (pv 4) (pv 2) rfl)
     (ak (kP (pv 3) (sr (pv 2) (pv 4) (DS hr.eF))))
     (ak (bq (dM (cS (zv qR hr.sub (pv 0) (aa (aC mQ hr.sub (aa (ay (vU hr.eF) (pv 2) (pv 4) (fun _ _=>rfl)) (aa (pv 3) ai))) ai))))
      (ak (AO rfl rfl rfl GF.m CF hr.sub R (aa (ay (vU hr.eF) (pv 2) (pv 4) (fun _ _=>rfl)) (aa (pv 3) ai))))
      aO))))))
   (ak (aD (pv 2))))),?_⟩
 refine fun p np=>?_
 dsimp only [aU]
 have s1:=ao.new (o:=.dK []) np
 have ep:upd H p (.dK []) p=some (.dK []):=ah
 generalize upd H p (.dK [])=H1 at s1 ep ⊢
 refine⟨_,rfl,x,C,dx,_,.int m,rfl,s1 _ _ ex,cl,N1,rfl,_,rfl,m,n,rfl,m1,m6,fun q ts us H2 s2 nq eq hU hp hs=>?_⟩
 have l4:=lU n m
 have p4:4^m≤4^6:=Nat.pow_le_pow_right (by decide) m6
 have Om:(4:Nat)^6=4096:=by decide
 have hul:us.length≤4096:=by rw[hp.length_eq];omega
 refine⟨q,rfl,⟨_,.of eq⟩,d0 (K:=K) (a:=q) (xs:=rV ts) (fun i σ H'=>∃(ar:List (Key×V)) (v3 v4:Option V),σ=[some (.ref x),some (.int n),some (.ref p),v3,v4]∧ao H H'∧H' q=some (.lst (rV ts))∧bY H' m ts us∧H' p=some (.dK ar)∧iJ H' rs (us.take i) ar) ⟨[],_,_,rfl,s1.trans s2,eq,hU,s2 _ _ ep,.nil⟩ (fun i σ H' _ ⟨_,_,_,_,_,h,_⟩=>.of h) ?_ ?_⟩
 ·rintro i y σ H3 hi ⟨ar,v3,v4,rfl,s3,eq3,R3,Jc,hT⟩
  obtain⟨b,hb,rfl⟩:=cy hi
  obtain⟨r,jm,er,fK⟩:=R3.g i b hb
  have QR:us.take (i+1)=us.take i++[r]:=by rw[take_add_one,jm];rfl
  have Ul:r∈fM n m:=hp.mem_iff.mp (mem_of_getElem? jm)
  have hkl:ar.length≤4096:=Nat.le_trans hT.ln (by rw[length_take];omega)
  refine⟨_,rfl,x,dx,_,rfl,s3 _ _ ex,rfl,_,rfl,x,b,rs,r,m,rfl,hc.same s3,cL er,fK,m6,hl,fun H4 s4=>?_⟩
  dsimp only [aU]
  have t4:=s3.trans s4
  have eq4:=s4 _ _ eq3
  have R4:=R3.same s4
  have Ej:=s4 _ _ Jc
  have Um:=hT.same (H':=H4) fun b u h=>s4 _ _ h
  have Hn:=s4 _ _ er
  refine⟨_,rfl,_,rfl,p,ar,kM rs r,rfl,rfl,Ej,_,rfl,?_⟩
  cases hv:bW ar (kM rs r) with
  | none =>
   refine xq ?_
   refine⟨_,rfl,_,rfl,_,rfl,p,ar,kM rs r,rfl,rfl,Ej,by omega,?_⟩
   have kt:∀(c:Addr) (u:Rw),H4 c=some (.tup u.vals)→upd H4 p (.dK (putK ar (kM rs r) (.ref b))) c=some (.tup u.vals):=fun c u h=>by rw[av (fun z=>by rw[z,Ej] at h;cases h)];exact h
   refine⟨putK ar (kM rs r) (.ref b),_,_,rfl,t4.upd np,by rw[av (fun z=>by rw[z,Ej] at eq4;cases eq4)];exact eq4,wg R4 Ej,ah,?_⟩
   rw[QR]
   exact(Um.new hv Hn).same kt
  | some v =>
   refine fW ?_
   obtain⟨u,c,hk,rfl,ec,hu⟩:=Um.of _ _ hv
   have hm:ki rs u=ki rs r:=(Ei hk).symm
   obtain⟨j,hj,hju⟩:=List.mem_take_iff_getElem.mp hu
   have QQ:j<us.length:=by omega
   have huj:us[j]?=some u:=by rw[getElem?_eq_getElem QQ,hju]
   have QT:u∈fM n m:=hp.mem_iff.mp (mem_of_getElem? huj)
   have uO:u.ok m:=⟨.inl ((eX _ m m6 u).mp QT).1.1,((eX _ m m6 u).mp QT).1.2.1,((eX _ m m6 u).mp QT).1.2.2⟩
   have NV:dY u≤dY r:=by
    obtain⟨y2,z2⟩:=List.getElem?_eq_some_iff.mp jm
    have:=List.pairwise_iff_getElem.mp hs j i QQ y2 (by omega)
    rw[hju,z2] at this
    exact this
   refine⟨_,rfl,x,dx,_,rfl,t4 _ _ ex,rfl,_,rfl,_,rfl,p,ar,kM rs r,.ref c,rfl,rfl,Ej,hv,_,rfl,c,b,u,r,m,rfl,cL ec,cL Hn,m6,uO,fK,fun g H5 s5 ng eg=>?_⟩
   have t5:=t4.trans s5
   refine⟨x,g,rs,ds,bz u r,m,rfl,hc.same t5,eg,oH uO fK,m6,hl,hF,fun hn H6 s6=>⟨_,rfl,fW ?_⟩,fun hn H6 s6=>⟨_,rfl,xq ?_⟩⟩
   ·have Fc:=s5.trans s6
    refine⟨ar,_,_,rfl,t4.trans Fc,Fc _ _ eq4,R4.same Fc,Fc _ _ Ej,?_⟩
    rw[QR]
    exact((Um.old hv ec hu hm NV hn).same fun b u h=>Fc _ _ h)
   ·have Fc:=s5.trans s6
    have t6:=t4.trans Fc
    refine⟨_,rfl,_,rfl,p,ar,kM rs r,.ref c,rfl,rfl,Fc _ _ Ej,hv,_,rfl,aI (by show 2≤1000;decide),fun e ne=>⟨e,c,b,rfl,ah,fun d nd II=>?_⟩⟩
    obtain⟨f1,f2,f3,f4⟩:=NN (o2:=iS e (.ref nM) (some d)) (o3:=.xd [("one",.ref c),("other",.ref b)]) (ao.refl H6) ne nd II
    exact⟨rfl,some d,f1,k c b d u r _ (t6.trans f2) (t6.free f3) f4 (f2 _ _ (Fc _ _ ec)) (f2 _ _ (Fc _ _ Hn)) QT Ul hm hn⟩
 ·rintro σ H3 ⟨ar,v3,v4,rfl,s3,eq3,R3,Jc,hT⟩
  rw[rV,length_map,hU.l,take_length] at hT
  exact⟨_,rfl,kR p ar H3 s3 np Jc (hT.perm hp)⟩
end
end iE
set_option maxHeartbeats 4000000
namespace iE
open PySem L2 TC
structure Oth (K:Frag) (n c0 c1 c2 c3 c4 c5 c6 c7 c8 c9 Ek HF:Addr) (b0 b1 b2 b3 b4 b5 b6 b7 b8 b9 QU QV:Bool):Prop where
 c:lJ K n
 self:PySem.W.subIn K (.ref n) (.ref n)=some true
 o0:PySem.W.subIn K (.ref n) (.ref c0)=some b0
 o1:PySem.W.subIn K (.ref n) (.ref c1)=some b1
 o2:PySem.W.subIn K (.ref n) (.ref c2)=some b2
 o3:PySem.W.subIn K (.ref n) (.ref c3)=some b3
 o4:PySem.W.subIn K (.ref n) (.ref c4)=some b4
 o5:PySem.W.subIn K (.ref n) (.ref c5)=some b5
 o6:PySem.W.subIn K (.ref n) (.ref c6)=some b6
 o7:PySem.W.subIn K (.ref n) (.ref c7)=some b7
 o8:PySem.W.subIn K (.ref n) (.ref c8)=some b8
 o9:PySem.W.subIn K (.ref n) (.ref c9)=some b9
 o10:PySem.W.subIn K (.ref n) (.ref Ek)=some QU
 o11:PySem.W.subIn K (.ref n) (.ref HF)=some QV
noncomputable def El (n:Addr) (bs:List Bool):Sp:=fun vs H Q _=>∃(e:Addr) (od:Option Addr),vs=[.ref e]∧H e=some (kB e (.ref n) od)∧∀q H',ao H H'→H' q=some (.lst (bs.map V.bl))→Q (.ref q) H'
section
variable {P:Program}{w:World}{K:Frag}{mg:Str→Option Value}{base:Heap}{n c0 c1 c2 c3 c4 c5 c6 c7 c8 c9 Ek HF:Addr}{b0 b1 b2 b3 b4 b5 b6 b7 b8 b9 QU QV:Bool}
/- _law_others: 0:_law_error 1:_law_found -/
noncomputable abbrev dA:Stmt:=top 54
theorem e7:az ["_law_error","_law_found"] ["_law_error"] (af dA):=⟨rfl,rfl,rfl,by decide +kernel,rfl,by decide +kernel,by decide +kernel⟩
theorem Ll (T:gu mg) (G0:dQ K mg "NoList" c0) (G1:dQ K mg "NoGate" c1) (G2:dQ K mg "NoLook" c2) (G3:dQ K mg "NotFree" c3) (G4:dQ K mg "NoRows" c4) (G5:dQ K mg "NoShort" c5) (G6:dQ K mg "NoTable" c6) (G7:dQ K mg "NoCode" c7) (G8:dQ K mg "CantMend" c8) (G9:dQ K mg "NoText" c9) (G10:dQ K mg "NoName" Ek) (G11:dQ K mg "NoLine" HF)
  (O:Oth K n c0 c1 c2 c3 c4 c5 c6 c7 c8 c9 Ek HF b0 b1 b2 b3 b4 b5 b6 b7 b8 b9 QU QV) (D:Def K mg "_law_others" dA ["_law_error"]):bR P w K mg base bu 1 "_law_others" ["_law_error"] (El n [b0,b1,b2,b3,b4,b5,b6,b7,b8,b9,QU,QV]):=by
 refine D.ok e7 (fun vs H Q E h=>?_) (fun f bf A outer s H vs Q E hr h=>?_)
 ·obtain⟨e,od,rfl,_⟩:=h;rfl
 obtain⟨e,od,rfl,ee,k⟩:=h
 have ks:=O.self
 have lb:(1000:Nat)≤sizeLine:=aI (by decide)
 have ty:∀{H'},ao H H'→M6 K H' (.ref e) (.ref n):=fun s'=>.exc (s' _ _ ee) O.c
 refine⟨_,(aj (aB (i:=1) e7.nd rfl (Or.inl rfl) (dN (aa (aK (aV K) (by rfl) T.aJ aG (aa (pv 0) (aa (hW G0.m) ai))) (aa (aK (aV K) (by rfl) T.aJ aG (aa (pv 0) (aa (hW G1.m) ai))) (aa (aK (aV K) (by rfl) T.aJ aG (aa (pv 0) (aa (hW G2.m) ai))) ai)))))
   (aj (aB (i:=1) e7.nd rfl (Or.inl rfl) (aq mE (pv 1) (dN (aa (aK (aV K) (by rfl) T.aJ aG (aa (pv 0) (aa (hW G3.m) ai))) (aa (aK (aV K) (by rfl) T.aJ aG (aa (pv 0) (aa (hW G4.m) ai))) (aa (aK (aV K) (by rfl) T.aJ aG (aa (pv 0) (aa (hW G5.m) ai))) ai))))))
   (aj (aB (i:=1) e7.nd rfl (Or.inl rfl) (aq mE (pv 1) (dN (aa (aK (aV K) (by rfl) T.aJ aG (aa (pv 0) (aa (hW G6.m) ai))) (aa (aK (aV K) (by rfl) T.aJ aG (aa (pv 0) (aa (hW G7.m) ai))) (aa (aK (aV K) (by rfl) T.aJ aG (aa (pv 0) (aa (hW G8.m) ai))) ai))))))
   (ak (aD (aq mE (pv 1) (dN (aa (aK (aV K) (by rfl) T.aJ aG (aa (pv 0) (aa (hW G9.m) ai))) (aa (aK (aV K) (by rfl) T.aJ aG (aa (pv 0) (aa (hW G10.m) ai))) (aa (aK (aV K) (by rfl) T.aJ aG (aa (pv 0) (aa (hW G11.m) ai))) ai)))))))))),?_⟩
 refine⟨_,rfl,_,_,_,_,_,rfl,rfl,ty (.refl H),eE ks G0.cl O.o0,_,rfl,_,_,_,_,_,rfl,rfl,ty (.refl H),eE ks G1.cl O.o1,_,rfl,_,_,_,_,_,rfl,rfl,ty (.refl H),eE ks G2.cl O.o2,aI (by show 3≤1000;decide),fun u1 n1=>?_⟩
 have s1:=ao.new (o:=.lst [V.bl b0,.bl b1,.bl b2]) n1
 have e1:upd H u1 (.lst [V.bl b0,.bl b1,.bl b2]) u1=some (.lst [V.bl b0,.bl b1,.bl b2]):=ah
 dsimp only [aU]
 generalize upd H u1 (.lst [V.bl b0,.bl b1,.bl b2])=H1 at s1 e1 ⊢
 refine⟨_,rfl,_,rfl,_,_,_,_,_,rfl,rfl,ty s1,eE ks G3.cl O.o3,_,rfl,_,_,_,_,_,rfl,rfl,ty s1,eE ks G4.cl O.o4,_,rfl,_,_,_,_,_,rfl,rfl,ty s1,eE ks G5.cl O.o5,aI (by show 3≤1000;decide),fun v1 m1=>?_⟩
 refine⟨u1,v1,_,_,rfl,rfl,ao.new m1 _ _ e1,ah,by show 3+3≤_;omega,fun u2 n2=>?_⟩
 have s2:=(s1.trans (ao.new m1)).trans (ao.new (o:=.lst ([V.bl b0,.bl b1,.bl b2]++[V.bl b3,.bl b4,.bl b5])) n2)
 have e2:=ah (H:=upd H1 v1 (.lst [V.bl b3,.bl b4,.bl b5])) (a:=u2) (o:=.lst ([V.bl b0,.bl b1,.bl b2]++[V.bl b3,.bl b4,.bl b5]))
 dsimp only [aU]
 generalize upd (upd H1 v1 (.lst [V.bl b3,.bl b4,.bl b5])) u2 (.lst ([V.bl b0,.bl b1,.bl b2]++[V.bl b3,.bl b4,.bl b5]))=H2 at s2 e2 ⊢
 refine⟨_,rfl,_,rfl,_,_,_,_,_,rfl,rfl,ty s2,eE ks G6.cl O.o6,_,rfl,_,_,_,_,_,rfl,rfl,ty s2,eE ks G7.cl O.o7,_,rfl,_,_,_,_,_,rfl,rfl,ty s2,eE ks G8.cl O.o8,aI (by show 3≤1000;decide),fun v2 m2=>?_⟩
 refine⟨u2,v2,_,_,rfl,rfl,ao.new m2 _ _ e2,ah,by show 6+3≤_;omega,fun u3 n3=>?_⟩
 have s3:=(s2.trans (ao.new m2)).trans (ao.new (o:=.lst (([V.bl b0,.bl b1,.bl b2]++[V.bl b3,.bl b4,.bl b5])++[V.bl b6,.bl b7,.bl b8])) n3)
 have e3:=ah (H:=upd H2 v2 (.lst [V.bl b6,.bl b7,.bl b8])) (a:=u3) (o:=.lst (([V.bl b0,.bl b1,.bl b2]++[V.bl b3,.bl b4,.bl b5])++[V.bl b6,.bl b7,.bl b8]))
 dsimp only [aU]
 generalize upd (upd H2 v2 (.lst [V.bl b6,.bl b7,.bl b8])) u3 (.lst (([V.bl b0,.bl b1,.bl b2]++[V.bl b3,.bl b4,.bl b5])++[V.bl b6,.bl b7,.bl b8]))=H3 at s3 e3 ⊢
 refine⟨_,rfl,_,rfl,_,_,_,_,_,rfl,rfl,ty s3,eE ks G9.cl O.o9,_,rfl,_,_,_,_,_,rfl,rfl,ty s3,eE ks G10.cl O.o10,_,rfl,_,_,_,_,_,rfl,rfl,ty s3,eE ks G11.cl O.o11,aI (by show 3≤1000;decide),fun v3 m3=>?_⟩
 refine⟨u3,v3,_,_,rfl,rfl,ao.new m3 _ _ e3,ah,by show 9+3≤_;omega,fun u4 n4=>?_⟩
 exact k u4 _ ((s3.trans (ao.new m3)).trans (ao.new n4)) ah
end
theorem Lm {rs:List Rw}{ps:List (Nat×Nat)}(hP:∀t,(∃n,Is rs t n)↔xz t∈ps) (t:Rw):(bW (qw ps) (tX (xz t))).isSome=true↔∃n,Is rs t n:=by rw[Hu,hP]
noncomputable def zT (C nM:Addr):Sp:=fun vs H Q _=>∃(x:Addr) (rs ds:List Rw) (m:Nat) (n:Int),vs=[.ref x,.int n]∧Fb H C x m rs∧1≤m∧m≤6∧rs.length≤6∧Fr m rs ds ∧
 (∀q p ar H',ao H H'→H p=none→H' q=some (.tup [.ref p,.cK])→H' p=some (.dK ar)→iJ H' rs (fM n m) ar→Q (.ref q) H') ∧
 (∀q e a b d t u H',ao H H'→H' q=some (.tup [.cK,.ref e])→H' e=some (kB e (.ref nM) (some d))→H' d=some (.xd [("one",.ref a),("other",.ref b)])→H' a=some (.tup t.vals)→H' b=some (.tup u.vals)→t∈fM n m→u∈fM n m→ki rs t=ki rs u→(∀k,¬Is rs (bz t u) k)→Q (.ref q) H')
noncomputable def tZ (K:Frag):Sp:=fun vs H Q _=>∃(a d t1 t2:Addr) (as:List Addr) (rs:List Rw) (ps:List (Nat×Nat)) (r u:Rw) (m:Nat),vs=[.ref a,.ref d,.ref t1,.ref t2]∧cC K H a (rV as)∧bY H m as rs∧H d=some (.dT (qw ps))∧(∀t,(∃n,Is rs t n)↔xz t∈ps)∧H t1=some (.tup r.vals)∧H t2=some (.tup u.vals)∧r.ok m∧u.ok m∧m≤6∧rs.length≤6∧ki rs r=ki rs u∧((∃k,Is rs (bz r u) k)→∀H',ao H H'→Q (.bl true) H')∧((∀k,¬Is rs (bz r u) k)→∀H',ao H H'→Q (.bl false) H')
noncomputable def zU (K:Frag) (nM:Addr):Sp:=fun vs H Q _=>∃(e a b d l dd:Addr) (as:List Addr) (rs:List Rw) (ps:List (Nat×Nat)) (t u:Rw) (m:Nat) (n:Int),vs=[.ref e,.ref l,.ref dd,.int m,.int n]∧H e=some (kB e (.ref nM) (some d))∧H d=some (.xd [("one",.ref a),("other",.ref b)])∧H a=some (.tup t.vals)∧H b=some (.tup u.vals)∧t∈fM n m∧u∈fM n m∧ki rs t=ki rs u∧(∀k,¬Is rs (bz t u) k)∧cC K H l (rV as)∧bY H m as rs∧H dd=some (.dT (qw ps))∧(∀t,(∃n,Is rs t n)↔xz t∈ps)∧m≤6∧0≤n∧rs.length≤6∧∀H',ao H H'→Q (.bl true) H'
section
variable {P:Program}{w:World}{K:Frag}{mg:Str→Option Value}{base:Heap}{C nM cE:Addr}{c0 c1 c2 c3 c4 c5 c6 c7 c9 Ek HF:Addr}
/- _law_told: 0:_law_code 1:_law_many 2:_law_error 3:_law_found 4:e -/
noncomputable abbrev eJ:Stmt:=top 56
theorem dX:az ["_law_code","_law_many","_law_error","_law_found","e"] ["_law_code","_law_many"] (af eJ):=⟨rfl,rfl,rfl,by decide +kernel,rfl,by decide +kernel,by decide +kernel⟩
theorem HG (T:gu mg) (GE:dQ K mg "CoinError" cE) (cb:PySem.W.subIn K (.ref cE) (.type "BaseException")=some true) (eM:PySem.W.subIn K (.ref nM) (.ref cE)=some true)
  (D:Def K mg "_law_told" eJ ["_law_code","_law_many"]) (Em:zE P w K mg base 8 C "table" (sh C nM)):bR P w K mg base bu 9 "_law_told" ["_law_code","_law_many"] (zT C nM):=by
 refine D.ok dX (fun vs H Q E h=>?_) (fun f bf A outer s H vs Q E hr h=>?_)
 ·obtain⟨x,rs,ds,m,n,rfl,_⟩:=h;rfl
 obtain⟨x,rs,ds,m,n,rfl,hc,m1,m6,hl,hF,k1,k2⟩:=h
 obtain⟨dx,l,as,ex,el,hR⟩:=hc.ex
 refine⟨_,(aj (aB (i:=2) dX.nd rfl (Or.inl rfl) mz)
   (aj (aB (i:=3) dX.nd rfl (Or.inl rfl) mz)
   (aj (JU (i:=4) rfl ⟨rfl,rfl⟩ dX.nd rfl rfl rfl GE.m (fun pn xe E R=>(ak (aB (i:=3) dX.nd rfl (Or.inl rfl) (DQ Em hr.sub R (pv 0) (aa (pv 1) ai)))))
    (fun e=>(ak (aB (i:=2) dX.nd rfl (Or.inl rfl) (pv 4)))))
   (ak (aD (aS (aa (pv 3) (aa (pv 2) ai)))))))),?_⟩
 refine⟨_,rfl,x,dx,_,rfl,ex,rfl,_,rfl,x,rs,ds,m,n,rfl,hc,m1,m6,hl,hF,fun p ar H1 s1 np ep hT=>?_,fun a b d t u H1 s1 nd ed ea eb ht hu hm hn=>⟨Ka cb GE.cl eM,fun e ne=>?_⟩⟩
 ·refine⟨_,rfl,_,rfl,aI (by show 2≤1000;decide),fun q nq=>?_⟩
  have s2:=ao.new (o:=.tup [.ref p,.cK]) nq
  exact k1 q p ar _ (s1.trans s2) np ah (s2 _ _ ep) (hT.same fun b u h=>s2 _ _ h)
 ·have s2:=ao.new (o:=kB e (.ref nM) (some d)) ne
  have ee:upd H1 e (kB e (.ref nM) (some d)) e=some (kB e (.ref nM) (some d)):=ah
  have ed:=s2 _ _ ed
  have ea:=s2 _ _ ea
  have eb:=s2 _ _ eb
  have t2:=s1.trans s2
  generalize upd H1 e (kB e (.ref nM) (some d))=H2 at s2 ee ed ea eb t2 ⊢
  refine⟨_,rfl,?_⟩
  refine⟨_,rfl,_,rfl,aI (by show 2≤1000;decide),fun q nq=>?_⟩
  have s3:=ao.new (o:=.tup [.cK,.ref e]) nq
  exact k2 q e a b d t u _ (t2.trans s3) ah (s3 _ _ ee) (s3 _ _ ed) (s3 _ _ ea) (s3 _ _ eb) ht hu hm hn
/- _law_both: 0:_law_checks_here 1:_law_made_here 2:_law_one 3:_law_other -/
noncomputable abbrev eK:Stmt:=top 57
theorem wk:az ["_law_checks_here","_law_made_here","_law_one","_law_other"] ["_law_checks_here","_law_made_here","_law_one","_law_other"] (af eK):=⟨rfl,rfl,rfl,by decide +kernel,rfl,by decide +kernel,by decide +kernel⟩
theorem HH (T:gu mg) (D:Def K mg "_law_both" eK ["_law_checks_here","_law_made_here","_law_one","_law_other"]) (bX:bR P w K mg base bu 2 "_law_marks_of" ["_law_checks_here","_law_turn"] (kl K)):bR P w K mg base bu 3 "_law_both" ["_law_checks_here","_law_made_here","_law_one","_law_other"] (tZ K):=by
 refine D.ok wk (fun vs H Q E h=>?_) (fun f bf A outer s H vs Q E hr h=>?_)
 ·obtain⟨a,d,t1,t2,as,rs,ps,r,u,m,rfl,_⟩:=h;rfl
 obtain⟨a,d,t1,t2,as,rs,ps,r,u,m,rfl,hS,hR,ed,hP,e1,e2,fK,uO,m6,hl,hm,k1,k2⟩:=h
 refine⟨_,(aj (bq (aF i8 (aC bX hr.sub (aa (pv 0) (aa (pv 2) ai))) (aC bX hr.sub (aa (pv 0) (aa (pv 3) ai))) (aM _))
    (ak (aD fg))
    aO)
   (ak (aD (iw (Ku hr.eF) (aS (aa (aq bI (ay (au K) (pv 2) ae (fun _ _=>rfl)) (ay (au K) (pv 3) ae (fun _ _=>rfl))) (aa (aq bI (ay (au K) (pv 2) ae (fun _ _=>rfl)) (ay (au K) (pv 3) ae (fun _ _=>rfl))) ai))) (pv 1) rfl)))),?_⟩
 refine⟨_,rfl,_,rfl,a,t1,as,rs,r,m,rfl,hS,hR,cL e1,fK,m6,hl,fun H1 s1=>?_⟩
 refine⟨_,rfl,_,rfl,a,t2,as,rs,u,m,rfl,s1.seq hS,hR.same s1,cL (s1 _ _ e2),uO,m6,hl,fun H2 s2=>?_⟩
 have Uo:=s1.trans s2
 have e1:=Uo _ _ e1
 have e2:=Uo _ _ e2
 rw[hm]
 refine⟨rfl,_,rfl,bV (by rw[decide_eq_true rfl];rfl) ?_⟩
 refine⟨_,rfl,t1,_,_,_,rfl,rfl,cL e1,rfl,_,rfl,t2,_,_,_,rfl,rfl,cL e2,rfl,_,_,rfl,rfl,_,rfl,t1,_,_,_,rfl,rfl,cL e1,rfl,_,rfl,t2,_,_,_,rfl,rfl,cL e2,rfl,_,_,rfl,rfl,aI (by show 2≤1000;decide),fun g ng=>?_⟩
 have v3:=ao.new (o:=.tup [V.int (Builtin.bitXor (r.x:Int) (u.x:Int)),V.int (Builtin.bitXor (r.z:Int) (u.z:Int))]) ng
 have eg:upd H2 g (.tup [V.int (Builtin.bitXor (r.x:Int) (u.x:Int)),V.int (Builtin.bitXor (r.z:Int) (u.z:Int))]) g=some (.tup ((tX (xz (bz r u))).map kV)):=by rw[ah,QO,QO];rfl
 have t3:=Uo.trans v3
 generalize upd H2 g (.tup [V.int (Builtin.bitXor (r.x:Int) (u.x:Int)),V.int (Builtin.bitXor (r.z:Int) (u.z:Int))])=H3 at eg v3 t3 ⊢
 refine⟨_,rfl,d,g,qw ps,tX (xz (bz r u)),rfl,rfl,t3 _ _ ed,eg,?_⟩
 have hb:=Lm hP (bz r u)
 cases h:(bW (qw ps) (tX (xz (bz r u)))).isSome with
 | true=>exact k1 (hb.mp h) _ t3
 | false=>exact k2 (fun n hn=>by rw[hb.mpr ⟨n,hn⟩] at h;cases h) _ t3
/- _law_cant: 0:_law_error 1:_law_checks_here 2:_law_made_here 3:_law_coins 4:_law_many 5:_law_turn -/
noncomputable abbrev eN:Stmt:=top 59
theorem nE:az ["_law_error","_law_checks_here","_law_made_here","_law_coins","_law_many","_law_turn"] ["_law_error","_law_checks_here","_law_made_here","_law_coins","_law_many"] (af eN):=⟨rfl,rfl,rfl,by decide +kernel,rfl,by decide +kernel,by decide +kernel⟩
theorem HI (T:gu mg) (vM:PySem.W.subIn K (.ref nM) (.type "ValueError")=some true) (xi:AN K nM "CantMend.__init__" dR ["self","one","other"]) (OK:bE K nM "one") (OL:bE K nM "other") (G8:dQ K mg "CantMend" nM)
  (D:Def K mg "_law_cant" eN ["_law_error","_law_checks_here","_law_made_here","_law_coins","_law_many"]) (ua:bR P w K mg base bu 1 "_law_others" ["_law_error"] (El nM [false,false,false,false,false,false,false,false,true,false,false,false])) (gI:bR P w K mg base bu 1 "_law_is_turn" ["_law_turn","_law_coins"] (mU K)) (cP:bR P w K mg base bu 1 "_law_letters" ["_law_turn"] (n5 K)) (bX:bR P w K mg base bu 2 "_law_marks_of" ["_law_checks_here","_law_turn"] (kl K)) (lp:bR P w K mg base bu 3 "_law_both" ["_law_checks_here","_law_made_here","_law_one","_law_other"] (tZ K)):bR P w K mg base bu 4 "_law_cant" ["_law_error","_law_checks_here","_law_made_here","_law_coins","_law_many"] (zU K nM):=by
 refine D.ok nE (fun vs H Q E h=>?_) (fun f bf A outer s H vs Q E hr h=>?_)
 ·obtain⟨e,a,b,d,l,dd,as,rs,ps,t,u,m,n,rfl,_⟩:=h;rfl
 obtain⟨e,a,b,d,l,dd,as,rs,ps,t,u,m,n,rfl,ee,ed,ea,eb,ht,hu,hm,hn,hS,hR,edd,hP,m6,n0,hl,k⟩:=h
 have ks:=xi.self
 have hh:=xi.fl.hd
 have tm:=(eX _ m m6 t).mp ht
 have um:=(eX _ m m6 u).mp hu
 have tok:t.ok m:=⟨.inl tm.1.1,tm.1.2.1,tm.1.2.2⟩
 have uO:u.ok m:=⟨.inl um.1.1,um.1.2.1,um.1.2.2⟩
 have vn:∀r:Rw,((r.x=0∧r.z=0)∨(dY r:Int)≤n)→¬(dY r:Int) > n:=fun r z=>by
  rcases z with⟨z1,z2⟩|z
  ·have e0:dY r=0:=by unfold dY;rw[z1,z2];rfl
   rw[e0];omega
  ·omega
 have ty:M6 K H (.ref e) (.ref nM):=.exc ee xi.c
 refine⟨_,(aj (bq (PW.pt (pw_or (dM (cS (aK (aV K) (by rfl) T.aJ aG (aa (pv 0) (aa (hW G8.m) ai))))) (pw_or (dM (cS (aK (aV K) (by rfl) T.aJ aG (aa (pv 0) (aa (rB T.sP qD) ai))))) (pw_or1 (aF i8 (B4 PySem.F.plainAttrs_list PySem.F.slot_list_count PySem.F.type_list_count Dl (aC ua hr.sub (aa (pv 0) ai)) (aa fg ai)) ae (aM _))))))
    (ak (aD fg))
    aO)
   (aj (ck PassesOwn.never rfl (bU K (dN (aa (j9 (pv 0)) (aa (j9 (pv 0)) ai)))) (aH (i:=5) nE.nd rfl (Or.inl rfl))
    (ak (bq (PW.pt (pw_or (dM (cS (aC gI hr.sub (aa (pv 5) (aa (pv 3) ai))))) (pw_or1 (aF qY (aC cP hr.sub (aa (pv 5) ai)) (pv 4) (aM _)))))
     (ak (aD fg))
     aO)))
   (aj (bq (aF i8 (aC bX hr.sub (aa (pv 1) (aa (j9 (pv 0)) ai))) (aC bX hr.sub (aa (pv 1) (aa (j9 (pv 0)) ai))) (aM _))
    (ak (aD fg))
    aO)
   (ak (aD (Jo (aC lp hr.sub (aa (pv 1) (aa (pv 2) (aa (j9 (pv 0)) (aa (j9 (pv 0)) ai))))))))))),?_⟩
 refine⟨_,rfl,_,_,_,_,_,rfl,rfl,ty,eE ks G8.cl ks,_,rfl,fW ?_⟩
 refine⟨_,rfl,_,_,_,_,_,rfl,rfl,ty,J9 rfl vM,_,rfl,fW ?_⟩
 refine⟨_,rfl,e,some d,rfl,ee,fun q H1 s1 eq=>?_⟩
 refine⟨.inl ⟨rfl,_,.of eq⟩,q,_,rfl,rfl,eq,rfl,_,rfl,bV (by rfl) ?_⟩
 have ee:=s1 _ _ ee
 have ed:=s1 _ _ ed
 refine⟨_,rfl,e,nM,d,_,.ref a,rfl,ee,ed,xi.c,hh,OK,rfl,_,rfl,e,nM,d,_,.ref b,rfl,ee,ed,xi.c,hh,OL,rfl,aI (by show 2≤1000;decide),fun z nz=>?_⟩
 have s2:=ao.new (o:=.lst [V.ref a,V.ref b]) nz
 have ez:upd H1 z (.lst [V.ref a,V.ref b]) z=some (.lst (rV [a,b])):=ah
 have t2:=s1.trans s2
 have ee:=s2 _ _ ee
 have ed:=s2 _ _ ed
 generalize upd H1 z (.lst [V.ref a,V.ref b])=H2 at ez s2 t2 ee ed ⊢
 have KO:=t2 _ _ ea
 have DK:=t2 _ _ eb
 refine⟨z,rfl,⟨_,.of ez⟩,d0 (K:=K) (a:=z) (xs:=rV [a,b]) (fun i σ H'=>∃v5,σ=[some (.ref e),some (.ref l),some (.ref dd),some (.int m),some (.int n),v5]∧ao H2 H') ⟨_,rfl,.refl H2⟩ (fun i σ H' _ ⟨_,_,s'⟩=>.of (s' _ _ ez)) ?_ ?_⟩
 ·rintro i y σ H3 hi ⟨v5,rfl,s3⟩
  obtain⟨c,hc,rfl⟩:=cy hi
  obtain⟨r,er,fK,r1,rl⟩:∃r:Rw,H3 c=some (.tup r.vals)∧r.ok m∧r.sg=1∧¬(dY r:Int) > n:=by
   match i,hc with
   | 0,hc=>cases hc;exact⟨t,s3 _ _ KO,tok,tm.1.1,vn t tm.2⟩
   | 1,hc=>cases hc;exact⟨u,s3 _ _ DK,uO,um.1.1,vn u um.2⟩
   | i+2,hc=>cases hc
  refine⟨_,rfl,_,rfl,c,r,m,rfl,er,m6,r1,fK,fun H4 s4=>⟨_,rfl,fW ?_⟩⟩
  refine⟨_,rfl,c,r,m,rfl,cL (s4 _ _ er),m6,fK,fun H5 s5=>?_⟩
  refine⟨_,rfl,_,_,rfl,rfl,_,rfl,nt rl ?_⟩
  exact⟨_,rfl,(s3.trans s4).trans s5⟩
 ·rintro σ H3 ⟨v5,rfl,s3⟩
  have t3:=t2.trans s3
  have ee:=s3 _ _ ee
  have ed:=s3 _ _ ed
  refine⟨_,rfl,_,rfl,e,nM,d,_,.ref a,rfl,ee,ed,xi.c,hh,OK,rfl,l,a,as,rs,t,m,rfl,t3.seq hS,hR.same t3,cL (t3 _ _ ea),tok,m6,hl,fun H4 s4=>?_⟩
  have t4:=t3.trans s4
  have ee:=s4 _ _ ee
  have ed:=s4 _ _ ed
  refine⟨_,rfl,_,rfl,e,nM,d,_,.ref b,rfl,ee,ed,xi.c,hh,OL,rfl,l,b,as,rs,u,m,rfl,t4.seq hS,hR.same t4,cL (t4 _ _ eb),uO,m6,hl,fun H5 s5=>?_⟩
  have t5:=t4.trans s5
  have ee:=s5 _ _ ee
  have ed:=s5 _ _ ed
  rw[hm]
  refine⟨rfl,_,rfl,bV (by rw[decide_eq_true rfl];rfl) ?_⟩
  refine⟨_,rfl,_,rfl,_,rfl,e,nM,d,_,.ref a,rfl,ee,ed,xi.c,hh,OK,rfl,_,rfl,e,nM,d,_,.ref b,rfl,ee,ed,xi.c,hh,OL,rfl,l,dd,a,b,as,rs,ps,t,u,m,rfl,t5.seq hS,hR.same t5,t5 _ _ edd,hP,t5 _ _ ea,t5 _ _ eb,tok,uO,m6,hl,hm,fun hy=>?_,fun _ H6 s6=>?_⟩
  ·obtain⟨j,hj⟩:=hy
   exact absurd hj (hn j)
  ·exact⟨_,rfl,k H6 (t5.trans s6)⟩
end
end iE
set_option maxHeartbeats 4000000
namespace iE
open PySem L2 TC
theorem HJ:bootBuiltins "dict"=some (.type "dict"):=by decide +kernel
theorem Uq (K:Frag):PySem.W.kitOne K (.type "dict") (.type "dict")=some true:=rfl
theorem km {κ:Type}[DecidableEq κ]:∀{ar:List (κ×V)}{i:Nat}{kv:κ×V},(ar.map (·.1)).Nodup→ar[i]?=some kv→bW ar kv.1=some kv.2
 | [],i,kv,_,h=>by cases h
 | p::r,0,kv,_,h=>by cases h;exact cN rfl
 | p::r,i+1,kv,hn,h=>by
  have hn:(p.1::r.map (·.1)).Nodup:=hn
  obtain⟨h1,h2⟩:=List.nodup_cons.mp hn
  have h:r[i]?=some kv:=h
  rw[cO (fun e=>h1 (by rw[e];exact List.mem_map.mpr ⟨kv,mem_of_getElem? h,rfl⟩))]
  exact km h2 h
theorem Ln {κ:Type}[DecidableEq κ] {ar:List (κ×V)}{k:κ}(v:V) (hn:(ar.map (·.1)).Nodup):((putK ar k v).map (·.1)).Nodup:=by
 cases h:bW ar k with
 | none=>exact zH v hn h
 | some x =>
  unfold putK
  rw[if_pos (by rw[d6,h];rfl),List.map_map]
  have e:((fun x:κ×V=>x.1) ∘ fun kv:κ×V=>if kv.1=k then (kv.1,v) else kv)=fun x=>x.1:=by
   funext kv
   show (if kv.1=k then (kv.1,v) else kv).1=kv.1
   split<;>rfl
  rw[e];exact hn
structure wm (rs ts:List Rw) (ar:List (Key×V)):Prop where
 nd:(ar.map (·.1)).Nodup
 of:∀k v,bW ar k=some v→∃t∈ts,k=kM rs t∧v = .int ((dY t:Nat):Int)∧∀t'∈ts,ki rs t'=ki rs t→dY t≤dY t'
 to:∀t∈ts,(bW ar (kM rs t)).isSome=true
 ln:ar.length≤ts.length
theorem wm.nil {rs:List Rw}:wm rs [] []:=⟨List.nodup_nil,fun k v h=>(nomatch h),fun t h=>(nomatch h),Nat.le_refl 0⟩
theorem En {rs:List Rw}{t u:Rw}(h:ki rs t=ki rs u):kM rs t=kM rs u:=by show (Sum.inl ((ki rs t:Nat):Int):Key)=_;rw[h]
theorem wm.step {rs ts:List Rw}{ar:List (Key×V)}(h:wm rs ts ar) {t:Rw}(h6:dY t≤6):∃o:Int,(bW ar (kM rs t)).getD (.int 6) = .int o∧wm rs (ts++[t]) (putK ar (kM rs t) (.int (if ((dY t:Nat):Int)<o then ((dY t:Nat):Int) else o))):=by
 have main:∀(o:Int) (b:Rw),b∈ts++[t]→ki rs b=ki rs t→(if ((dY t:Nat):Int)<o then ((dY t:Nat):Int) else o)=((dY b:Nat):Int)→(∀t'∈ts++[t],ki rs t'=ki rs b→dY b≤dY t')→wm rs (ts++[t]) (putK ar (kM rs t) (.int (if ((dY t:Nat):Int)<o then ((dY t:Nat):Int) else o))):=by
  intro o b hb hm hv Lo
  refine⟨Ln _ h.nd,fun k v hk=>?_,fun t' xM=>?_,?_⟩
  ·rw[ji] at hk
   split at hk
   ·rename_i e
    cases hk
    exact⟨b,hb,e.trans (En hm.symm),by rw[hv],Lo⟩
   ·rename_i e
    obtain⟨u,hu,h1,h2,h3⟩:=h.of k v hk
    refine⟨u,mem_append_left _ hu,h1,h2,fun t' xM yS=>?_⟩
    rcases mem_append.mp xM with z|z
    ·exact h3 t' z yS
    ·rw[mem_singleton.mp z] at yS
     exact absurd (h1.trans (En yS.symm)) e
  ·rw[ji]
   split
   ·rfl
   ·rename_i e
    rcases mem_append.mp xM with z|z
    ·exact h.to t' z
    ·exact absurd (by rw[mem_singleton.mp z]) e
  ·have:=gC ar (kM rs t) (.int (if ((dY t:Nat):Int)<o then ((dY t:Nat):Int) else o))
   have:=h.ln
   rw[length_append];show _≤_+1;omega
 have Jd:t∈ts++[t]:=mem_append_right _ (mem_singleton.mpr rfl)
 cases hv:bW ar (kM rs t) with
 | none =>
  refine⟨6,rfl,main 6 t Jd rfl ?_ fun t' xM hm=>?_⟩
  ·split<;>omega
  ·rcases mem_append.mp xM with z|z
   ·have:=h.to t' z
    rw[En hm,hv] at this
    cases this
   ·rw[mem_singleton.mp z];exact Nat.le_refl _
 | some v =>
  obtain⟨u,hu,h1,rfl,h3⟩:=h.of _ _ hv
  have hm:ki rs u=ki rs t:=(Ei h1).symm
  refine⟨((dY u:Nat):Int),rfl,?_⟩
  by_cases hc:dY t<dY u
  ·refine main _ t Jd rfl (if_pos (by omega)) fun t' xM yS=>?_
   rcases mem_append.mp xM with z|z
   ·have:=h3 t' z (yS.trans hm.symm);omega
   ·rw[mem_singleton.mp z];exact Nat.le_refl _
  ·refine main _ u (mem_append_left _ hu) hm (if_neg (by omega)) fun t' xM yS=>?_
   rcases mem_append.mp xM with z|z
   ·exact h3 t' z yS
   ·rw[mem_singleton.mp z];omega
theorem HK {H:Hp}{rs ts us:List Rw}{ar si:List (Key×V)}(hT:iJ H rs ts ar) (hF:wm rs us si) (hm:∀t,t∈us↔t∈ts):ar.length=si.length:=by
 have h1:(ar.map (·.1)).length≤(si.map (·.1)).length:=by
  refine hT.nd.length_le_of_subset fun k hk=>?_
  obtain⟨kv,GR,rfl⟩:=List.mem_map.mp hk
  obtain⟨i,hi⟩:=mem_iff_getElem?.mp GR
  obtain⟨u,b,e,_,_,hu⟩:=hT.of _ _ (km hT.nd hi)
  have:=hF.to u ((hm u).mpr hu)
  rw[e]
  obtain⟨v,hv⟩:=Option.isSome_iff_exists.mp this
  exact zF hv
 have h2:(si.map (·.1)).length≤(ar.map (·.1)).length:=by
  refine hF.nd.length_le_of_subset fun k hk=>?_
  obtain⟨kv,GR,rfl⟩:=List.mem_map.mp hk
  obtain⟨i,hi⟩:=mem_iff_getElem?.mp GR
  obtain⟨u,hu,e,_⟩:=hF.of _ _ (km hF.nd hi)
  obtain⟨_,b,hv,_⟩:=hT.to u ((hm u).mp hu)
  rw[e]
  exact zF hv
 rw[length_map,length_map] at h1 h2
 omega
theorem sk {H H':Hp}{P:Program}{w:World}{p:Addr}{ar:List (Key×V)}{o:Obj}(e:H p=some (.dK ar)) (s:ao (upd H p (BA P w p ar o)) H'):ao H (upd H' p (.dK ar)):=fun b ob h=>by
 by_cases z:b=p
 ·subst z
  rw[e] at h;cases h
  exact ah
 ·rw[av z]
  exact s _ _ (by rw[av z];exact h)
theorem Ur {m:Nat}(m6:m≤6) {r:Rw}(ok:r.ok m):dY r≤6:=by
 have pc6:∀a:Fin 64,pc a.1≤6:=by decide +kernel
 exact pc6 ⟨r.x|||r.z,tN m6 ok.x ok.z⟩
noncomputable def wo (K:Frag):Sp:=fun vs H Q _=>∃(p a d:Addr) (as:List Addr) (rs:List Rw) (ps:List (Nat×Nat)) (ar:List (Key×V)) (m:Nat) (n:Int),vs=[.ref p,.ref a,.ref d,.int m,.int n]∧H p=some (.dK ar)∧iJ H rs (fM n m) ar∧cC K H a (rV as)∧bY H m as rs∧H d=some (.dT (qw ps))∧(∀t,(∃n,Is rs t n)↔xz t∈ps)∧1≤m∧m≤6∧rs.length≤6∧∀H',ao H H'→Q (.bl true) H'
section
variable {P:Program}{w:World}{K:Frag}{mg:Str→Option Value}{base:Heap}
/- _law_is_table: 0:_law_found 1:_law_checks_here 2:_law_made_here 3:_law_coins 4:_law_many 5:_law_fewest 6:_law_turn 7:_law_marks_due -/
noncomputable abbrev bF:Stmt:=top 58
theorem cf:az ["_law_found","_law_checks_here","_law_made_here","_law_coins","_law_many","_law_fewest","_law_turn","_law_marks_due"] ["_law_found","_law_checks_here","_law_made_here","_law_coins","_law_many"] (af bF):=⟨rfl,rfl,rfl,by decide +kernel,rfl,by decide +kernel,by decide +kernel⟩
theorem Eo (T:gu mg) (Lp:mg "dict"=none) (Ep:mg "min"=none) (D:Def K mg "_law_is_table" bF ["_law_found","_law_checks_here","_law_made_here","_law_coins","_law_many"]) (wq:bR P w K mg base bu 2 "_law_turns" ["_law_coins","_law_most"] se) (gI:bR P w K mg base bu 1 "_law_is_turn" ["_law_turn","_law_coins"] (mU K)) (cP:bR P w K mg base bu 1 "_law_letters" ["_law_turn"] (n5 K)) (bX:bR P w K mg base bu 2 "_law_marks_of" ["_law_checks_here","_law_turn"] (kl K)) (lp:bR P w K mg base bu 3 "_law_both" ["_law_checks_here","_law_made_here","_law_one","_law_other"] (tZ K)):bR P w K mg base bu 4 "_law_is_table" ["_law_found","_law_checks_here","_law_made_here","_law_coins","_law_many"] (wo K):=by
 refine D.ok cf (fun vs H Q E h=>?_) (fun f bf A outer s H vs Q E hr h=>?_)
 ·obtain⟨p,a,d,as,rs,ps,ar,m,n,rfl,_⟩:=h;rfl
 obtain⟨p,a,d,as,rs,ps,ar,m,n,rfl,ep,hT,hS,hR,ed,hP,m1,m6,hl,k⟩:=h
 have lb:=dI
 have l4:=lU n m
 have p4:4^m≤4^6:=Nat.pow_le_pow_right (by decide) m6
 have Om:(4:Nat)^6=4096:=by decide
 have hkl:ar.length≤4096:=by have:=hT.ln;omega
 refine⟨_,(aj (bq (dM (cS (aK (aV K) (by rfl) T.aJ aG (aa (pv 0) (aa (rB Lp HJ) ai)))))
    (ak (aD fg))
    aO)
   (aj (aB (i:=5) cf.nd rfl (Or.inr rfl) vL)
   (aj (ck PassesOwn.never rfl (bU K (aC wq hr.sub (aa (pv 3) (aa (pv 4) ai)))) (aH (i:=6) cf.nd rfl (Or.inl rfl))
    (aj (aB (i:=7) cf.nd rfl (Or.inl rfl) (aC bX hr.sub (aa (pv 1) (aa (pv 6) ai))))
    (aj (kP (aK (qZ rfl) (by rfl) Ep CJ (aa (DF hr.eF (pv 5) (pv 7) ae ⟨rfl,rfl,rfl,rfl⟩) (aa (aC cP hr.sub (aa (pv 6) ai)) ai))) (sr (pv 5) (pv 7) (DS hr.eF)))
    (aj (bq (PW.pt (pw_or (aF (oX hr.eF) (pv 7) (pv 0) rfl) (pw_or1 (dM (cS (aC gI hr.sub (aa (ay (vU hr.eF) (pv 0) (pv 7) (fun _ _=>rfl)) (aa (pv 3) ai))))))))
     (ak (aD fg))
     aO)
    (ak (bq (dM (cS (aC lp hr.sub (aa (pv 1) (aa (pv 2) (aa (ay (vU hr.eF) (pv 0) (pv 7) (fun _ _=>rfl)) (aa (pv 6) ai)))))))
     (ak (aD fg))
     aO))))))
   (aj (bq (PW.pt (pw_or (aF i8 (aK rT (by rfl) T.oC kW (aa (pv 0) ai)) (aK rT (by rfl) T.oC kW (aa (pv 5) ai)) (aM _)) (pw_or1 (cS (aK (As K) (by rfl) T.Nb JZ (aa (zJ P w (gA rfl cf.nd (cs (N:=["_law_found","_law_checks_here","_law_made_here","_law_coins","_law_many","_law_fewest","_law_turn","_law_marks_due"]) (osc:=af bF) (by decide +kernel)) (zI P w (pv 0)) (fun _ _ _ _=>fk) (fun _ _ _ _=>(aK (aV K) (by rfl) T.aJ aG (aa (pv 0) (aa (rB T.CG yT) ai)))))) ai))))))
    (ak (aD fg))
    aO)
   (ak (aD (aK (Au K) (by rfl) T.Nc J0 (aa (zJ P w (gA rfl cf.nd (cs (N:=["_law_found","_law_checks_here","_law_made_here","_law_coins","_law_many","_law_fewest","_law_turn","_law_marks_due"]) (osc:=af bF) (by decide +kernel)) (zI P w (pv 5)) (fun _ _ _ _=>fk) (fun _ _ _ _=>(iw d9 (aC cP hr.sub (aa (ay (vU hr.eF) (pv 1) (pv 0) (fun _ _=>rfl)) ai)) (ay (N8 P w) (pv 6) (pv 0) (fun _ _=>rfl)) (aM _))))) ai)))))))),?_⟩
 refine⟨_,rfl,_,_,_,_,_,rfl,rfl,.of (.dK ep),Uq K,_,rfl,fW ?_⟩
 refine fun f1 nf=>?_
 dsimp only [aU]
 have s1:=ao.new (o:=.dK []) nf
 have ef:upd H f1 (.dK []) f1=some (.dK []):=ah
 generalize upd H f1 (.dK [])=H1 at s1 ef ⊢
 refine⟨_,rfl,_,rfl,m,n,rfl,m1,m6,fun q OM us H2 s2 nq eq hU uM Qj=>?_⟩
 refine⟨q,rfl,⟨_,.of eq⟩,d0 (K:=K) (a:=q) (xs:=rV OM) (fun i σ H'=>∃(si:List (Key×V)) (v6 v7:Option V),σ=[some (.ref p),some (.ref a),some (.ref d),some (.int m),some (.int n),some (.ref f1),v6,v7]∧ao H H'∧H' q=some (.lst (rV OM))∧bY H' m OM us∧H' f1=some (.dK si)∧wm rs (us.take i) si) ⟨[],_,_,rfl,s1.trans s2,eq,hU,s2 _ _ ef,.nil⟩ (fun i σ H' _ ⟨_,_,_,_,_,h,_⟩=>.of h) ?_ ?_⟩
 ·rintro i y σ H3 hi ⟨si,v6,v7,rfl,s3,eq3,R3,QW,hF⟩
  obtain⟨b,hb,rfl⟩:=cy hi
  obtain⟨r,jm,er,fK⟩:=R3.g i b hb
  have QR:us.take (i+1)=us.take i++[r]:=by rw[take_add_one,jm];rfl
  have Ul:r∈fM n m:=(uM r).mp (mem_of_getElem? jm)
  have AF:si.length≤4096:=Nat.le_trans hF.ln (by rw[length_take];omega)
  refine⟨_,rfl,_,rfl,a,b,as,rs,r,m,rfl,s3.seq hS,hR.same s3,cL er,fK,m6,hl,fun H4 s4=>?_⟩
  dsimp only [aU]
  have t4:=s3.trans s4
  have Je:=s4 _ _ QW
  have Hn:=s4 _ _ er
  obtain⟨o,ho,OH⟩:=hF.step (Ur m6 fK)
  refine⟨_,rfl,f1,rfl,.inl ⟨si,.inl Je⟩,_,rfl,_,lR.k (k:=kM rs r) Je,_,rfl,b,r,m,rfl,cL Hn,m6,fK,fun H5 s5=>?_⟩
  have QX:=s5 _ _ Je
  refine⟨o,((dY r:Nat):Int),by rw[ho],?_⟩
  refine⟨_,rfl,_,rfl,f1,si,kM rs r,rfl,rfl,QX,by omega,?_⟩
  have t5:=t4.trans s5
  have Us:=s4.trans s5
  rw[←QR] at OH
  generalize (putK si (kM rs r) (V.int (if ((dY r:Nat):Int)<o then ((dY r:Nat):Int) else o)))=Lq at OH ⊢
  have t6:=t5.upd (o:=.dK Lq) nf
  have ef6:upd H5 f1 (.dK Lq) f1=some (.dK Lq):=ah
  have L8:upd H5 f1 (.dK Lq) q=some (.lst (rV OM)):=by
   have:=Us _ _ eq3
   rw[av (fun z=>by rw[z,QX] at this;cases this)];exact this
  have R6:bY (upd H5 f1 (.dK Lq)) m OM us:=wg (R3.same Us) QX
  have Uc:upd H5 f1 (.dK Lq) b=some (.tup r.vals):=by
   have:=Us _ _ er
   rw[av (fun z=>by rw[z,QX] at this;cases this)];exact this
  generalize upd H5 f1 (.dK Lq)=H6 at t6 ef6 L8 R6 Uc ⊢
  obtain⟨u,c,hv,ec,hu,hm,NV,hI⟩:=hT.to r Ul
  have um:=(eX _ m m6 u).mp hu
  have uO:u.ok m:=⟨.inl um.1.1,um.1.2.1,um.1.2.2⟩
  refine⟨_,rfl,_,rfl,p,ar,kM rs r,rfl,rfl,t6 _ _ ep,_,rfl,bV (by rw[hv];rfl) ?_⟩
  refine⟨_,rfl,_,rfl,p,ar,kM rs r,.ref c,rfl,rfl,t6 _ _ ep,hv,_,rfl,c,u,m,rfl,t6 _ _ ec,m6,um.1.1,uO,fun H7 s7=>⟨_,rfl,fW ?_⟩⟩
  have t7:=t6.trans s7
  refine⟨_,rfl,_,rfl,_,rfl,_,rfl,p,ar,kM rs r,.ref c,rfl,rfl,t7 _ _ ep,hv,_,rfl,a,d,c,b,as,rs,ps,u,r,m,rfl,t7.seq hS,hR.same t7,t7 _ _ ed,hP,t7 _ _ ec,s7 _ _ Uc,uO,fK,m6,hl,hm,fun _ H8 s8=>⟨_,rfl,fW ?_⟩,fun hn=>?_⟩
  ·have Ut:=s7.trans s8
   exact⟨_,_,_,rfl,t7.trans s8,Ut _ _ L8,R6.same Ut,Ut _ _ ef6,OH⟩
  ·obtain⟨j,hj⟩:=hI
   exact absurd hj (hn j)
 ·rintro σ H3 ⟨si,v6,v7,rfl,s3,eq3,R3,QW,hF⟩
  rw[rV,length_map,R3.l,take_length] at hF
  have AF:si.length≤4096:=Nat.le_trans hF.ln (by omega)
  have hlen:=HK hT hF uM
  have Jc:=s3 _ _ ep
  refine⟨_,rfl,p,ar,rfl,Jc,_,rfl,f1,si,rfl,QW,rfl,_,rfl,bV (by rw[hlen,decide_eq_true rfl];rfl) ?_⟩
  refine⟨_,rfl,p,ar,rfl,Jc,fun o=>vV (fun _=>.bl false) ah (by omega) ?_ ?_⟩
  ·intro i kv H' Q' hi s' q'
   obtain⟨u,b,e,_⟩:=hT.of _ _ (km hT.nd hi)
   rw[e]
   exact⟨_,rfl,_,_,_,_,_,rfl,rfl,.of (.int _),Na K,q' H' (.refl H')⟩
  intro z H4 s4 nz ez
  have t4:=sk Jc s4
  refine⟨p,ar,o,s4 _ _ ah,z,ar.map (fun _=>V.bl false),rfl,.of ?_,?_,_,rfl,bV ?_ ?_⟩
  ·rw[av (fun y=>by rw[y,ah] at nz;cases nz)];exact ez
  ·rw[List.all_map,all_eq_true];intro _ _;rfl
  ·rw[List.any_map,any_eq_false];intro _ _;exact Bool.false_ne_true
  have Je:=t4 _ _ QW
  have Ej:=t4 _ _ Jc
  have hpf:p≠f1:=aE ep nf
  have u4:=s3.trans t4
  generalize upd H4 p (.dK ar)=H5 at t4 Je Ej u4 ⊢
  refine⟨_,rfl,f1,si,rfl,Je,fun o2=>vV (fun _=>.bl true) ah (by omega) ?_ ?_⟩
  ·intro i kv H' Q' hi s' q'
   obtain⟨t,ht,e1,e2,Lo⟩:=hF.of _ _ (km hF.nd hi)
   obtain⟨u,c,hv,ec,hu,hm,NV,_⟩:=hT.to t ((uM t).mp ht)
   have um:=(eX _ m m6 u).mp hu
   have uO:u.ok m:=⟨.inl um.1.1,um.1.2.1,um.1.2.2⟩
   have el:dY u=dY t:=by have:=Lo u ((uM u).mpr hu) hm;omega
   have Mi:H' p=some (.dK ar):=s' _ _ (by rw[av hpf];exact Ej)
   have ec':H' c=some (.tup u.vals):=s' _ _ (by rw[av (fun z=>by have:=u4 _ _ ec;rw[z,Je] at this;cases this)];exact u4 _ _ ec)
   refine⟨_,rfl,_,rfl,p,ar,kv.1,.ref c,rfl,rfl,Mi,by rw[e1];exact hv,c,u,m,rfl,cL ec',m6,uO,fun H6 s6=>?_⟩
   refine⟨_,rfl,_,rfl,f1,si,o2,kv.1,kv.2,rfl,rfl,s6 _ _ (s' _ _ ah),km hF.nd hi,?_⟩
   rw[e2,el]
   refine⟨rfl,?_⟩
   rw[decide_eq_true rfl]
   exact q' H6 s6
  intro z2 H6 s6 Qx ez2
  have t6:=sk Je s6
  refine⟨f1,si,o2,s6 _ _ ah,z2,si.map (fun _=>V.bl true),rfl,.of ?_,?_,?_⟩
  ·rw[av (fun y=>by rw[y,ah] at Qx;cases Qx)];exact ez2
  ·rw[List.all_map,all_eq_true];intro _ _;rfl
  ·have e:(si.map (fun _=>V.bl true)).all oA=true:=by rw[List.all_map,all_eq_true];intro _ _;rfl
   rw[e]
   exact k _ (u4.trans t6)
end
end iE
set_option maxHeartbeats 4000000
namespace iE
open PySem L2 TC
@[irreducible] def QA (X:Cx) (es:List Expr) (t:TA):Prop:=PA X es t
@[irreducible] def QE (X:Cx) (e:Expr) (t:TE):Prop:=PE X e t
theorem fz {X:Cx}{e:Expr}{t:TE}(h:PE X e t):QE X e t:=by unfold QE;exact h
theorem mV {X:Cx}:QA X [] Fw:=by unfold QA;exact ai
theorem bH {X:Cx}{e:Expr}{es:List Expr}{te:TE}{t:TA}(ha:QE X e te) (hr:QA X es t) (hs:starEach (e::es) X.env=(false,eval e X.env)::starEach es X.env:=by rfl):QA X (e::es) (Ia te t):=by
 unfold QE at ha
 unfold QA at hr ⊢
 exact aa ha hr hs
theorem pj {X:Cx}{es:List Expr}{t:TA}{x1:Nat}{pos:Pos}(h:QA X es t):QE X (.Tuple es x1 pos) (MJ t):=by
 unfold QA at h
 unfold QE
 exact aS h
theorem Ls {X:Cx}{es:List Expr}{t:TA}{pos:Pos}(h:QA X es t):QE X (.List es pos) (MK t):=by
 unfold QA at h
 unfold QE
 exact dN h
@[irreducible] def QS (X:Cx) (st:Stmt) (t:TS):Prop:=PS X st t
@[irreducible] def Jf (X:Cx) (st:List Stmt) (t:TS):Prop:=nQ X st t
theorem Lu {X:Cx}{st:List Stmt}{t:TS}(h:Jf X st t):nQ X st t:=by unfold Jf at h;exact h
theorem wu {X:Cx}{st:Stmt}{rest:List Stmt}{t u:TS}(h1:QS X st t) (h2:Jf X rest u):Jf X (st::rest) (Mo t u):=by
 unfold QS at h1
 unfold Jf at h2 ⊢
 exact aj h1 h2
theorem HL {X:Cx}{st:Stmt}{t:TS}(h1:QS X st t):Jf X [st] t:=by
 unfold QS at h1
 unfold Jf
 exact ak h1
theorem Lv {X:Cx}{e:Expr}{te:TE}{pos:Pos}(he:QE X e te):QS X (.Return (some e) pos) (Mq te):=by
 unfold QE at he
 unfold QS
 exact aD he
theorem Er {X:Cx}(i:Nat) {x:Str}{e:Expr}{te:TE}{pos pos':Pos}(hN:X.N.Nodup) (hi:X.N[i]?=some x) (hx:Loc X.env.scope x) (he:QE X e te) (hs:swapsWith e (some (.Name x pos')) pos.line X.env=pure false:=by rfl) (hf:X.fn x=true∨X.env.scope.names.lookup x=some .local:=by first|exact .inl rfl|exact .inr rfl|assumption):QS X (.Assign [.Name x pos'] e pos) (BK te (aU i)):=by
 unfold QE at he
 unfold QS
 exact aB hN hi hx he hs hf
theorem Uu {X:Cx}{sts:List Stmt}{D:Ends}{σ:St}{H:Hp}(h:∃t,Jf X sts t∧t D σ H):∃t,nQ X sts t∧t D σ H:=by
 obtain⟨t,h1,h2⟩:=h
 exact⟨t,Lu h1,h2⟩
noncomputable def zW {α:Type}(k:Nat) (xs:List α):List α:=(xs.drop k++xs.take k).take 4
noncomputable def wO:List Rw:=[⟨1,9,6⟩,⟨1,18,12⟩,⟨1,5,24⟩,⟨1,10,17⟩,⟨1,20,3⟩]
noncomputable def QY:Nat→List Rw
 | 0=>[⟨1,0,5⟩,⟨1,0,15⟩,⟨1,0,27⟩,⟨1,0,18⟩,⟨1,0,31⟩]
 | 1=>[⟨1,0,10⟩,⟨1,0,30⟩,⟨1,0,23⟩,⟨1,0,5⟩,⟨1,0,31⟩]
 | 2=>[⟨1,0,20⟩,⟨1,0,29⟩,⟨1,0,15⟩,⟨1,0,10⟩,⟨1,0,31⟩]
 | 3=>[⟨1,0,9⟩,⟨1,0,27⟩,⟨1,0,30⟩,⟨1,0,20⟩,⟨1,0,31⟩]
 | _=>[⟨1,0,18⟩,⟨1,0,23⟩,⟨1,0,29⟩,⟨1,0,9⟩,⟨1,0,31⟩]
noncomputable def Uv (m:Nat) (rs ds:List Rw):Bool :=
 rs.all (fun r=>(r.sg == 1&&decide (r.x<2^m))&&(decide (r.z<2^m)&&nT r))&&(rs.all (fun a=>rs.all fun b=>!sy a b)&&(ds.length == rs.length&&(List.range rs.length).all fun i=>(List.range rs.length).all fun j=>sy (ra rs i) (ra ds j) == decide (i=j)))
theorem Lw {m:Nat}{rs ds:List Rw}(h:Uv m rs ds=true):Fr m rs ds:=by
 unfold Uv at h
 simp only[Bool.and_eq_true,all_eq_true,decide_eq_true_eq,beq_iff_eq,Bool.not_eq_true',mem_range] at h
 obtain⟨h1,h2,h3,h4⟩:=h
 exact⟨⟨fun r hr=>⟨.inl (h1 r hr).1.1,(h1 r hr).1.2,(h1 r hr).2.1⟩,fun r hr=>(h1 r hr).2.2,h2⟩,h3,fun i j hi hj=>h4 i hi j hj⟩
theorem HM:∀k,k<5→Fr 5 (zW k wO++[⟨1,31,0⟩]) (QY k):=by
 have:∀k:Fin 5,Uv 5 (zW k.1 wO++[⟨1,31,0⟩]) (QY k.1)=true:=by decide +kernel
 exact fun k hk=>Lw (this ⟨k,hk⟩)
theorem pq:∀r∈wO,r.ok 5:=by
 intro r hr
 have:wO.all (fun r=>(r.sg == 1&&decide (r.x<2^5))&&decide (r.z<2^5))=true:=by decide +kernel
 have:=all_eq_true.mp this r hr
 simp only[Bool.and_eq_true,decide_eq_true_eq,beq_iff_eq] at this
 exact⟨.inl this.1.1,this.1.2,this.2⟩
theorem bY.dp {H:Hp}{m:Nat}{as:List Addr}{rs:List Rw}(h:bY H m as rs) (n:Nat):bY H m (as.drop n) (rs.drop n):=⟨by rw[List.length_drop,List.length_drop,h.l],fun i a e=>by
 rw[List.getElem?_drop] at e
 rw[List.getElem?_drop]
 exact h.g _ a e⟩
theorem bY.zW {H:Hp}{m:Nat}{as:List Addr}{rs:List Rw}(h:bY H m as rs) (k:Nat):bY H m (zW k as) (zW k rs):=bY.tk (bY.cat (bY.dp h k) (bY.tk h k)) 4
noncomputable def zX:Sp:=fun vs H Q _=>∃(c:Int),vs=[.int c]∧0≤c∧∀q qs k H',ao H H'→H q=none→H' q=some (.lst (rV qs))→k<5→bY H' 5 qs (zW k wO)→Q (.ref q) H'
section
variable {P:Program}{w:World}{K:Frag}{mg:Str→Option Value}{base:Heap}
/- _law_ring: 0:_law_number_here 1:_law_rows 2:_law_at -/
noncomputable abbrev eO:Stmt:=top 55
theorem jr:az ["_law_number_here","_law_rows","_law_at"] ["_law_number_here"] (af eO):=⟨rfl,rfl,rfl,by decide +kernel,rfl,by decide +kernel,by decide +kernel⟩
theorem HN (T:gu mg) (D:Def K mg "_law_ring" eO ["_law_number_here"]):bR P w K mg base bu 1 "_law_ring" ["_law_number_here"] zX:=by
 refine D.ok jr (fun vs H Q E h=>?_) (fun f bf A outer s H vs Q E hr h=>?_)
 ·obtain⟨c,rfl,_⟩:=h;rfl
 obtain⟨c,rfl,c0,k⟩:=h
 have lb:(1000:Nat)≤sizeLine:=aI (by decide)
 refine Uu ?_
 refine⟨_,(wu (Er 1 jr.nd rfl (Or.inl rfl) (Ls (bH (pj (bH (fz ae) (bH (fz ae) (bH (fz ae) mV)))) (bH (pj (bH (fz ae) (bH (fz ae) (bH (fz ae) mV)))) (bH (pj (bH (fz ae) (bH (fz ae) (bH (fz ae) mV)))) (bH (pj (bH (fz ae) (bH (fz ae) (bH (fz ae) mV)))) (bH (pj (bH (fz ae) (bH (fz ae) (bH (fz ae) mV)))) mV)))))))
   (wu (Er 2 jr.nd rfl (Or.inl rfl) (fz (aq br (pv 0) ae)))
   (HL (Lv (fz (g9 (hZ K) (aq mE (g9 (hZ K) (pv 1) (j8 (pv 2)) j7) (g9 (hZ K) (pv 1) j7 (j8 (pv 2)))) j7 (j8 ae))))))),?_⟩
 refine⟨by show 3≤sizeLine;omega,fun g0 n0=>⟨by show 3≤sizeLine;omega,fun g1 n1=>⟨by show 3≤sizeLine;omega,fun g2 n2=>⟨by show 3≤sizeLine;omega,fun g3 n3=>⟨by show 3≤sizeLine;omega,fun g4 n4=>⟨by show 5≤sizeLine;omega,fun q nq=>?_⟩⟩⟩⟩⟩⟩
 have w0:=ao.new (o:=.tup [V.int 1,V.int 9,V.int 6]) n0
 have w1:=ao.new (o:=.tup [V.int 1,V.int 18,V.int 12]) n1
 have w2:=ao.new (o:=.tup [V.int 1,V.int 5,V.int 24]) n2
 have w3:=ao.new (o:=.tup [V.int 1,V.int 10,V.int 17]) n3
 have w4:=ao.new (o:=.tup [V.int 1,V.int 20,V.int 3]) n4
 have w5:=ao.new (o:=.lst [V.ref g0,V.ref g1,V.ref g2,V.ref g3,V.ref g4]) nq
 have x0:=(w1.trans (w2.trans (w3.trans (w4.trans w5)))) g0 _ ah
 have x1:=(w2.trans (w3.trans (w4.trans w5))) g1 _ ah
 have x2:=(w3.trans (w4.trans w5)) g2 _ ah
 have x3:=(w4.trans w5) g3 _ ah
 have x4:=w5 g4 _ ah
 have wt:=w0.trans (w1.trans (w2.trans (w3.trans (w4.trans w5))))
 have eq:upd (upd (upd (upd (upd (upd H g0 (.tup [V.int 1,V.int 9,V.int 6])) g1 (.tup [V.int 1,V.int 18,V.int 12])) g2 (.tup [V.int 1,V.int 5,V.int 24])) g3 (.tup [V.int 1,V.int 10,V.int 17])) g4 (.tup [V.int 1,V.int 20,V.int 3])) q (.lst [V.ref g0,V.ref g1,V.ref g2,V.ref g3,V.ref g4]) q=some (.lst (rV [g0,g1,g2,g3,g4])):=ah
 dsimp only [aU]
 generalize upd (upd (upd (upd (upd (upd H g0 (.tup [V.int 1,V.int 9,V.int 6])) g1 (.tup [V.int 1,V.int 18,V.int 12])) g2 (.tup [V.int 1,V.int 5,V.int 24])) g3 (.tup [V.int 1,V.int 10,V.int 17])) g4 (.tup [V.int 1,V.int 20,V.int 3])) q (.lst [V.ref g0,V.ref g1,V.ref g2,V.ref g3,V.ref g4])=H1 at x0 x1 x2 x3 x4 wt eq ⊢
 have R1:bY H1 5 [g0,g1,g2,g3,g4] wO:=⟨rfl,fun i a e=>by
  match i,e with
  | 0,e=>cases e;exact⟨_,rfl,x0,pq _ (by simp[wO])⟩
  | 1,e=>cases e;exact⟨_,rfl,x1,pq _ (by simp[wO])⟩
  | 2,e=>cases e;exact⟨_,rfl,x2,pq _ (by simp[wO])⟩
  | 3,e=>cases e;exact⟨_,rfl,x3,pq _ (by simp[wO])⟩
  | 4,e=>cases e;exact⟨_,rfl,x4,pq _ (by simp[wO])⟩
  | i+5,e=>cases e⟩
 refine⟨_,rfl,_,_,rfl,rfl,(by show (0:Int)<_;decide),?_⟩
 have a0:=fo c (m:=5) (by decide)
 have a1:=iP c (m:=5) (by decide)
 obtain⟨j,hj,Uw⟩:∃j:Nat,c%5=(j:Int)∧j<5:=⟨(c%5).toNat,by omega,by omega⟩
 dsimp only [aU]
 rw[hj]
 have Ux:hV (hV (rV [g0,g1,g2,g3,g4]) (some (j:Int)) none++hV (rV [g0,g1,g2,g3,g4]) none (some (j:Int))) none (some 4)=rV (zW j [g0,g1,g2,g3,g4]):=by
  match j,Uw with
  | 0,_=>rfl
  | 1,_=>rfl
  | 2,_=>rfl
  | 3,_=>rfl
  | 4,_=>rfl
 have Dj:(hV (rV [g0,g1,g2,g3,g4]) (some (j:Int)) none).length+(hV (rV [g0,g1,g2,g3,g4]) none (some (j:Int))).length≤5:=by
  match j,Uw with
  | 0,_=>exact Nat.le_refl 5
  | 1,_=>exact Nat.le_refl 5
  | 2,_=>exact Nat.le_refl 5
  | 3,_=>exact Nat.le_refl 5
  | 4,_=>exact Nat.le_refl 5
 refine⟨_,rfl,_,rfl,_,rfl,q,_,rfl,.of eq,fun p1 np1=>?_⟩
 have v1:=ao.new (o:=.lst (hV (rV [g0,g1,g2,g3,g4]) (some (j:Int)) none)) np1
 refine⟨_,rfl,_,rfl,_,rfl,q,_,rfl,.of (v1 _ _ eq),fun p2 np2=>?_⟩
 have v2:=ao.new (o:=.lst (hV (rV [g0,g1,g2,g3,g4]) none (some (j:Int)))) np2
 have y1:=v2 _ _ (ah (H:=H1) (a:=p1) (o:=.lst (hV (rV [g0,g1,g2,g3,g4]) (some (j:Int)) none)))
 refine⟨p1,p2,_,_,rfl,rfl,y1,ah,by omega,fun p3 np3=>?_⟩
 have v3:=ao.new (o:=.lst (hV (rV [g0,g1,g2,g3,g4]) (some (j:Int)) none++hV (rV [g0,g1,g2,g3,g4]) none (some (j:Int)))) np3
 refine⟨_,rfl,p3,_,rfl,.of ah,fun p4 np4=>?_⟩
 rw[Ux]
 have v4:=ao.new (o:=.lst (rV (zW j [g0,g1,g2,g3,g4]))) np4
 have vt:=v1.trans (v2.trans v3)
 refine k p4 _ j _ (wt.trans (vt.trans v4)) ((wt.trans vt).free np4) ?_ Uw ((bY.zW R1 j).same (vt.trans v4))
 rw[ah]
end
end iE
set_option maxHeartbeats 4000000
namespace iE
open PySem L2 TC
theorem Lx {ι κ:Sort _}{C G:ι→κ→Prop}{A:Prop}(h:(∀i j,C i j→G i j)→A) (k:∀i j,C i j→G i j):A:=h k
noncomputable def ub (K:Frag):Sp:=fun vs H Q _=>∃(a:Addr) (ns:List Int),vs=[.ref a]∧cC K H a (zV ns)∧ns.length≤63∧∀H',Q (.bl true) H'
theorem Uy (xs:List V):hV xs (some 1) none=xs.tail:=by
 unfold hV
 have h1:HT.qA xs.length 0 (some 1)=min 1 xs.length:=by unfold HT.qA;simp;try omega
 rw[h1]
 show (xs.drop (min 1 xs.length)).take (xs.length-min 1 xs.length)=_
 rw[List.take_of_length_le (by rw[List.length_drop];omega)]
 cases xs with
 | nil=>rfl
 | cons x r=>rw[show min 1 (x::r).length=1 by rw[List.length_cons];omega];rfl
theorem Jg (qs:List Addr):hV (rV qs) (some 1) none=rV (qs.drop 1):=by rw[Uy,rV,rV,List.map_drop,List.drop_one]
theorem Es {k:Nat}(hk:k<5):Fr 5 (zW k wO) ((QY k).take 4)∧(zW k wO).length=4:=by
 have hl:(zW k wO).length=4:=by
  have:∀k:Fin 5,(zW k.1 wO).length=4:=by decide +kernel
  exact this ⟨k,hk⟩
 have hT:=Fr.tk (HM k hk) 4
 rw[List.take_append_of_le_length (by omega),List.take_of_length_le (by omega)] at hT
 exact⟨hT,hl⟩
noncomputable def Ask (H:Hp) (C:Addr) (m:Nat) (g:Addr):Prop:=∃(x l:Addr) (n:Int) (as:List Addr) (rs ds:List Rw),H g=some (.tup [.ref x,.ref l,.int n])∧0≤n∧Fb H C x m rs∧H l=some (.lst (rV as))∧bY H m as rs∧Fr m rs ds∧rs.length≤6
theorem Ask.same {H H':Hp}{C:Addr}{m:Nat}{g:Addr}(h:Ask H C m g) (s:ao H H'):Ask H' C m g:=by
 obtain⟨x,l,n,as,rs,ds,h1,h2,h3,h4,h5,h6,h7⟩:=h
 exact⟨x,l,n,as,rs,ds,s _ _ h1,h2,h3.same s,s _ _ h4,h5.same s,h6,h7⟩
section
variable {P:Program}{w:World}{K:Frag}{mg:Str→Option Value}{base:Heap}{C nM:Addr}
/- law: 0:_law_script 1:_law_first 2:_law_coins 3:_law_many 4:_law_checks_here 5:_law_code 6:_law_fewer 7:_law_after 8:_law_rest 9:_law_asked 10:_law_some 11:_law_most 12:_law_made_here 13:_law_found 14:_law_error -/
noncomputable abbrev lX:Stmt:=top 60
theorem cJ:az ["_law_script","_law_first","_law_coins","_law_many","_law_checks_here","_law_code","_law_fewer","_law_after","_law_rest","_law_asked","_law_some","_law_most","_law_made_here","_law_found","_law_error"] ["_law_script"] (af lX):=⟨rfl,rfl,rfl,by decide +kernel,rfl,by decide +kernel,by decide +kernel⟩
theorem Ly (T:gu mg) (Ep:mg "min"=none) {f:Addr}{fd:FuncData}(F:Bu K "law" "law" lX f fd) (d8:bR P w K mg base bu 1 "_law_number" ["_law_script","_law_k"] (tW K)) (uc:bR P w K mg base bu 3 "_law_checks" ["_law_script","_law_start","_law_coins","_law_many"] (sf K)) (yq:bR P w K mg base bu 1 "_law_ring" ["_law_number_here"] zX) (Et:GG P w K mg base 8 "Code" C (zQ K C)) (yr:bR P w K mg base bu 1 "_law_made" ["_law_checks_here"] (Eh K)) (yt:bR P w K mg base bu 9 "_law_told" ["_law_code","_law_many"] (zT C nM)) (yu:bR P w K mg base bu 4 "_law_cant" ["_law_error","_law_checks_here","_law_made_here","_law_coins","_law_many"] (zU K nM)) (pA:bR P w K mg base bu 4 "_law_is_table" ["_law_found","_law_checks_here","_law_made_here","_law_coins","_law_many"] (wo K)) :
  fj P w K mg base bu 10 f fd ["_law_script"] (ub K):=by
 refine F.ok cJ (fun vs H Q E h=>?_) (fun bf A outer s H vs Q E hr h=>?_)
 ·obtain⟨a,ns,rfl,_⟩:=h;rfl
 obtain⟨a,ss,rfl,hS,hl,k⟩:=h
 have lb:(1000:Nat)≤sizeLine:=aI (by decide)
 refine⟨_,(aj (aB (i:=1) cJ.nd rfl (Or.inl rfl) (aC d8 hr.sub (aa (pv 0) (aa ae ai))))
   (aj (aB (i:=2) cJ.nd rfl (Or.inl rfl) (aq cT ae (aq br (pv 1) ae)))
   (aj (aB (i:=3) cJ.nd rfl (Or.inl rfl) (aq br (aq cM (pv 1) ae) ae))
   (aj (bq (aF i9 (aq br (aq cM (pv 1) ae) ae) ae (aM _))
    (ak (aB (i:=2) cJ.nd rfl (Or.inl rfl) ae))
    aO)
   (aj (bq (aF d9 (aq br (aq cM (pv 1) ae) ae) ae (aM _))
    (aj (aB (i:=2) cJ.nd rfl (Or.inl rfl) ae)
    (ak (aB (i:=3) cJ.nd rfl (Or.inl rfl) (aK (qZ rfl) (by rfl) Ep CJ (aa (pv 3) (aa (aq cT ae (aq br (aq cM (pv 1) ae) ae)) ai))))))
    aO)
   (aj (aB (i:=4) cJ.nd rfl (Or.inl rfl) (aC uc hr.sub (aa (pv 0) (aa ae (aa (pv 2) (aa (aq br (aq cM (pv 1) ae) (aq cT (pv 2) ae)) ai))))))
   (aj (bq (PW.pt (pw_and (aF d9 (pv 2) ae (aM _)) (pw_and1 (aF d9 (aq br (aq cM (pv 1) ae) ae) ae (aM _)))))
    (ak (aB (i:=4) cJ.nd rfl (Or.inl rfl) (aC yq hr.sub (aa (aq cM (pv 1) ae) ai))))
    aO)
   (aj (aB (i:=5) cJ.nd rfl (Or.inl rfl) (zw Et hr.sub (aa (pv 2) (aa (j6 (kX K) (by rfl) T.sO nS (aa (pv 4) ai)) ai))))
   (aj (aB (i:=6) cJ.nd rfl (Or.inl rfl) (zw Et hr.sub (aa (pv 2) (aa (j6 (kX K) (by rfl) T.sO nS (aa (g9 (hZ K) (pv 4) (j8 ae) j7) ai)) ai))))
   (aj (aB (i:=7) cJ.nd rfl (Or.inl rfl) (lE (aF i9 (pv 2) ae (aM _)) (aq br (aq cT (pv 3) ae) ae) ae))
   (aj (aB (i:=8) cJ.nd rfl (Or.inl rfl) (g9 (hZ K) (pv 4) (j8 ae) j7))
   (aj (ck PassesOwn.never rfl (bU K (dN (aa (aS (aa (pv 5) (aa (pv 4) (aa (pv 3) ai)))) (aa (aS (aa (pv 5) (aa (pv 4) (aa (pv 7) ai)))) (aa (aS (aa (pv 6) (aa (pv 8) (aa ae ai)))) (aa (aS (aa (pv 5) (aa (pv 4) (aa (pv 3) ai)))) ai)))))) (d3 K rfl (aQ (aH (i:=9) cJ.nd rfl (Or.inl rfl)) (aQ (aH (i:=10) cJ.nd rfl (Or.inl rfl)) (aQ (aH (i:=11) cJ.nd rfl (Or.inl rfl)) dZ))))
    (aj (aB (i:=12) cJ.nd rfl (Or.inl rfl) (aC yr hr.sub (aa (pv 10) ai)))
    (aj (kP (aC yt hr.sub (aa (pv 9) (aa (pv 11) ai))) (d3 K rfl (aQ (aH (i:=13) cJ.nd rfl (Or.inl rfl)) (aQ (aH (i:=14) cJ.nd rfl (Or.inl rfl)) dZ))))
    (ak (bq (aF sv (pv 14) mz (aM _))
     (ak (bq (PW.pt (pw_or (aF sv (pv 13) mz (aM _)) (pw_or1 (dM (cS (aC yu hr.sub (aa (pv 14) (aa (pv 10) (aa (pv 12) (aa (pv 2) (aa (pv 11) ai)))))))))))
      (ak (aD fg))
      aO))
     (ak (bq (dM (cS (aC pA hr.sub (aa (pv 13) (aa (pv 10) (aa (pv 12) (aa (pv 2) (aa (pv 11) ai))))))))
      (ak (aD fg))
      (ak (gx (B0 PySem.F.plainAttrs_dict PySem.F.slot_dict_clear PySem.F.type_dict_clear GW (pv 13)))))))))))
   (ak (aD fg)))))))))))))),?_⟩
 refine⟨_,rfl,a,ss,0,rfl,hS,hl,by omega,fun c1 Ek H1 s1=>?_⟩
 have a0:=fo c1 (m:=4) (by decide)
 have a1:=iP c1 (m:=4) (by decide)
 have y0:=fo (c1.fdiv 4) (m:=3) (by decide)
 have z0:=fo (c1.fdiv 90000) (m:=2) (by decide)
 refine⟨_,rfl,_,_,rfl,rfl,(by show (0:Int)<_;decide),_,_,rfl,rfl,?_⟩
 refine⟨_,rfl,_,_,rfl,rfl,Bw (by decide) (by decide),_,_,rfl,rfl,(by show (0:Int)<_;decide),?_⟩
 refine⟨_,rfl,_,_,rfl,rfl,Bw (by decide) (by decide),_,_,rfl,rfl,(by show (0:Int)<_;decide),_,_,rfl,rfl,_,rfl,?_⟩
 refine yW (ι:=St) (C:=fun σ=>∃(m:Nat) (nn:Int),σ=[some (.ref a),some (.int c1),some (.int m),some (.int nn),none,none,none,none,none,none,none,none,none,none,none]∧1≤m∧m≤6∧0≤nn) (G:=?G) (fun rest=>ve (fun d1=>?ja) (fun d1=>?jb)) ?jk
 case ja =>
  dsimp only [BK,tC,aU]
  generalize hσ:List.set _ 2 _=σx
  refine rest σx ⟨5,c1.fdiv 4%3,?_,by decide,by decide,y0⟩
  rw[←hσ];rfl
 case jb =>
  dsimp only [uX,aU]
  generalize hσ:List.set _ 3 _=σx
  refine rest σx ⟨(1+c1%4).toNat,c1.fdiv 4%3,?_,by omega,by omega,y0⟩
  rw[←hσ,show (((1+c1%4).toNat:Nat):Int)=1+c1%4 by omega];rfl
 case jk =>
 rintro σ ⟨m0,nn0,rfl,m01,m06,Uz⟩
 refine⟨_,rfl,_,_,rfl,rfl,Bw (by decide) (by decide),_,_,rfl,rfl,(by show (0:Int)<_;decide),rfl,_,rfl,?_⟩
 refine yW (ι:=St) (C:=fun σ=>∃(m:Nat) (nn:Int),σ=[some (.ref a),some (.int c1),some (.int m),some (.int nn),none,none,none,none,none,none,none,none,none,none,none]∧1≤m∧m≤6∧0≤nn) (G:=?G2) (fun rest=>ve (fun d1=>?ja2) (fun d1=>?jb2)) ?jk2
 case ja2 =>
  refine⟨_,rfl,_,rfl,_,_,rfl,rfl,Bw (by decide) (by decide),_,_,rfl,rfl,(by show (0:Int)<_;decide),_,_,rfl,rfl,_,_,rfl,?_⟩
  dsimp only [aU]
  generalize hσ:List.set _ 3 _=σx
  refine rest σx ⟨6,_,hσ.symm,by decide,by decide,?_⟩
  split<;>omega
 case jb2 =>
  dsimp only [uX,aU]
  generalize hσ:[some (V.ref a),some (V.int c1),some (V.int (m0:Int)),some (V.int nn0),none,none,none,none,none,none,none,none,none,none,none]=σx
  refine rest σx ⟨m0,nn0,?_,m01,m06,Uz⟩
  rw[←hσ]
 case jk2 =>
 rintro σ ⟨m,nn,rfl,m1,m6,nn1⟩
 refine⟨_,rfl,_,rfl,_,rfl,_,_,rfl,rfl,Bw (by decide) (by decide),_,rfl,_,_,rfl,rfl,_,_,rfl,rfl,by show (0:Int)<(m:Int)+1;omega,?_⟩
 have b0:=fo (c1.fdiv 192) (m:=(m:Int)+1) (by omega)
 have b1:=iP (c1.fdiv 192) (m:=(m:Int)+1) (by omega)
 obtain⟨n,hn,Cb⟩:∃n:Nat,c1.fdiv 192%((m:Int)+1)=(n:Int)∧n≤m:=⟨(c1.fdiv 192%((m:Int)+1)).toNat,by omega,by omega⟩
 dsimp only
 rw[hn]
 refine⟨a,ss,1,m,n,rfl,s1.seq hS,hl,by decide,m1,m6,Cb,fun q0 qs0 QM Uh H2 s2 Hj eq0 hR0 hF0 UA=>?_⟩
 have t2:=s1.trans s2
 dsimp only [aU]
 refine Lx (ι:=St) (κ:=Hp) (C:=fun σ H'=>∃(q:Addr) (qs:List Addr) (rs ds:List Rw),σ=[some (.ref a),some (.int c1),some (.int m),some (.int nn),some (.ref q),none,none,none,none,none,none,none,none,none,none]∧ao H H'∧H' q=some (.lst (rV qs))∧bY H' m qs rs∧Fr m rs ds∧rs.length≤m) (G:=?G3) (fun rest=>?ja3) ?jk3
 case ja3 =>
  refine⟨_,rfl,rfl,_,rfl,?_⟩
  have iY:∀σx:St,∀Hx:Hp,σx=[some (.ref a),some (.int c1),some (.int m),some (.int nn),some (.ref q0),none,none,none,none,none,none,none,none,none,none]→Hx=H2→∃(q:Addr) (qs:List Addr) (rs ds:List Rw),σx=[some (.ref a),some (.int c1),some (.int m),some (.int nn),some (.ref q),none,none,none,none,none,none,none,none,none,none]∧ao H Hx∧Hx q=some (.lst (rV qs))∧bY Hx m qs rs∧Fr m rs ds∧rs.length≤m:=fun σx Hx h1 h2=>⟨q0,qs0,QM,Uh,h1,h2▸t2,h2▸eq0,h2▸hR0,hF0,by omega⟩
  by_cases h5:m=5
  rotate_left
  ·refine bV (decide_eq_false fun z=>h5 (by injection z with z;omega)) ?_
   dsimp only [uX,aU]
   generalize hσ:List.set _ 4 _=σx
   generalize hH:H2=Hx
   exact rest σx Hx (iY σx Hx hσ.symm hH.symm)
  ·refine lK (decide_eq_true (by rw[h5];rfl)) ?_
   refine⟨_,rfl,_,_,rfl,rfl,Bw (by decide) (by decide),_,_,rfl,rfl,(by show (0:Int)<_;decide),rfl,_,rfl,ve (fun d1=>?_) (fun d1=>?_)⟩
   ·refine⟨_,rfl,_,_,rfl,rfl,Bw (by decide) (by decide),c1.fdiv 5376,rfl,by rw[Int.fdiv_eq_ediv_of_nonneg _ (by decide)];exact Int.ediv_nonneg Ek (by decide),fun q qs kk H3 s3 nq eq hk5 hR=>?_⟩
    obtain⟨QB,hl5⟩:=Es hk5
    dsimp only [aU]
    generalize hσ:List.set _ 4 _=σx
    refine rest σx H3 ⟨q,qs,zW kk wO,(QY kk).take 4,hσ.symm,t2.trans s3,eq,?_,?_,by omega⟩
    ·rw[h5];exact hR
    ·rw[h5];exact QB
   ·dsimp only [uX,aU]
    generalize hσ:List.set _ 4 _=σx
    generalize hH:H2=Hx
    exact rest σx Hx (iY σx Hx hσ.symm hH.symm)
 case jk3 =>
 clear hR0 hF0 UA eq0 Hj t2 s2
 rintro σ H3 ⟨q,qs,rs,ds,rfl,t3,eq,hR,hF,wN⟩
 have hql:qs.length=rs.length:=hR.l
 refine⟨_,rfl,_,rfl,q,_,rfl,.inl (.of eq),fun l1 UB x1 ud Lz Eu LA=>?_⟩
 have u1:=ao.new (o:=.lst (rV qs)) UB
 have LB:upd H3 l1 (.lst (rV qs)) l1=some (.lst (rV qs)):=ah
 generalize upd H3 l1 (.lst (rV qs))=H4 at u1 LB Lz Eu ⊢
 have v4:ao H4 (upd (upd H4 ud (.own x1)) x1 (.ins C ud [])):=(ao.new Eu).trans (ao.new (by rw[av (Ne.symm LA)];exact Lz))
 have w4:=u1.trans v4
 have D7:upd (upd H4 ud (.own x1)) x1 (.ins C ud []) x1=some (.ins C ud []):=ah
 generalize upd (upd H4 ud (.own x1)) x1 (.ins C ud [])=H5 at v4 w4 D7 ⊢
 refine⟨x1,ud,l1,qs,rs,ds,m,rfl,.of (v4 _ _ LB),hR.same w4,hF,m1,m6,wN,D7,fun z1 H6 ON OO OP=>⟨rfl,?_⟩⟩
 have s6:ao H3 H6:=fun b o h=>OP b o (aE (u1 _ _ h) Lz) (w4 _ _ h)
 have t6:=t3.trans s6
 have HQ:Fb H6 C x1 m rs:=⟨ud,z1,qs,ON,OO,hR.same s6⟩
 have eq:=s6 _ _ eq
 have hR:=hR.same s6
 dsimp only [aU]
 clear s6 OP ON OO D7 w4 v4 LB u1
 refine⟨_,rfl,_,rfl,_,rfl,q,_,rfl,.of eq,fun q2 K8=>?_⟩
 rw[Jg]
 have s8:=ao.new (o:=.lst (rV (qs.drop 1))) K8
 have eq2:upd H6 q2 (.lst (rV (qs.drop 1))) q2=some (.lst (rV (qs.drop 1))):=ah
 generalize upd H6 q2 (.lst (rV (qs.drop 1)))=H8 at s8 eq2 ⊢
 have t8:=t6.trans s8
 have HQ:=HQ.same s8
 have eq:=s8 _ _ eq
 have hR:=hR.same s8
 have UC:=bY.dp hR 1
 have hF2:=Fr.dp hF 1
 have UD:(rs.drop 1).length≤m:=by rw[List.length_drop];omega
 refine⟨q2,_,rfl,.inl (.of eq2),fun l1 UB x2 ud Lz Eu LA=>?_⟩
 have u1:=ao.new (o:=.lst (rV (qs.drop 1))) UB
 have LB:upd H8 l1 (.lst (rV (qs.drop 1))) l1=some (.lst (rV (qs.drop 1))):=ah
 generalize upd H8 l1 (.lst (rV (qs.drop 1)))=H9 at u1 LB Lz Eu ⊢
 have v4:ao H9 (upd (upd H9 ud (.own x2)) x2 (.ins C ud [])):=(ao.new Eu).trans (ao.new (by rw[av (Ne.symm LA)];exact Lz))
 have w4:=u1.trans v4
 have D7:upd (upd H9 ud (.own x2)) x2 (.ins C ud []) x2=some (.ins C ud []):=ah
 generalize upd (upd H9 ud (.own x2)) x2 (.ins C ud [])=He at v4 w4 D7 ⊢
 refine⟨x2,ud,l1,qs.drop 1,rs.drop 1,ds.drop 1,m,rfl,.of (v4 _ _ LB),UC.same w4,hF2,m1,m6,UD,D7,fun z1 E9 ON OO OP=>⟨rfl,?_⟩⟩
 have qO:ao H8 E9:=fun b o h=>OP b o (aE (u1 _ _ h) Lz) (w4 _ _ h)
 have t11:=t8.trans qO
 have UE:Fb E9 C x2 m (rs.drop 1):=⟨ud,z1,qs.drop 1,ON,OO,UC.same qO⟩
 have HQ:=HQ.same qO
 have eq:=qO _ _ eq
 have hR:=hR.same qO
 dsimp only [aU]
 clear qO OP ON OO D7 w4 v4 LB u1 UC eq2 s8
 refine yW (ι:=Int) (C:=fun z=>0≤z) (G:=?G4) (fun rest=>?ja4) ?jk4
 case ja4 =>
  refine⟨_,rfl,_,_,rfl,rfl,_,rfl,?_⟩
  by_cases h6:(m:Int)<6
  ·refine qF h6 ?_
   refine⟨_,rfl,_,_,rfl,rfl,_,_,rfl,rfl,(by show (0:Int)<_;decide),?_⟩
   have e0:=fo (nn+1) (m:=3) (by decide)
   dsimp only
   generalize (nn+1)%3=z at e0 ⊢
   exact rest z e0
  ·refine nt h6 ?_
   generalize hz:(0:Int)=z
   exact rest z (by omega)
 case jk4 =>
 intro z zn
 refine⟨_,rfl,_,rfl,q,_,rfl,.of eq,fun q3 nq3=>?_⟩
 rw[Jg]
 have qv:=ao.new (o:=.lst (rV (qs.drop 1))) nq3
 have eq3:upd E9 q3 (.lst (rV (qs.drop 1))) q3=some (.lst (rV (qs.drop 1))):=ah
 dsimp only [aU]
 generalize upd E9 q3 (.lst (rV (qs.drop 1)))=Jb at qv eq3 ⊢
 have t12:=t11.trans qv
 have HQ:=HQ.same qv
 have UE:=UE.same qv
 have eq:=qv _ _ eq
 have hR:=hR.same qv
 have hR3:=bY.dp hR 1
 refine⟨_,rfl,_,rfl,_,rfl,aI (by show 3≤1000;decide),fun g1 n1=>?_⟩
 have w1:=ao.new (o:=.tup [V.ref x1,V.ref q,V.int nn]) n1
 have e1:upd Jb g1 (.tup [V.ref x1,V.ref q,V.int nn]) g1=some (.tup [V.ref x1,V.ref q,V.int nn]):=ah
 generalize upd Jb g1 (.tup [V.ref x1,V.ref q,V.int nn])=J1 at w1 e1 ⊢
 refine⟨_,rfl,_,rfl,_,rfl,aI (by show 3≤1000;decide),fun g2 n2=>?_⟩
 have w2:=ao.new (o:=.tup [V.ref x1,V.ref q,V.int z]) n2
 have e2:upd J1 g2 (.tup [V.ref x1,V.ref q,V.int z]) g2=some (.tup [V.ref x1,V.ref q,V.int z]):=ah
 generalize upd J1 g2 (.tup [V.ref x1,V.ref q,V.int z])=J2 at w2 e2 ⊢
 refine⟨_,rfl,_,rfl,aI (by show 3≤1000;decide),fun g3 n3=>?_⟩
 have w3:=ao.new (o:=.tup [V.ref x2,V.ref q3,V.int 1]) n3
 have e3:upd J2 g3 (.tup [V.ref x2,V.ref q3,V.int 1]) g3=some (.tup [V.ref x2,V.ref q3,V.int 1]):=ah
 generalize upd J2 g3 (.tup [V.ref x2,V.ref q3,V.int 1])=J3 at w3 e3 ⊢
 refine⟨_,rfl,_,rfl,_,rfl,aI (by show 3≤1000;decide),fun g4 n4=>?_⟩
 have w5:=ao.new (o:=.tup [V.ref x1,V.ref q,V.int nn]) n4
 have e4:upd J3 g4 (.tup [V.ref x1,V.ref q,V.int nn]) g4=some (.tup [V.ref x1,V.ref q,V.int nn]):=ah
 generalize upd J3 g4 (.tup [V.ref x1,V.ref q,V.int nn])=J4 at w5 e4 ⊢
 refine⟨aI (by show 4≤1000;decide),fun gl nl=>?_⟩
 have w6:=ao.new (o:=.lst [V.ref g1,V.ref g2,V.ref g3,V.ref g4]) nl
 have el:upd J4 gl (.lst [V.ref g1,V.ref g2,V.ref g3,V.ref g4]) gl=some (.lst (rV [g1,g2,g3,g4])):=ah
 generalize upd J4 gl (.lst [V.ref g1,V.ref g2,V.ref g3,V.ref g4])=Mc at w6 el ⊢
 have uP:=w1.trans (w2.trans (w3.trans (w5.trans w6)))
 have UG:rs.length≤6:=by omega
 have UH:(rs.drop 1).length≤6:=by omega
 have A1:Ask Mc C m g1:=⟨x1,q,nn,qs,rs,ds,(w2.trans (w3.trans (w5.trans w6))) _ _ e1,nn1,HQ.same uP,uP _ _ eq,hR.same uP,hF,UG⟩
 have A2:Ask Mc C m g2:=⟨x1,q,z,qs,rs,ds,(w3.trans (w5.trans w6)) _ _ e2,zn,HQ.same uP,uP _ _ eq,hR.same uP,hF,UG⟩
 have A3:Ask Mc C m g3:=⟨x2,q3,1,qs.drop 1,rs.drop 1,ds.drop 1,(w5.trans w6) _ _ e3,by decide,UE.same uP,uP _ _ eq3,hR3.same uP,hF2,UH⟩
 have A4:Ask Mc C m g4:=⟨x1,q,nn,qs,rs,ds,w6 _ _ e4,nn1,HQ.same uP,uP _ _ eq,hR.same uP,hF,UG⟩
 clear w1 w2 w3 w5 w6 e1 e2 e3 e4
 refine⟨gl,rfl,⟨_,.of el⟩,d0 (K:=K) (a:=gl) (xs:=rV [g1,g2,g3,g4]) (fun i σ H'=>∃(v9 v10 v11 UI UJ UK:Option V),σ=[some (.ref a),some (.int c1),some (.int m),some (.int nn),some (.ref q),some (.ref x1),some (.ref x2),some (.int z),some (.ref q3),v9,v10,v11,UI,UJ,UK]∧ao Mc H') ⟨_,_,_,_,_,_,rfl,.refl Mc⟩ (fun i σ H' _ ⟨_,_,_,_,_,_,_,s'⟩=>.of (s' _ _ el)) ?_ ?_⟩
 ·rintro i y σ H14 hi ⟨v9,v10,v11,UI,UJ,UK,rfl,LC⟩
  obtain⟨g,hg,rfl⟩:=cy hi
  have hA:Ask H14 C m g:=by
   match i,hg with
   | 0,hg=>cases hg;exact A1.same LC
   | 1,hg=>cases hg;exact A2.same LC
   | 2,hg=>cases hg;exact A3.same LC
   | 3,hg=>cases hg;exact A4.same LC
   | i+4,hg=>cases hg
  obtain⟨x,l,nk,as,rk,dk,eg,Qq,hCk,UL,UM,hFk,hkl⟩:=hA
  refine⟨g,_,rfl,cL eg,rfl,_,_,rfl,_,_,rfl,_,_,rfl,rfl,?_⟩
  refine⟨_,rfl,l,as,rk,m,rfl,.of UL,UM,m6,by omega,fun d1 ps1 H15 QZ nd1 ed1 hP1=>?_⟩
  dsimp only [aU]
  refine⟨_,rfl,_,rfl,x,rk,dk,m,nk,rfl,hCk.same QZ,m1,m6,by omega,hFk,fun qt p ar H16 Me np UN ep hT=>?_,fun qt e a1 b1 d t u H16 Me UN ee ed ea eb ht hu Sa hno=>?_⟩
  ·have sm:=QZ.trans Me
   refine⟨qt,_,rfl,cL UN,rfl,_,_,rfl,_,_,rfl,rfl,?_⟩
   refine⟨_,rfl,rfl,_,rfl,fW ?_⟩
   refine⟨_,rfl,_,rfl,_,rfl,_,rfl,_,rfl,p,l,d1,as,rk,ps1,ar,m,nk,rfl,ep,hT,.of (sm _ _ UL),UM.same sm,Me _ _ ed1,hP1,m1,m6,by omega,fun H17 Q0=>⟨_,rfl,fW ?_⟩⟩
   have OQ:=Q0 _ _ ep
   refine⟨_,rfl,.inr (.inr (.inl ⟨rfl,.inl ⟨_,OQ⟩⟩)),p,ar,rfl,rfl,OQ,?_⟩
   exact⟨_,_,_,_,_,_,rfl,LC.trans (QZ.trans ((Me.trans Q0).upd np))⟩
  ·have sm:=QZ.trans Me
   refine⟨qt,_,rfl,cL UN,rfl,_,_,rfl,_,_,rfl,rfl,?_⟩
   refine⟨_,rfl,rfl,_,rfl,xq ?_⟩
   refine⟨_,rfl,rfl,_,rfl,fW ?_⟩
   refine⟨_,rfl,_,rfl,_,rfl,_,rfl,_,rfl,e,a1,b1,d,l,d1,as,rk,ps1,t,u,m,nk,rfl,ee,ed,ea,eb,ht,hu,Sa,hno,.of (sm _ _ UL),UM.same sm,Me _ _ ed1,hP1,m6,Qq,by omega,fun H17 Q0=>⟨_,rfl,fW ?_⟩⟩
   exact⟨_,_,_,_,_,_,rfl,LC.trans (sm.trans Q0)⟩
 ·rintro σ H14 ⟨v9,v10,v11,UI,UJ,UK,rfl,LC⟩
  exact k _
end
end iE
set_option maxHeartbeats 4000000
namespace iE
open PySem L2 TC
theorem lq {us:List Value}{n:Nat}(h:us.length=n+1):∃x vs,us=x::vs∧vs.length=n:=by cases us with|nil=>cases h|cons x vs=>exact⟨x,vs,rfl,Nat.succ.inj h⟩
theorem lr {us:List Value}(h:us.length=1):∃x0,us=[x0]:=by obtain⟨x0,u0,rfl,h0⟩:=lq h;have e:=length_eq_zero_iff.mp h0;subst e;exact⟨x0,rfl⟩
theorem gJ {us:List Value}(h:us.length=2):∃x0 x1,us=[x0,x1]:=by obtain⟨x0,u0,rfl,h0⟩:=lq h;obtain⟨x1,u1,rfl,h1⟩:=lq h0;have e:=length_eq_zero_iff.mp h1;subst e;exact⟨x0,x1,rfl⟩
theorem OR {us:List Value}(h:us.length=3):∃x0 x1 x2,us=[x0,x1,x2]:=by obtain⟨x0,u0,rfl,h0⟩:=lq h;obtain⟨x1,u1,rfl,h1⟩:=lq h0;obtain⟨x2,u2,rfl,h2⟩:=lq h1;have e:=length_eq_zero_iff.mp h2;subst e;exact⟨x0,x1,x2,rfl⟩
theorem OS {us:List Value}(h:us.length=4):∃x0 x1 x2 x3,us=[x0,x1,x2,x3]:=by obtain⟨x0,u0,rfl,h0⟩:=lq h;obtain⟨x1,u1,rfl,h1⟩:=lq h0;obtain⟨x2,u2,rfl,h2⟩:=lq h1;obtain⟨x3,u3,rfl,h3⟩:=lq h2;have e:=length_eq_zero_iff.mp h3;subst e;exact⟨x0,x1,x2,x3,rfl⟩
theorem OT {us:List Value}(h:us.length=5):∃x0 x1 x2 x3 x4,us=[x0,x1,x2,x3,x4]:=by obtain⟨x0,u0,rfl,h0⟩:=lq h;obtain⟨x1,u1,rfl,h1⟩:=lq h0;obtain⟨x2,u2,rfl,h2⟩:=lq h1;obtain⟨x3,u3,rfl,h3⟩:=lq h2;obtain⟨x4,u4,rfl,h4⟩:=lq h3;have e:=length_eq_zero_iff.mp h4;subst e;exact⟨x0,x1,x2,x3,x4,rfl⟩
theorem all_mk {l:PySem.W.OpenLaw}{w:World}{K:Frag}{h:Heap}{mg:Str→Option Value}{fa:Addr}(X:K.In h) (G:h.Ns mainGlobals mg) (hfa:mg "law"=some (.ref fa))
  {f0:Addr}{od0 an0:Option Addr}{sl0:Array (Option Value)}{oc0 kV0 dc0 pm0 cd0 ct0:Value}
  {f1:Addr}{od1 an1:Option Addr}{sl1:Array (Option Value)}{oc1 kV1 dc1 pm1 cd1 ct1:Value}
  {f2:Addr}{od2 an2:Option Addr}{sl2:Array (Option Value)}{oc2 kV2 dc2 pm2 cd2 ct2:Value}
  {f3:Addr}{od3 an3:Option Addr}{sl3:Array (Option Value)}{oc3 kV3 dc3 pm3 cd3 ct3:Value}
  {f4:Addr}{od4 an4:Option Addr}{sl4:Array (Option Value)}{oc4 kV4 dc4 pm4 cd4 ct4:Value}
  {f5:Addr}{od5 an5:Option Addr}{sl5:Array (Option Value)}{oc5 kV5 dc5 pm5 cd5 ct5:Value}
  {f6:Addr}{od6 an6:Option Addr}{sl6:Array (Option Value)}{oc6 kV6 dc6 pm6 cd6 ct6:Value}
  {f7:Addr}{od7 an7:Option Addr}{sl7:Array (Option Value)}{oc7 kV7 dc7 pm7 cd7 ct7:Value}
  {f8:Addr}{od8 an8:Option Addr}{sl8:Array (Option Value)}{oc8 kV8 dc8 pm8 cd8 ct8:Value}
  {f9:Addr}{od9 an9:Option Addr}{sl9:Array (Option Value)}{oc9 kV9 dc9 pm9 cd9 ct9:Value}
  {UO:Addr}{UP UQ:Option Addr}{UR:Array (Option Value)}{US UT UU UW OU UX:Value}
  {UY:Addr}{UZ U0:Option Addr}{U1:Array (Option Value)}{U2 U3 U4 U5 OV U6:Value}
  {U7:Addr}{U8 U9:Option Addr}{Va:Array (Option Value)}{Vb Vc Vd Ve OW Vf:Value}
  {Vg:Addr}{Vh Vi:Option Addr}{Vj:Array (Option Value)}{Vk Vl Vm Vn OX Vo:Value}
  {Vp:Addr}{Vq Vr:Option Addr}{Vs:Array (Option Value)}{Vt Vu Vv Vw OY Vx:Value}
  {Vy:Addr}{Vz VA:Option Addr}{VB:Array (Option Value)}{VC VD VE VF OZ VG:Value}
  {VH:Addr}{VI VJ:Option Addr}{VL:Array (Option Value)}{VM VN VO VP O0 VQ:Value}
  {VR:Addr}{VS VT:Option Addr}{VU:Array (Option Value)}{VW VX VY VZ O1 V0:Value}
  {V1:Addr}{V2 V3:Option Addr}{V4:Array (Option Value)}{V5 V6 V7 V8 O2 V9:Value}
  {Wa:Addr}{Wb Wc:Option Addr}{Wd:Array (Option Value)}{We Wf Wg Wh O3 Wi:Value}
  {Wj:Addr}{Wl Wm:Option Addr}{Wn:Array (Option Value)}{Wo Wq Wr Ws O4 Wt:Value}
  {Wu:Addr}{Wv Ww:Option Addr}{Wx:Array (Option Value)}{Wy Wz WA WB O5 WC:Value}
  {WD:Addr}{WE WG:Option Addr}{WH:Array (Option Value)}{WI WJ WK WL O6 WM:Value}
  {WN:Addr}{WO WQ:Option Addr}{WR:Array (Option Value)}{WS WT WU WV O7 WW:Value}
  {WX:Addr}{WY WZ:Option Addr}{W3:Array (Option Value)}{W4 W5 W6 W7 O8 W8:Value}
  {W9:Addr}{Xa Xb:Option Addr}{Xc:Array (Option Value)}{Xd Xe Xf Xg O9 Xh:Value}
  {Xi:Addr}{Xj Xk:Option Addr}{Xl:Array (Option Value)}{Xm Xn Xo Xp Pa Xq:Value}
  {Xr:Addr}{Xs Xt:Option Addr}{Xu:Array (Option Value)}{Xv Xw Xx Xy Pb Xz:Value}
  {XA:Addr}{XC XD:Option Addr}{XE:Array (Option Value)}{XF XG XH XI Pc XJ:Value}
  {XM:Addr}{XN XO:Option Addr}{XQ:Array (Option Value)}{XR XT XU XW Pe XX:Value}
  {XY:Addr}{XZ X1:Option Addr}{X2:Array (Option Value)}{X3 X4 X5 X6 Pf X7:Value}
  {X8:Addr}{X9 Ya:Option Addr}{Yb:Array (Option Value)}{Yc Yd Ye Yf Pg Yg:Value}
  {Yh:Addr}{Yi Yj:Option Addr}{Yk:Array (Option Value)}{Yl Ym Yn Yo Ph Yp:Value}
  {Yq:Addr}{Yr Ys:Option Addr}{Yt:Array (Option Value)}{Yu Yv Yw Yx Pj Yy:Value}
  {Yz:Addr}{YA YB:Option Addr}{YC:Array (Option Value)}{YD YE YF YG Pk YH:Value}
  {YI:Addr}{YJ YK:Option Addr}{YL:Array (Option Value)}{YM YN YO YQ Pl YR:Value}
  {YS:Addr}{YT YU:Option Addr}{YV:Array (Option Value)}{YW YX YY YZ Pm Y0:Value}
  {Y1:Addr}{Y2 Pn:Option Addr}{Y3:Array (Option Value)}{Y4 Po Pp Pq LD Pt:Value}
  {cB:Addr}{LF:ClassData}
  {bQ:Addr}{wx:ClassData}
  {js:Addr}{Ew:ClassData}
  {jt:Addr}{Ex:ClassData}
  {ju:Addr}{Ey:ClassData}
  {ij:Addr}{Be:ClassData}
  {jv:Addr}{Ez:ClassData}
  {ik:Addr}{Bf:ClassData}
  {il:Addr}{Bg:ClassData}
  {jw:Addr}{EA:ClassData}
  {aA:Addr}{yw:ClassData}
  {jx:Addr}{EB:ClassData}
  {jy:Addr}{EC:ClassData}
  {jz:Addr}{ED:ClassData}
  {fA:Addr}{ue uf:Option Addr}{ug:Array (Option Value)}{uh ui uk uo lY uq:Value}
  {dB:Addr}{lZ ma:Option Addr}{mf:Array (Option Value)}{mh ml mm mn gE mv:Value}
  {e8:Addr}{pB pC:Option Addr}{pE:Array (Option Value)}{pF pG pH pI jA pJ:Value}
  {cq:Addr}{jB jC:Option Addr}{jD:Array (Option Value)}{jE jF jG jH fB jI:Value}
  {fc:Addr}{pK pL:Option Addr}{pM:Array (Option Value)}{pN pO pP pQ jJ pR:Value}
  {txs:Tok}
  {tzs:Tok}
  {tmc:Tok}
  (a0:nsIn K mainGlobals "count_bits"=some (some (.ref f0)))
  (l0:K.lookup f0=some ⟨oc0,od0,.func (fnOf "count_bits" "count_bits" (ax dq) (aw dq) (af dq) .none kV0 dc0 pm0 an0 cd0 ct0),sl0⟩)
  (c0:codeIn K cd0 "count_bits"=true)
  (k0:keepIn K (.ref f0)=true)
  (a1:nsIn K mainGlobals "with_sign_changed"=some (some (.ref f1)))
  (l1:K.lookup f1=some ⟨oc1,od1,.func (fnOf "with_sign_changed" "with_sign_changed" (ax bp) (aw bp) (af bp) .none kV1 dc1 pm1 an1 cd1 ct1),sl1⟩)
  (c1:codeIn K cd1 "with_sign_changed"=true)
  (k1:keepIn K (.ref f1)=true)
  (a2:nsIn K mainGlobals "is_row"=some (some (.ref f2)))
  (l2:K.lookup f2=some ⟨oc2,od2,.func (fnOf "is_row" "is_row" (ax ig) (aw ig) (af ig) .none kV2 dc2 pm2 an2 cd2 ct2),sl2⟩)
  (c2:codeIn K cd2 "is_row"=true)
  (k2:keepIn K (.ref f2)=true)
  (a3:nsIn K mainGlobals "product"=some (some (.ref f3)))
  (l3:K.lookup f3=some ⟨oc3,od3,.func (fnOf "product" "product" (ax fN) (aw fN) (af fN) .none kV3 dc3 pm3 an3 cd3 ct3),sl3⟩)
  (c3:codeIn K cd3 "product"=true)
  (k3:keepIn K (.ref f3)=true)
  (a4:nsIn K mainGlobals "agree"=some (some (.ref f4)))
  (l4:K.lookup f4=some ⟨oc4,od4,.func (fnOf "agree" "agree" (ax kg) (aw kg) (af kg) .none kV4 dc4 pm4 an4 cd4 ct4),sl4⟩)
  (c4:codeIn K cd4 "agree"=true)
  (k4:keepIn K (.ref f4)=true)
  (a5:nsIn K mainGlobals "is_even"=some (some (.ref f5)))
  (l5:K.lookup f5=some ⟨oc5,od5,.func (fnOf "is_even" "is_even" (ax fO) (aw fO) (af fO) .none kV5 dc5 pm5 an5 cd5 ct5),sl5⟩)
  (c5:codeIn K cd5 "is_even"=true)
  (k5:keepIn K (.ref f5)=true)
  (a6:nsIn K mainGlobals "letters"=some (some (.ref f6)))
  (l6:K.lookup f6=some ⟨oc6,od6,.func (fnOf "letters" "letters" (ax fP) (aw fP) (af fP) .none kV6 dc6 pm6 an6 cd6 ct6),sl6⟩)
  (c6:codeIn K cd6 "letters"=true)
  (k6:keepIn K (.ref f6)=true)
  (a7:nsIn K mainGlobals "leading_column"=some (some (.ref f7)))
  (l7:K.lookup f7=some ⟨oc7,od7,.func (fnOf "leading_column" "leading_column" (ax bS) (aw bS) (af bS) .none kV7 dc7 pm7 an7 cd7 ct7),sl7⟩)
  (c7:codeIn K cd7 "leading_column"=true)
  (k7:keepIn K (.ref f7)=true)
  (a8:nsIn K mainGlobals "has_column"=some (some (.ref f8)))
  (l8:K.lookup f8=some ⟨oc8,od8,.func (fnOf "has_column" "has_column" (ax dt) (aw dt) (af dt) .none kV8 dc8 pm8 an8 cd8 ct8),sl8⟩)
  (c8:codeIn K cd8 "has_column"=true)
  (k8:keepIn K (.ref f8)=true)
  (a9:nsIn K mainGlobals "check_even"=some (some (.ref f9)))
  (l9:K.lookup f9=some ⟨oc9,od9,.func (fnOf "check_even" "check_even" (ax du) (aw du) (af du) .none kV9 dc9 pm9 an9 cd9 ct9),sl9⟩)
  (c9:codeIn K cd9 "check_even"=true)
  (k9:keepIn K (.ref f9)=true)
  (Y5:nsIn K mainGlobals "check_agreeing"=some (some (.ref UO)))
  (Y6:K.lookup UO=some ⟨US,UP,.func (fnOf "check_agreeing" "check_agreeing" (ax bT) (aw bT) (af bT) .none UT UU UW UQ OU UX),UR⟩)
  (Ek:codeIn K OU "check_agreeing"=true)
  (Y7:keepIn K (.ref UO)=true)
  (Y8:nsIn K mainGlobals "made_product"=some (some (.ref UY)))
  (Y9:K.lookup UY=some ⟨U2,UZ,.func (fnOf "made_product" "made_product" (ax cz) (aw cz) (af cz) .none U3 U4 U5 U0 OV U6),U1⟩)
  (HF:codeIn K OV "made_product"=true)
  (Za:keepIn K (.ref UY)=true)
  (Zb:nsIn K mainGlobals "made_leading_column"=some (some (.ref U7)))
  (Zc:K.lookup U7=some ⟨Vb,U8,.func (fnOf "made_leading_column" "made_leading_column" (ax aY) (aw aY) (af aY) .none Vc Vd Ve U9 OW Vf),Va⟩)
  (Zd:codeIn K OW "made_leading_column"=true)
  (Ze:keepIn K (.ref U7)=true)
  (Zf:nsIn K mainGlobals "cleared"=some (some (.ref Vg)))
  (Zg:K.lookup Vg=some ⟨Vk,Vh,.func (fnOf "cleared" "cleared" (ax fQ) (aw fQ) (af fQ) .none Vl Vm Vn Vi OX Vo),Vj⟩)
  (Zh:codeIn K OX "cleared"=true)
  (Zi:keepIn K (.ref Vg)=true)
  (Zj:nsIn K mainGlobals "numbers_made_of"=some (some (.ref Vp)))
  (Zk:K.lookup Vp=some ⟨Vt,Vq,.func (fnOf "numbers_made_of" "numbers_made_of" (ax bh) (aw bh) (af bh) .none Vu Vv Vw Vr OY Vx),Vs⟩)
  (Zl:codeIn K OY "numbers_made_of"=true)
  (Zm:keepIn K (.ref Vp)=true)
  (Zn:nsIn K mainGlobals "least_made"=some (some (.ref Vy)))
  (Zo:K.lookup Vy=some ⟨VC,Vz,.func (fnOf "least_made" "least_made" (ax cF) (aw cF) (af cF) .none VD VE VF VA OZ VG),VB⟩)
  (Zp:codeIn K OZ "least_made"=true)
  (Zq:keepIn K (.ref Vy)=true)
  (Zr:nsIn K mainGlobals "made_of"=some (some (.ref VH)))
  (Zs:K.lookup VH=some ⟨VM,VI,.func (fnOf "made_of" "made_of" (ax fS) (aw fS) (af fS) .none VN VO VP VJ O0 VQ),VL⟩)
  (Zt:codeIn K O0 "made_of"=true)
  (Zu:keepIn K (.ref VH)=true)
  (Zv:nsIn K mainGlobals "least_rows"=some (some (.ref VR)))
  (Zw:K.lookup VR=some ⟨VW,VS,.func (fnOf "least_rows" "least_rows" (ax cG) (aw cG) (af cG) .none VX VY VZ VT O1 V0),VU⟩)
  (Zx:codeIn K O1 "least_rows"=true)
  (Zy:keepIn K (.ref VR)=true)
  (Zz:nsIn K mainGlobals "check_code"=some (some (.ref V1)))
  (ZA:K.lookup V1=some ⟨V5,V2,.func (fnOf "check_code" "check_code" (ax dw) (aw dw) (af dw) .none V6 V7 V8 V3 O2 V9),V4⟩)
  (ZC:codeIn K O2 "check_code"=true)
  (ZD:keepIn K (.ref V1)=true)
  (ZE:nsIn K mainGlobals "turns_up_to"=some (some (.ref Wa)))
  (ZF:K.lookup Wa=some ⟨We,Wb,.func (fnOf "turns_up_to" "turns_up_to" (ax bP) (aw bP) (af bP) .none Wf Wg Wh Wc O3 Wi),Wd⟩)
  (ZG:codeIn K O3 "turns_up_to"=true)
  (ZH:keepIn K (.ref Wa)=true)
  (ZI:nsIn K mainGlobals "_law_number"=some (some (.ref Wj)))
  (ZJ:K.lookup Wj=some ⟨Wo,Wl,.func (fnOf "_law_number" "_law_number" (ax dy) (aw dy) (af dy) .none Wq Wr Ws Wm O4 Wt),Wn⟩)
  (ZK:codeIn K O4 "_law_number"=true)
  (ZL:keepIn K (.ref Wj)=true)
  (ZM:nsIn K mainGlobals "_law_odd"=some (some (.ref Wu)))
  (ZN:K.lookup Wu=some ⟨Wy,Wv,.func (fnOf "_law_odd" "_law_odd" (ax fT) (aw fT) (af fT) .none Wz WA WB Ww O5 WC),Wx⟩)
  (ZO:codeIn K O5 "_law_odd"=true)
  (ZP:keepIn K (.ref Wu)=true)
  (ZQ:nsIn K mainGlobals "_law_gate"=some (some (.ref WD)))
  (ZR:K.lookup WD=some ⟨WI,WE,.func (fnOf "_law_gate" "_law_gate" (ax eG) (aw eG) (af eG) .none WJ WK WL WG O6 WM),WH⟩)
  (ZT:codeIn K O6 "_law_gate"=true)
  (ZU:keepIn K (.ref WD)=true)
  (ZV:nsIn K mainGlobals "_law_shifted"=some (some (.ref WN)))
  (ZW:K.lookup WN=some ⟨WS,WO,.func (fnOf "_law_shifted" "_law_shifted" (ax cR) (aw cR) (af cR) .none WT WU WV WQ O7 WW),WR⟩)
  (ZX:codeIn K O7 "_law_shifted"=true)
  (ZY:keepIn K (.ref WN)=true)
  (ZZ:nsIn K mainGlobals "_law_times"=some (some (.ref WX)))
  (Z0:K.lookup WX=some ⟨W4,WY,.func (fnOf "_law_times" "_law_times" (ax dW) (aw dW) (af dW) .none W5 W6 W7 WZ O8 W8),W3⟩)
  (Z1:codeIn K O8 "_law_times"=true)
  (Z2:keepIn K (.ref WX)=true)
  (Z3:nsIn K mainGlobals "_law_checks"=some (some (.ref W9)))
  (Z4:K.lookup W9=some ⟨Xd,Xa,.func (fnOf "_law_checks" "_law_checks" (ax bO) (aw bO) (af bO) .none Xe Xf Xg Xb O9 Xh),Xc⟩)
  (Z5:codeIn K O9 "_law_checks"=true)
  (Z6:keepIn K (.ref W9)=true)
  (Z7:nsIn K mainGlobals "_law_marks_of"=some (some (.ref Xi)))
  (Z8:K.lookup Xi=some ⟨Xm,Xj,.func (fnOf "_law_marks_of" "_law_marks_of" (ax cA) (aw cA) (af cA) .none Xn Xo Xp Xk Pa Xq),Xl⟩)
  (Z9:codeIn K Pa "_law_marks_of"=true)
  (k26:keepIn K (.ref Xi)=true)
  (a27:nsIn K mainGlobals "_law_made"=some (some (.ref Xr)))
  (l27:K.lookup Xr=some ⟨Xv,Xs,.func (fnOf "_law_made" "_law_made" (ax eI) (aw eI) (af eI) .none Xw Xx Xy Xt Pb Xz),Xu⟩)
  (c27:codeIn K Pb "_law_made"=true)
  (k27:keepIn K (.ref Xr)=true)
  (a28:nsIn K mainGlobals "_law_letters"=some (some (.ref XA)))
  (l28:K.lookup XA=some ⟨XF,XC,.func (fnOf "_law_letters" "_law_letters" (ax cn) (aw cn) (af cn) .none XG XH XI XD Pc XJ),XE⟩)
  (c28:codeIn K Pc "_law_letters"=true)
  (k28:keepIn K (.ref XA)=true)
  (a29:nsIn K mainGlobals "_law_turns"=some (some (.ref XM)))
  (l29:K.lookup XM=some ⟨XR,XN,.func (fnOf "_law_turns" "_law_turns" (ax dU) (aw dU) (af dU) .none XT XU XW XO Pe XX),XQ⟩)
  (c29:codeIn K Pe "_law_turns"=true)
  (k29:keepIn K (.ref XM)=true)
  (a30:nsIn K mainGlobals "_law_is_turn"=some (some (.ref XY)))
  (l30:K.lookup XY=some ⟨X3,XZ,.func (fnOf "_law_is_turn" "_law_is_turn" (ax cQ) (aw cQ) (af cQ) .none X4 X5 X6 X1 Pf X7),X2⟩)
  (c30:codeIn K Pf "_law_is_turn"=true)
  (k30:keepIn K (.ref XY)=true)
  (a31:nsIn K mainGlobals "_law_others"=some (some (.ref X8)))
  (l31:K.lookup X8=some ⟨Yc,X9,.func (fnOf "_law_others" "_law_others" (ax dA) (aw dA) (af dA) .none Yd Ye Yf Ya Pg Yg),Yb⟩)
  (c31:codeIn K Pg "_law_others"=true)
  (k31:keepIn K (.ref X8)=true)
  (a32:nsIn K mainGlobals "_law_ring"=some (some (.ref Yh)))
  (l32:K.lookup Yh=some ⟨Yl,Yi,.func (fnOf "_law_ring" "_law_ring" (ax eO) (aw eO) (af eO) .none Ym Yn Yo Yj Ph Yp),Yk⟩)
  (c32:codeIn K Ph "_law_ring"=true)
  (k32:keepIn K (.ref Yh)=true)
  (a33:nsIn K mainGlobals "_law_told"=some (some (.ref Yq)))
  (l33:K.lookup Yq=some ⟨Yu,Yr,.func (fnOf "_law_told" "_law_told" (ax eJ) (aw eJ) (af eJ) .none Yv Yw Yx Ys Pj Yy),Yt⟩)
  (c33:codeIn K Pj "_law_told"=true)
  (k33:keepIn K (.ref Yq)=true)
  (a34:nsIn K mainGlobals "_law_both"=some (some (.ref Yz)))
  (l34:K.lookup Yz=some ⟨YD,YA,.func (fnOf "_law_both" "_law_both" (ax eK) (aw eK) (af eK) .none YE YF YG YB Pk YH),YC⟩)
  (c34:codeIn K Pk "_law_both"=true)
  (k34:keepIn K (.ref Yz)=true)
  (a35:nsIn K mainGlobals "_law_is_table"=some (some (.ref YI)))
  (l35:K.lookup YI=some ⟨YM,YJ,.func (fnOf "_law_is_table" "_law_is_table" (ax bF) (aw bF) (af bF) .none YN YO YQ YK Pl YR),YL⟩)
  (c35:codeIn K Pl "_law_is_table"=true)
  (k35:keepIn K (.ref YI)=true)
  (a36:nsIn K mainGlobals "_law_cant"=some (some (.ref YS)))
  (l36:K.lookup YS=some ⟨YW,YT,.func (fnOf "_law_cant" "_law_cant" (ax eN) (aw eN) (af eN) .none YX YY YZ YU Pm Y0),YV⟩)
  (c36:codeIn K Pm "_law_cant"=true)
  (k36:keepIn K (.ref YS)=true)
  (a37:nsIn K mainGlobals "law"=some (some (.ref Y1)))
  (l37:K.lookup Y1=some ⟨Y4,Y2,.func (fnOf "law" "law" (ax lX) (aw lX) (af lX) .none Po Pp Pq Pn LD Pt),Y3⟩)
  (c37:codeIn K LD "law"=true)
  (k37:keepIn K (.ref Y1)=true)
  (z1:nsIn K mainGlobals "len"=some none)
  (z2:nsIn K mainGlobals "range"=some none)
  (z3:nsIn K mainGlobals "abs"=some none)
  (z4:nsIn K mainGlobals "any"=some none)
  (z5:nsIn K mainGlobals "all"=some none)
  (z6:nsIn K mainGlobals "isinstance"=some none)
  (z7:nsIn K mainGlobals "int"=some none)
  (z8:nsIn K mainGlobals "bool"=some none)
  (z9:nsIn K mainGlobals "list"=some none)
  (Nf:nsIn K mainGlobals "str"=some none)
  (Ng:nsIn K mainGlobals "tuple"=some none)
  (Nh:nsIn K mainGlobals "enumerate"=some none)
  (Ni:nsIn K mainGlobals "ValueError"=some none)
  (ur:nsIn K mainGlobals "Code"=some (some (.ref cB)))
  (yx:PySem.W.clsIn K cB=some LF)
  (yz:PySem.W.typeIn K (.ref cB)=some (.type "type"))
  (jK:nsIn K mainGlobals "CoinError"=some (some (.ref bQ)))
  (jL:PySem.W.clsIn K bQ=some wx)
  (jM:PySem.W.typeIn K (.ref bQ)=some (.type "type"))
  (pS:nsIn K mainGlobals "NoList"=some (some (.ref js)))
  (pT:PySem.W.clsIn K js=some Ew)
  (pU:PySem.W.typeIn K (.ref js)=some (.type "type"))
  (pV:nsIn K mainGlobals "NoGate"=some (some (.ref jt)))
  (pW:PySem.W.clsIn K jt=some Ex)
  (pX:PySem.W.typeIn K (.ref jt)=some (.type "type"))
  (pY:nsIn K mainGlobals "NoLook"=some (some (.ref ju)))
  (pZ:PySem.W.clsIn K ju=some Ey)
  (p5:PySem.W.typeIn K (.ref ju)=some (.type "type"))
  (mW:nsIn K mainGlobals "NotFree"=some (some (.ref ij)))
  (mX:PySem.W.clsIn K ij=some Be)
  (mY:PySem.W.typeIn K (.ref ij)=some (.type "type"))
  (p6:nsIn K mainGlobals "NoRows"=some (some (.ref jv)))
  (p7:PySem.W.clsIn K jv=some Ez)
  (p8:PySem.W.typeIn K (.ref jv)=some (.type "type"))
  (mZ:nsIn K mainGlobals "NoShort"=some (some (.ref ik)))
  (m4:PySem.W.clsIn K ik=some Bf)
  (m5:PySem.W.typeIn K (.ref ik)=some (.type "type"))
  (m7:nsIn K mainGlobals "NoTable"=some (some (.ref il)))
  (m8:PySem.W.clsIn K il=some Bg)
  (m9:PySem.W.typeIn K (.ref il)=some (.type "type"))
  (p9:nsIn K mainGlobals "NoCode"=some (some (.ref jw)))
  (qa:PySem.W.clsIn K jw=some EA)
  (qb:PySem.W.typeIn K (.ref jw)=some (.type "type"))
  (lu:nsIn K mainGlobals "CantMend"=some (some (.ref aA)))
  (iK:PySem.W.clsIn K aA=some yw)
  (lA:PySem.W.typeIn K (.ref aA)=some (.type "type"))
  (qc:nsIn K mainGlobals "NoText"=some (some (.ref jx)))
  (qd:PySem.W.clsIn K jx=some EB)
  (qe:PySem.W.typeIn K (.ref jx)=some (.type "type"))
  (qg:nsIn K mainGlobals "NoName"=some (some (.ref jy)))
  (qh:PySem.W.clsIn K jy=some EC)
  (qi:PySem.W.typeIn K (.ref jy)=some (.type "type"))
  (qj:nsIn K mainGlobals "NoLine"=some (some (.ref jz)))
  (qk:PySem.W.clsIn K jz=some ED)
  (ql:PySem.W.typeIn K (.ref jz)=some (.type "type"))
  (nF:PySem.W.findIn K (.ref aA) "__init__"=some (some (.ref fA)))
  (jN:K.lookup fA=some ⟨uh,ue,.func (fnOf "__init__" "CantMend.__init__" (ax dR) (aw dR) (af dR) .none ui uk uo uf lY uq),ug⟩)
  (jO:codeIn K lY "CantMend.__init__"=true)
  (jP:keepIn K (.ref fA)=true)
  (jQ:kG K aA fA=true)
  (jR:PySem.W.typeIn K (.ref fA)=some (.type "function"))
  (jS:PySem.W.findIn K (.ref aA) "__getattribute__"=some (some (.builtin "BaseException.__getattribute__")))
  (jT:PySem.W.findIn K (.ref aA) "__getattr__"=some none)
  (jU:PySem.W.findIn K (.ref aA) "__class__"=some (some (.builtin "object.__class__")))
  (jV:PySem.W.subIn K (.ref aA) (.type "BaseException")=some true)
  (jW:PySem.W.subIn K (.ref aA) (.type "object")=some true)
  (jX:PySem.W.subIn K (.ref aA) (.ref aA)=some true)
  (jY:PySem.W.findIn K (.ref aA) "__setattr__"=some (some (.builtin "object.__setattr__")))
  (jZ:xR K aA=true)
  (j3:PySem.W.hasDictIn K aA=true)
  (ko:PySem.W.plainGet K cB Str.empty=true)
  (kq:PySem.W.hasDictIn K cB=true)
  (kr:PySem.W.plainOver K cB=true)
  (ku:PySem.W.findIn K (.ref cB) "__setattr__"=some (some (.builtin "object.__setattr__")))
  (uu:PySem.W.makesIn K cB=true)
  (uv:keepIn K (.ref cB)=true)
  (eP:PySem.W.findIn K (.ref cB) "__init__"=some (some (.ref dB)))
  (eQ:K.lookup dB=some ⟨mh,lZ,.func (fnOf "__init__" "Code.__init__" (ax cc) (aw cc) (af cc) .none ml mm mn ma gE mv),mf⟩)
  (eR:codeIn K gE "Code.__init__"=true)
  (eS:keepIn K (.ref dB)=true)
  (eU:PySem.W.isFn K (.ref dB)=true)
  (gK:PySem.W.findIn K (.ref cB) "marks"=some (some (.ref e8)))
  (gM:K.lookup e8=some ⟨pF,pB,.func (fnOf "marks" "Code.marks" (ax cH) (aw cH) (af cH) .none pG pH pI pC jA pJ),pE⟩)
  (gN:codeIn K jA "Code.marks"=true)
  (gO:keepIn K (.ref e8)=true)
  (gP:PySem.W.isFn K (.ref e8)=true)
  (dD:PySem.W.findIn K (.ref cB) "is_harmless"=some (some (.ref cq)))
  (dE:K.lookup cq=some ⟨jE,jB,.func (fnOf "is_harmless" "Code.is_harmless" (ax bB) (aw bB) (af bB) .none jF jG jH jC fB jI),jD⟩)
  (dF:codeIn K fB "Code.is_harmless"=true)
  (dG:keepIn K (.ref cq)=true)
  (dH:PySem.W.isFn K (.ref cq)=true)
  (gQ:PySem.W.findIn K (.ref cB) "table"=some (some (.ref fc)))
  (gR:K.lookup fc=some ⟨pN,pK,.func (fnOf "table" "Code.table" (ax dz) (aw dz) (af dz) .none pO pP pQ pL jJ pR),pM⟩)
  (gS:codeIn K jJ "Code.table"=true)
  (gT:keepIn K (.ref fc)=true)
  (gU:PySem.W.isFn K (.ref fc)=true)
  (ff:PySem.W.findIn K (.ref cB) "coins"=some none)
  (dm:PySem.W.findIn K (.ref cB) "checks"=some none)
  (dJ:PySem.W.findIn K (.ref aA) "one"=some none)
  (da:PySem.W.findIn K (.ref aA) "other"=some none)
  (iL:PySem.W.specialIn K (.ref bQ) "__getattribute__"=some (some (.builtin "type.__getattribute__")))
  (iM:PySem.W.readsIn K bQ (.type "type")=true)
  (iN:PySem.W.findCls K (.ref bQ) (.type "type") "__init__"=some (.val (.builtin "ValueError.__init__")))
  (cb:PySem.W.subIn K (.ref bQ) (.type "BaseException")=some true)
  (eM:PySem.W.subIn K (.ref aA) (.ref bQ)=some true)
  (vM:PySem.W.subIn K (.ref aA) (.type "ValueError")=some true)
  (om0:PySem.W.subIn K (.ref aA) (.ref js)=some false)
  (om1:PySem.W.subIn K (.ref aA) (.ref jt)=some false)
  (om2:PySem.W.subIn K (.ref aA) (.ref ju)=some false)
  (om3:PySem.W.subIn K (.ref aA) (.ref ij)=some false)
  (om4:PySem.W.subIn K (.ref aA) (.ref jv)=some false)
  (om5:PySem.W.subIn K (.ref aA) (.ref ik)=some false)
  (om6:PySem.W.subIn K (.ref aA) (.ref il)=some false)
  (om7:PySem.W.subIn K (.ref aA) (.ref jw)=some false)
  (om9:PySem.W.subIn K (.ref aA) (.ref jx)=some false)
  (LG:PySem.W.subIn K (.ref aA) (.ref jy)=some false)
  (LH:PySem.W.subIn K (.ref aA) (.ref jz)=some false)
  (LI:nsIn K mainGlobals "min"=some none)
  (uw:nsIn K mainGlobals "sorted"=some none)
  (EE:nsIn K mainGlobals "dict"=some none)
  (gxs:nsIn K mainGlobals "XS"=some (some (.int 1 txs)))
  (gzs:nsIn K mainGlobals "ZS"=some (some (.int 2 tzs)))
  (gmc:nsIn K mainGlobals "MOST_COINS"=some (some (.int 6 tmc)))
  (LJ:nsIn K mainGlobals "sum"=some none)
  : ∃fd:FuncData,(∀(s:Shared) (v:Value),BindsTo s fd ⟨[v],[]⟩ [("_law_script",v)])∧∀base:Heap,K.In base→base.Ns mainGlobals mg→fj l.prog w K mg base bu 10 fa fd ["_law_script"] (ub K):=by
 have uy:Def K mg "count_bits" dq ["bits"]:=aT X G a0 l0 c0 k0 fun _ _ _ _ _ _ us hl=>(by obtain⟨x0,rfl⟩:=lr hl;rfl)
 have kE:Def K mg "with_sign_changed" bp ["number","often"]:=aT X G a1 l1 c1 k1 fun _ _ _ _ _ _ us hl=>(by obtain⟨x0,x1,rfl⟩:=gJ hl;rfl)
 have EF:Def K mg "is_row" ig ["row","coins"]:=aT X G a2 l2 c2 k2 fun _ _ _ _ _ _ us hl=>(by obtain⟨x0,x1,rfl⟩:=gJ hl;rfl)
 have Bh:Def K mg "product" fN ["one","other"]:=aT X G a3 l3 c3 k3 fun _ _ _ _ _ _ us hl=>(by obtain⟨x0,x1,rfl⟩:=gJ hl;rfl)
 have HR:Def K mg "agree" kg ["one","other"]:=aT X G a4 l4 c4 k4 fun _ _ _ _ _ _ us hl=>(by obtain⟨x0,x1,rfl⟩:=gJ hl;rfl)
 have Bi:Def K mg "is_even" fO ["row"]:=aT X G a5 l5 c5 k5 fun _ _ _ _ _ _ us hl=>(by obtain⟨x0,rfl⟩:=lr hl;rfl)
 have Bj:Def K mg "letters" fP ["row"]:=aT X G a6 l6 c6 k6 fun _ _ _ _ _ _ us hl=>(by obtain⟨x0,rfl⟩:=lr hl;rfl)
 have nc:Def K mg "leading_column" bS ["row"]:=aT X G a7 l7 c7 k7 fun _ _ _ _ _ _ us hl=>(by obtain⟨x0,rfl⟩:=lr hl;rfl)
 have uA:Def K mg "has_column" dt ["row","column"]:=aT X G a8 l8 c8 k8 fun _ _ _ _ _ _ us hl=>(by obtain⟨x0,x1,rfl⟩:=gJ hl;rfl)
 have uB:Def K mg "check_even" du ["rows"]:=aT X G a9 l9 c9 k9 fun _ _ _ _ _ _ us hl=>(by obtain⟨x0,rfl⟩:=lr hl;rfl)
 have nh:Def K mg "check_agreeing" bT ["rows"]:=aT X G Y5 Y6 Ek Y7 fun _ _ _ _ _ _ us hl=>(by obtain⟨x0,rfl⟩:=lr hl;rfl)
 have qm:Def K mg "made_product" cz ["one","other"]:=aT X G Y8 Y9 HF Za fun _ _ _ _ _ _ us hl=>(by obtain⟨x0,x1,rfl⟩:=gJ hl;rfl)
 have iT:Def K mg "made_leading_column" aY ["made"]:=aT X G Zb Zc Zd Ze fun _ _ _ _ _ _ us hl=>(by obtain⟨x0,rfl⟩:=lr hl;rfl)
 have Bk:Def K mg "cleared" fQ ["made","others"]:=aT X G Zf Zg Zh Zi fun _ _ _ _ _ _ us hl=>(by obtain⟨x0,x1,rfl⟩:=gJ hl;rfl)
 have mw:Def K mg "numbers_made_of" bh ["made"]:=aT X G Zj Zk Zl Zm fun _ _ _ _ _ _ us hl=>(by obtain⟨x0,rfl⟩:=lr hl;rfl)
 have uC:Def K mg "least_made" cF ["rows"]:=aT X G Zn Zo Zp Zq fun _ _ _ _ _ _ us hl=>(by obtain⟨x0,rfl⟩:=lr hl;rfl)
 have Bl:Def K mg "made_of" fS ["rows","row"]:=aT X G Zr Zs Zt Zu fun _ _ _ _ _ _ us hl=>(by obtain⟨x0,x1,rfl⟩:=gJ hl;rfl)
 have uD:Def K mg "least_rows" cG ["rows"]:=aT X G Zv Zw Zx Zy fun _ _ _ _ _ _ us hl=>(by obtain⟨x0,rfl⟩:=lr hl;rfl)
 have uE:Def K mg "check_code" dw ["coins","checks"]:=aT X G Zz ZA ZC ZD fun _ _ _ _ _ _ us hl=>(by obtain⟨x0,x1,rfl⟩:=gJ hl;rfl)
 have qS:Def K mg "turns_up_to" bP ["coins","many"]:=aT X G ZE ZF ZG ZH fun _ _ _ _ _ _ us hl=>(by obtain⟨x0,x1,rfl⟩:=gJ hl;rfl)
 have qT:Def K mg "_law_number" dy ["_law_script","_law_k"]:=aT X G ZI ZJ ZK ZL fun _ _ _ _ _ _ us hl=>(by obtain⟨x0,x1,rfl⟩:=gJ hl;rfl)
 have yA:Def K mg "_law_odd" fT ["_law_number_here"]:=aT X G ZM ZN ZO ZP fun _ _ _ _ _ _ us hl=>(by obtain⟨x0,rfl⟩:=lr hl;rfl)
 have wy:Def K mg "_law_gate" eG ["_law_number_here","_law_coins"]:=aT X G ZQ ZR ZT ZU fun _ _ _ _ _ _ us hl=>(by obtain⟨x0,x1,rfl⟩:=gJ hl;rfl)
 have qo:Def K mg "_law_shifted" cR ["_law_row","_law_gate_here"]:=aT X G ZV ZW ZX ZY fun _ _ _ _ _ _ us hl=>(by obtain⟨x0,x1,rfl⟩:=gJ hl;rfl)
 have uF:Def K mg "_law_times" dW ["_law_one","_law_other"]:=aT X G ZZ Z0 Z1 Z2 fun _ _ _ _ _ _ us hl=>(by obtain⟨x0,x1,rfl⟩:=gJ hl;rfl)
 have qU:Def K mg "_law_checks" bO ["_law_script","_law_start","_law_coins","_law_many"]:=aT X G Z3 Z4 Z5 Z6 fun _ _ _ _ _ _ us hl=>(by obtain⟨x0,x1,x2,x3,rfl⟩:=OS hl;rfl)
 have nN:Def K mg "_law_marks_of" cA ["_law_checks_here","_law_turn"]:=aT X G Z7 Z8 Z9 k26 fun _ _ _ _ _ _ us hl=>(by obtain⟨x0,x1,rfl⟩:=gJ hl;rfl)
 have wz:Def K mg "_law_made" eI ["_law_checks_here"]:=aT X G a27 l27 c27 k27 fun _ _ _ _ _ _ us hl=>(by obtain⟨x0,rfl⟩:=lr hl;rfl)
 have qp:Def K mg "_law_letters" cn ["_law_turn"]:=aT X G a28 l28 c28 k28 fun _ _ _ _ _ _ us hl=>(by obtain⟨x0,rfl⟩:=lr hl;rfl)
 have uG:Def K mg "_law_turns" dU ["_law_coins","_law_most"]:=aT X G a29 l29 c29 k29 fun _ _ _ _ _ _ us hl=>(by obtain⟨x0,x1,rfl⟩:=gJ hl;rfl)
 have qq:Def K mg "_law_is_turn" cQ ["_law_turn","_law_coins"]:=aT X G a30 l30 c30 k30 fun _ _ _ _ _ _ us hl=>(by obtain⟨x0,x1,rfl⟩:=gJ hl;rfl)
 have qV:Def K mg "_law_others" dA ["_law_error"]:=aT X G a31 l31 c31 k31 fun _ _ _ _ _ _ us hl=>(by obtain⟨x0,rfl⟩:=lr hl;rfl)
 have wA:Def K mg "_law_ring" eO ["_law_number_here"]:=aT X G a32 l32 c32 k32 fun _ _ _ _ _ _ us hl=>(by obtain⟨x0,rfl⟩:=lr hl;rfl)
 have wB:Def K mg "_law_told" eJ ["_law_code","_law_many"]:=aT X G a33 l33 c33 k33 fun _ _ _ _ _ _ us hl=>(by obtain⟨x0,x1,rfl⟩:=gJ hl;rfl)
 have wC:Def K mg "_law_both" eK ["_law_checks_here","_law_made_here","_law_one","_law_other"]:=aT X G a34 l34 c34 k34 fun _ _ _ _ _ _ us hl=>(by obtain⟨x0,x1,x2,x3,rfl⟩:=OS hl;rfl)
 have nO:Def K mg "_law_is_table" bF ["_law_found","_law_checks_here","_law_made_here","_law_coins","_law_many"]:=aT X G a35 l35 c35 k35 fun _ _ _ _ _ _ us hl=>(by obtain⟨x0,x1,x2,x3,x4,rfl⟩:=OT hl;rfl)
 have wD:Def K mg "_law_cant" eN ["_law_error","_law_checks_here","_law_made_here","_law_coins","_law_many"]:=aT X G a36 l36 c36 k36 fun _ _ _ _ _ _ us hl=>(by obtain⟨x0,x1,x2,x3,x4,rfl⟩:=OT hl;rfl)
 have T:gu mg:=Kb X G z1 z2 z3 z4 z5 z6 z7 z8 z9 Nf Ng Nh Ni
 have G_Code:dQ K mg "Code" cB:=cW X G ur yx yz
 have nG:dQ K mg "CoinError" bQ:=cW X G jK jL jM
 have EG:dQ K mg "NoList" js:=cW X G pS pT pU
 have EH:dQ K mg "NoGate" jt:=cW X G pV pW pX
 have EI:dQ K mg "NoLook" ju:=cW X G pY pZ p5
 have Bm:dQ K mg "NotFree" ij:=cW X G mW mX mY
 have EJ:dQ K mg "NoRows" jv:=cW X G p6 p7 p8
 have Bo:dQ K mg "NoShort" ik:=cW X G mZ m4 m5
 have Bp:dQ K mg "NoTable" il:=cW X G m7 m8 m9
 have EK:dQ K mg "NoCode" jw:=cW X G p9 qa qb
 have lB:dQ K mg "CantMend" aA:=cW X G lu iK lA
 have EL:dQ K mg "NoText" jx:=cW X G qc qd qe
 have EN:dQ K mg "NoName" jy:=cW X G qg qh qi
 have EO:dQ K mg "NoLine" jz:=cW X G qj qk ql
 have gn:AN K aA "CantMend.__init__" dR ["self","one","other"]:=GC jN jO jP (fun _ _ _ _ _ _ us hl=>(by obtain⟨x0,x1,x2,rfl⟩:=OR hl;rfl)) jQ jR jS jT jU jV jW iK jX jY jZ j3
 have LK:DG K mg "Code" cB "Code.__init__" cc ["self","coins","checks"]:=GH X G ur eQ eR eS (fun _ _ _ _ _ _ us hl=>(by obtain⟨x0,x1,x2,rfl⟩:=OR hl;rfl)) uu eP eU uv ko kq kr ku
 have uH:oV K cB "marks" "Code.marks" cH ["self","turn"]:=tF gM gN gO (fun _ _ _ _ _ _ us hl=>(by obtain⟨x0,x1,rfl⟩:=gJ hl;rfl)) gK gP ko kq kr ku
 have lC:oV K cB "is_harmless" "Code.is_harmless" bB ["self","turn"]:=tF dE dF dG (fun _ _ _ _ _ _ us hl=>(by obtain⟨x0,x1,rfl⟩:=gJ hl;rfl)) dD dH ko kq kr ku
 have uI:oV K cB "table" "Code.table" dz ["self","many"]:=tF gR gS gT (fun _ _ _ _ _ _ us hl=>(by obtain⟨x0,x1,rfl⟩:=gJ hl;rfl)) gQ gU ko kq kr ku
 have wF:KA K bQ:=⟨iL,iM,iN⟩
 have e:=hfa.symm.trans (PySem.W.mg_of X G a37)
 cases e
 have F:=ot (st:=lX) l37 c37 k37
 have Pu:=PySem.W.mg_none_of X G LI
 have Pw:=PySem.W.mg_none_of X G uw
 have Px:=PySem.W.mg_none_of X G EE
 have Qv:∃t,mg "XS"=some (.int 1 t):=⟨_,PySem.W.mg_of X G gxs⟩
 have TM:∃t,mg "ZS"=some (.int 2 t):=⟨_,PySem.W.mg_of X G gzs⟩
 have MC:∃t,mg "MOST_COINS"=some (.int 6 t):=⟨_,PySem.W.mg_of X G gmc⟩
 have nsum:=PySem.W.mg_none_of X G LJ
 exact⟨fnOf "law" "law" (ax lX) (aw lX) (af lX) .none Po Pp Pq Pn LD Pt,fun s v=>.of_eq rfl,fun base _ _=>(have CN:=DU (P:=l.prog) (w:=w) (base:=base) T uy;have CS:=AX (P:=l.prog) (w:=w) (base:=base) T kE;have CP:=yb (P:=l.prog) (w:=w) (base:=base) T Bh CS CN;have CA:=DW (P:=l.prog) (w:=w) (base:=base) T HR CN;have CE:=GX (P:=l.prog) (w:=w) (base:=base) T Bi CN;have CL:=yf (P:=l.prog) (w:=w) (base:=base) T Bj CN;have CD:=GZ (P:=l.prog) (w:=w) (base:=base) T Qv TM nc;have CH:=AY (P:=l.prog) (w:=w) (base:=base) T uA;have CMP:=DY (P:=l.prog) (w:=w) (base:=base) T qm CP;have CML:=DZ (P:=l.prog) (w:=w) (base:=base) T iT CD;have CC:=yg (P:=l.prog) (w:=w) (base:=base) T Bk CH CML CMP;have CM:=D2 (P:=l.prog) (w:=w) (base:=base) T Pw uC (Ha T uB CE) (Hb T nh CA) CC CL CML;have CO:=A6 (P:=l.prog) (w:=w) (base:=base) T Bl CC CM CL (Hg T mw);have CR:=D4 (P:=l.prog) (w:=w) (base:=base) T uD CM;have CI:=GY (P:=l.prog) (w:=w) (base:=base) T EF;have CKC:=Hh (P:=l.prog) (w:=w) (base:=base) T ff dm LK (D5 T MC uE CI CR);have CMK:=D8 (P:=l.prog) (w:=w) (base:=base) T nsum dm uH CA;have CHM:=Hi (P:=l.prog) (w:=w) (base:=base) T dm lC CO;have CTU:=Eb (P:=l.prog) (w:=w) (base:=base) T Pw qS CL;have Cn:=Lc (P:=l.prog) (w:=w) (base:=base) T qT;have Co:=Le (P:=l.prog) (w:=w) (base:=base) T yA;have Ct:=Ba (P:=l.prog) (w:=w) (base:=base) T uF Co;have Ck:=Bb (P:=l.prog) (w:=w) (base:=base) T qU Cn (Ee T wy) (yo T qo) Ct;have Cl:=Hl (P:=l.prog) (w:=w) (base:=base) T qp;have CF:=HD (P:=l.prog) (w:=w) (base:=base) T nG wF dJ da gn;have CTX:=Bd (P:=l.prog) (w:=w) (base:=base) T lB CF ff uI CTU CMK CHM CP;have Cot:=Ll (P:=l.prog) (w:=w) (base:=base) T EG EH EI Bm EJ Bo Bp EK lB EL EN EO ⟨gn.c,gn.self,om0,om1,om2,om3,om4,om5,om6,om7,gn.self,om9,LG,LH⟩ qV;have Cis:=A9 (P:=l.prog) (w:=w) (base:=base) T qq;have Cmk:=Bc (P:=l.prog) (w:=w) (base:=base) T nN Co;have Clt:=A8 (P:=l.prog) (w:=w) (base:=base) T uG Cl;have Ctl:=HG (P:=l.prog) (w:=w) (base:=base) T nG cb eM wB CTX;have Cbo:=HH (P:=l.prog) (w:=w) (base:=base) T wC Cmk;have Cct:=HI (P:=l.prog) (w:=w) (base:=base) T vM gn dJ da lB wD Cot Cis Cl Cmk Cbo;have Cit:=Eo (P:=l.prog) (w:=w) (base:=base) T Px Pu nO Clt Cis Cl Cmk Cbo;Ly T Pu F Cn Ck (HN T wA) CKC (Lj T wz) Ctl Cct Cit)⟩
theorem walk {l:PySem.W.OpenLaw}{q:Program}{loose:List Str}{XP:(Str→Option Value)→Heap→Prop}{YP:World→Heap→Prop}{d:DefRec}{K:Params→Frag}(hn:l.most=some 63) (MU:d.params.defaults=[])
  (hY:∀(w:World) (h:Heap),YP w h→(K w.params).In h)
  (F:∀(w:World) (mg:Str→Option Value) (fa:Addr) (h:Heap),(K w.params).In h→h.Ns mainGlobals mg→mg d.name=some (.ref fa) →
   ∃fd:FuncData,(∀(s:Shared) (u:Value),BindsTo s fd ⟨[u],[]⟩ [("_law_script",u)])∧∀base:Heap,(K w.params).In base→base.Ns mainGlobals mg→fj l.prog w (K w.params) mg base bu 10 fa fd ["_law_script"] (ub (K w.params))) :
  PySem.W.WalkO q loose XP YP l.row.toRowW d [] (fun f vs=>PySem.call f vs) :=
 L2.FO (n:=63) (k:=10) (x:="_law_script") (CX:=fun _=>bu) (sp:=fun w=>ub (K w.params)) hn (by decide) MU ⟨rfl,rfl,by decide,by decide⟩ hY F (fun _ _ a ns hl _ hS=>⟨a,ns,rfl,hS,hl,fun _=>rfl⟩) fun _ _ _ _ _ z=>z
end iE
def PySem.W.Fast.tw3483455736487945045:Unit:=()
def PySem.W.Fast.tw14287228319468508513:Unit:=()
def PySem.W.Fast.tw12632190355249623771:Unit:=()
def PySem.W.Fast.tw11222467849669860904:Unit:=()
def PySem.W.Fast.tw18106107637629902073:Unit:=()
def PySem.W.Fast.tw13178426563666540875:Unit:=()
def PySem.W.Fast.tw16036347856419836932:Unit:=()
def PySem.W.Fast.tw12010557479246890043:Unit:=()
def PySem.W.Fast.tw9984671722550607891:Unit:=()
def PySem.W.Fast.tw8065680803686154674:Unit:=()
def PySem.W.Fast.tw5053461655845633881:Unit:=()
def PySem.W.Fast.tw9299212451057314871:Unit:=()
def PySem.W.Fast.tw2073743008713848447:Unit:=()
def PySem.W.Fast.tw11979450920800054262:Unit:=()
def PySem.W.Fast.tw690657015951181577:Unit:=()
def PySem.W.Fast.tw14705062227184864725:Unit:=()
def PySem.W.Fast.tw4060276859192549900:Unit:=()
def PySem.W.Fast.tw5813953348606571581:Unit:=()
def PySem.W.Fast.tw17976852750687501969:Unit:=()
def PySem.W.Fast.tw16581720555141683662:Unit:=()
def PySem.W.Fast.tw626528518392226523:Unit:=()
def PySem.W.Fast.tw1196612557353819885:Unit:=()
def PySem.W.Fast.tw6576952474802148656:Unit:=()
def PySem.W.Fast.tw1397930761861539383:Unit:=()
def PySem.W.Fast.tw15183141599489701711:Unit:=()
def PySem.W.Fast.tw5615850707187720324:Unit:=()
def PySem.W.Fast.tw15281127621502311043:Unit:=()
def PySem.W.Fast.tw8798785485043998733:Unit:=()
def PySem.W.Fast.tw5857185034965663890:Unit:=()
def PySem.W.Fast.tw2724276105862321343:Unit:=()
def PySem.W.Fast.tw7194987283128773384:Unit:=()
def PySem.W.Fast.tw3548925055898341299:Unit:=()
def PySem.W.Fast.tw9571005803321520183:Unit:=()
def PySem.W.Fast.tw1314222110431166816:Unit:=()
def PySem.W.Fast.tw1548014184628731908:Unit:=()
def PySem.W.Fast.tw15466667617728342393:Unit:=()
def PySem.W.Fast.tw15562973339693625532:Unit:=()
def PySem.W.Fast.tw5675358148563988325:Unit:=()
def PySem.W.Fast.tw1590579110724742128:Unit:=()
def PySem.W.Fast.tw5685488939815786650:Unit:=()
def PySem.W.Fast.tw7933646343945685865:Unit:=()
def PySem.W.Fast.tw8702596081694802314:Unit:=()
def PySem.W.Fast.tw15475753730965325638:Unit:=()
def PySem.W.Fast.tw18319578797217482004:Unit:=()
def PySem.W.Fast.tw1835035446983301674:Unit:=()
def PySem.W.Fast.tw6518713850078466871:Unit:=()
def PySem.W.Fast.tw17381337702716524176:Unit:=()
def PySem.W.Fast.tw17899707204410081263:Unit:=()
def PySem.W.Fast.tw2142124955945723443:Unit:=()
def PySem.W.Fast.tw14686259531079616081:Unit:=()
def PySem.W.Fast.tw4590903585836180287:Unit:=()
def PySem.W.Fast.tw6775420345794164986:Unit:=()
def PySem.W.Fast.tw5806780911480626198:Unit:=()
def PySem.W.Fast.tw12003227308642716962:Unit:=()
def PySem.W.Fast.tw13625666964132225199:Unit:=()
def PySem.W.Fast.tw12275823720873752548:Unit:=()
def PySem.W.Fast.tw6856888025314598717:Unit:=()
def PySem.W.Fast.tw3891992048021569160:Unit:=()
def PySem.W.Fast.tw17128995925619158385:Unit:=()
def PySem.W.Fast.tw5723971201225790851:Unit:=()
def PySem.W.Fast.tw14868903048866784736:Unit:=()
def PySem.W.Fast.tw3758178701153992701:Unit:=()
def PySem.W.Fast.tw14793183007835895025:Unit:=()
def PySem.W.Fast.tw3455647969061383363:Unit:=()
def PySem.W.Fast.tw13657628430880636302:Unit:=()
def PySem.W.Fast.tw11824943069686179134:Unit:=()
def PySem.W.Fast.tw15587888267015618586:Unit:=()
def PySem.W.Fast.tw8084883046453497358:Unit:=()
def PySem.W.Fast.tw2788042572131157828:Unit:=()
def PySem.W.Fast.tw3338715126838094071:Unit:=()
def PySem.W.Fast.tw1713334437720664555:Unit:=()
def PySem.W.Fast.tw16851189063463022133:Unit:=()
def PySem.W.Fast.tw14607774008419216589:Unit:=()
def PySem.W.Fast.tw3576582388877409915:Unit:=()
def PySem.W.Fast.tw16600413884288004403:Unit:=()
def PySem.W.Fast.tw8247426762744915500:Unit:=()
def PySem.W.Fast.tw17870284137991235022:Unit:=()
def PySem.W.Fast.tw13639129367329448885:Unit:=()
def PySem.W.Fast.tw2786859733949906709:Unit:=()
def PySem.W.Fast.tw7930006875446976177:Unit:=()
def PySem.W.Fast.tw18114190681313212105:Unit:=()
def PySem.W.Fast.tw7451867078873391762:Unit:=()
def PySem.W.Fast.tw10995118732556285209:Unit:=()
def PySem.W.Fast.tw6567325778558709651:Unit:=()
def PySem.W.Fast.tw10371476706713611230:Unit:=()
def PySem.W.Fast.tw12393226676872539024:Unit:=()
def PySem.W.Fast.tw10645724520266168429:Unit:=()
def PySem.W.Fast.tw11539893442219772811:Unit:=()
def PySem.W.Fast.tw2005562815598580828:Unit:=()
def PySem.W.Fast.tw2055584546623506637:Unit:=()
def PySem.W.Fast.tw10432100255873423315:Unit:=()
def PySem.W.Fast.tw4064639050786945723:Unit:=()
def PySem.W.Fast.tw16666161888508568789:Unit:=()
def PySem.W.Fast.tw18309049732680209306:Unit:=()
def PySem.W.Fast.tw1250704478328648015:Unit:=()
def PySem.W.Fast.tw9026133397954692340:Unit:=()
def PySem.W.Fast.tw2312077419919354926:Unit:=()
def PySem.W.Fast.tw11213459218545601476:Unit:=()
def PySem.W.Fast.tw15424178484805240527:Unit:=()
def PySem.W.Fast.tw10367593991493290496:Unit:=()
def PySem.W.Fast.tw1139247924762024277:Unit:=()
def PySem.W.Fast.tw9362718310571265671:Unit:=()
def PySem.W.Fast.tw37018686533760317:Unit:=()
def PySem.W.Fast.tw8923425855244400668:Unit:=()
def PySem.W.Fast.tw13182072932692000366:Unit:=()
def PySem.W.Fast.tw14072620617892680913:Unit:=()
def PySem.W.Fast.tw17244010093135361763:Unit:=()
def PySem.W.Fast.tw1192626286977785973:Unit:=()
def PySem.W.Fast.tw13718418059604999174:Unit:=()
def PySem.W.Fast.tw13224207488671931753:Unit:=()
def PySem.W.Fast.tw3001905010191640659:Unit:=()
def PySem.W.Fast.tw8462193361335605099:Unit:=()
def PySem.W.Fast.tw11653523236206604482:Unit:=()
def PySem.W.Fast.tw17813530008647088558:Unit:=()
def PySem.W.Fast.tw17250392095921880262:Unit:=()
def PySem.W.Fast.tw18288391448036086967:Unit:=()
def PySem.W.Fast.tw4713087605779018528:Unit:=()
def PySem.W.Fast.tw7238759338159077346:Unit:=()
def PySem.W.Fast.tw1557245442235704675:Unit:=()
def PySem.W.Fast.tw13682826102505131685:Unit:=()
def PySem.W.Fast.tw2255846639083013893:Unit:=()
def PySem.W.Fast.tw4671033996512063303:Unit:=()
def PySem.W.Fast.tw10371634348888570408:Unit:=()
def PySem.W.Fast.tw3701261328422513929:Unit:=()
def PySem.W.Fast.tw63483426597706858:Unit:=()
def PySem.W.Fast.tw7362018727622327850:Unit:=()
def PySem.W.Fast.tw1622632057545468618:Unit:=()
def PySem.W.Fast.tw6585184841103561642:Unit:=()
def PySem.W.Fast.tw3716843525310005068:Unit:=()
def PySem.W.Fast.tw5294465569841233900:Unit:=()
def PySem.W.Fast.tw18164692255854509486:Unit:=()
def PySem.W.Fast.tw2474572977804951727:Unit:=()
def PySem.W.Fast.tw6924653146692063442:Unit:=()
def PySem.W.Fast.tw14180673895271085394:Unit:=()
def PySem.W.Fast.tw1672559299499343959:Unit:=()
def PySem.W.Fast.tw4439593432986987224:Unit:=()
def PySem.W.Fast.tw3017493787715336985:Unit:=()
def PySem.W.Fast.tw10265998482013726523:Unit:=()
def PySem.W.Fast.tw17705748679813900860:Unit:=()
open PySem PySem.W PyProof.Rows
set_option maxRecDepth 100000 in
set_option maxHeartbeats 0 in
theorem PySem.Challenge.cw_turncoins_k64_tables_holds : PySem.Challenge.rw_turncoins_k64_tables.Holds := by
 w_on;o_law;k_head;(case hw=>w_witness2)
 k_fill
 refine iE.walk (l:=PySem.Challenge.rw_turncoins_k64_tables) rfl rfl (fun w h Y=>PySem.W.kIn_of Y) ?F
 case F =>
  intro w mg fa h KX G MV
  refine' iE.all_mk KX G MV ?a0 ?l0 ?c0 ?k0 ?a1 ?l1 ?c1 ?k1 ?a2 ?l2 ?c2 ?k2 ?a3 ?l3 ?c3 ?k3 ?a4 ?l4 ?c4 ?k4 ?a5 ?l5 ?c5 ?k5 ?a6 ?l6 ?c6 ?k6 ?a7 ?l7 ?c7 ?k7 ?a8 ?l8 ?c8 ?k8 ?a9 ?l9 ?c9 ?k9 ?Y5 ?Y6 ?Ek ?Y7 ?Y8 ?Y9 ?HF ?Za ?Zb ?Zc ?Zd ?Ze ?Zf ?Zg ?Zh ?Zi ?Zj ?Zk ?Zl ?Zm ?Zn ?Zo ?Zp ?Zq ?Zr ?Zs ?Zt ?Zu ?Zv ?Zw ?Zx ?Zy ?Zz ?ZA ?ZC ?ZD ?ZE ?ZF ?ZG ?ZH ?ZI ?ZJ ?ZK ?ZL ?ZM ?ZN ?ZO ?ZP ?ZQ ?ZR ?ZT ?ZU ?ZV ?ZW ?ZX ?ZY ?ZZ ?Z0 ?Z1 ?Z2 ?Z3 ?Z4 ?Z5 ?Z6 ?Z7 ?Z8 ?Z9 ?k26 ?a27 ?l27 ?c27 ?k27 ?a28 ?l28 ?c28 ?k28 ?a29 ?l29 ?c29 ?k29 ?a30 ?l30 ?c30 ?k30 ?a31 ?l31 ?c31 ?k31 ?a32 ?l32 ?c32 ?k32 ?a33 ?l33 ?c33 ?k33 ?a34 ?l34 ?c34 ?k34 ?a35 ?l35 ?c35 ?k35 ?a36 ?l36 ?c36 ?k36 ?a37 ?l37 ?c37 ?k37 ?z1 ?z2 ?z3 ?z4 ?z5 ?z6 ?z7 ?z8 ?z9 ?Nf ?Ng ?Nh ?Ni ?ur ?yx ?yz ?jK ?jL ?jM ?pS ?pT ?pU ?pV ?pW ?pX ?pY ?pZ ?p5 ?mW ?mX ?mY ?p6 ?p7 ?p8 ?mZ ?m4 ?m5 ?m7 ?m8 ?m9 ?p9 ?qa ?qb ?lu ?iK ?lA ?qc ?qd ?qe ?qg ?qh ?qi ?qj ?qk ?ql ?nF ?jN ?jO ?jP ?jQ ?jR ?jS ?jT ?jU ?jV ?jW ?jX ?jY ?jZ ?j3 ?ko ?kq ?kr ?ku ?uu ?uv ?eP ?eQ ?eR ?eS ?eU ?gK ?gM ?gN ?gO ?gP ?dD ?dE ?dF ?dG ?dH ?gQ ?gR ?gS ?gT ?gU ?ff ?dm ?dJ ?da ?iL ?iM ?iN ?cb ?eM ?vM ?om0 ?om1 ?om2 ?om3 ?om4 ?om5 ?om6 ?om7 ?om9 ?LG ?LH ?LI ?uw ?EE ?gxs ?gzs ?gmc ?LJ
  (case a0=>k_is);(case l0=>k_is);(case c0=>k_is);(case k0=>k_is);(case a1=>k_is);(case l1=>k_is);(case c1=>k_is);(case k1=>k_is)
  (case a2=>k_is);(case l2=>k_is);(case c2=>k_is);(case k2=>k_is);(case a3=>k_is);(case l3=>k_is);(case c3=>k_is);(case k3=>k_is)
  (case a4=>k_is);(case l4=>k_is);(case c4=>k_is);(case k4=>k_is);(case a5=>k_is);(case l5=>k_is);(case c5=>k_is);(case k5=>k_is)
  (case a6=>k_is);(case l6=>k_is);(case c6=>k_is);(case k6=>k_is);(case a7=>k_is);(case l7=>k_is);(case c7=>k_is);(case k7=>k_is)
  (case a8=>k_is);(case l8=>k_is);(case c8=>k_is);(case k8=>k_is);(case a9=>k_is);(case l9=>k_is);(case c9=>k_is);(case k9=>k_is)
  (case Y5=>k_is);(case Y6=>k_is);(case Ek=>k_is);(case Y7=>k_is);(case Y8=>k_is);(case Y9=>k_is);(case HF=>k_is);(case Za=>k_is)
  (case Zb=>k_is);(case Zc=>k_is);(case Zd=>k_is);(case Ze=>k_is);(case Zf=>k_is);(case Zg=>k_is);(case Zh=>k_is);(case Zi=>k_is)
  (case Zj=>k_is);(case Zk=>k_is);(case Zl=>k_is);(case Zm=>k_is);(case Zn=>k_is);(case Zo=>k_is);(case Zp=>k_is);(case Zq=>k_is)
  (case Zr=>k_is);(case Zs=>k_is);(case Zt=>k_is);(case Zu=>k_is);(case Zv=>k_is);(case Zw=>k_is);(case Zx=>k_is);(case Zy=>k_is)
  (case Zz=>k_is);(case ZA=>k_is);(case ZC=>k_is);(case ZD=>k_is);(case ZE=>k_is);(case ZF=>k_is);(case ZG=>k_is);(case ZH=>k_is)
  (case ZI=>k_is);(case ZJ=>k_is);(case ZK=>k_is);(case ZL=>k_is);(case ZM=>k_is);(case ZN=>k_is);(case ZO=>k_is);(case ZP=>k_is)
  (case ZQ=>k_is);(case ZR=>k_is);(case ZT=>k_is);(case ZU=>k_is);(case ZV=>k_is);(case ZW=>k_is);(case ZX=>k_is);(case ZY=>k_is)
  (case ZZ=>k_is);(case Z0=>k_is);(case Z1=>k_is);(case Z2=>k_is);(case Z3=>k_is);(case Z4=>k_is);(case Z5=>k_is);(case Z6=>k_is)
  (case Z7=>k_is);(case Z8=>k_is);(case Z9=>k_is);(case k26=>k_is);(case a27=>k_is);(case l27=>k_is);(case c27=>k_is);(case k27=>k_is)
  (case a28=>k_is);(case l28=>k_is);(case c28=>k_is);(case k28=>k_is);(case a29=>k_is);(case l29=>k_is);(case c29=>k_is);(case k29=>k_is)
  (case a30=>k_is);(case l30=>k_is);(case c30=>k_is);(case k30=>k_is);(case a31=>k_is);(case l31=>k_is);(case c31=>k_is);(case k31=>k_is)
  (case a32=>k_is);(case l32=>k_is);(case c32=>k_is);(case k32=>k_is);(case a33=>k_is);(case l33=>k_is);(case c33=>k_is);(case k33=>k_is)
  (case a34=>k_is);(case l34=>k_is);(case c34=>k_is);(case k34=>k_is);(case a35=>k_is);(case l35=>k_is);(case c35=>k_is);(case k35=>k_is)
  (case a36=>k_is);(case l36=>k_is);(case c36=>k_is);(case k36=>k_is);(case a37=>k_is);(case l37=>k_is);(case c37=>k_is);(case k37=>k_is)
  (case z1=>k_is);(case z2=>k_is);(case z3=>k_is);(case z4=>k_is);(case z5=>k_is);(case z6=>k_is);(case z7=>k_is);(case z8=>k_is)
  (case z9=>k_is);(case Nf=>k_is);(case Ng=>k_is);(case Nh=>k_is);(case Ni=>k_is);(case ur=>k_is);(case yx=>k_is);(case yz=>k_is)
  (case jK=>k_is);(case jL=>k_is);(case jM=>k_is);(case pS=>k_is);(case pT=>k_is);(case pU=>k_is);(case pV=>k_is);(case pW=>k_is)
  (case pX=>k_is);(case pY=>k_is);(case pZ=>k_is);(case p5=>k_is);(case mW=>k_is);(case mX=>k_is);(case mY=>k_is);(case p6=>k_is)
  (case p7=>k_is);(case p8=>k_is);(case mZ=>k_is);(case m4=>k_is);(case m5=>k_is);(case m7=>k_is);(case m8=>k_is);(case m9=>k_is)
  (case p9=>k_is);(case qa=>k_is);(case qb=>k_is);(case lu=>k_is);(case iK=>k_is);(case lA=>k_is);(case qc=>k_is);(case qd=>k_is)
  (case qe=>k_is);(case qg=>k_is);(case qh=>k_is);(case qi=>k_is);(case qj=>k_is);(case qk=>k_is);(case ql=>k_is);(case nF=>k_is)
  (case jN=>k_is);(case jO=>k_is);(case jP=>k_is);(case jQ=>(first|kernel_rfl|decide +kernel));(case jR=>k_is);(case jS=>k_is);(case jT=>k_is);(case jU=>k_is)
  (case jV=>k_is);(case jW=>k_is);(case jX=>k_is);(case jY=>k_is);(case jZ=>(first|kernel_rfl|decide +kernel));(case j3=>k_is);(case ko=>k_is);(case kq=>k_is)
  (case kr=>k_is);(case ku=>k_is);(case uu=>k_is);(case uv=>k_is);(case eP=>k_is);(case eQ=>k_is);(case eR=>k_is);(case eS=>k_is)
  (case eU=>k_is);(case gK=>k_is);(case gM=>k_is);(case gN=>k_is);(case gO=>k_is);(case gP=>k_is);(case dD=>k_is);(case dE=>k_is)
  (case dF=>k_is);(case dG=>k_is);(case dH=>k_is);(case gQ=>k_is);(case gR=>k_is);(case gS=>k_is);(case gT=>k_is);(case gU=>k_is)
  (case ff=>k_is);(case dm=>k_is);(case dJ=>k_is);(case da=>k_is);(case iL=>k_is);(case iM=>k_is);(case iN=>k_is);(case cb=>k_is)
  (case eM=>k_is);(case vM=>k_is);(case om0=>k_is);(case om1=>k_is);(case om2=>k_is);(case om3=>k_is);(case om4=>k_is);(case om5=>k_is)
  (case om6=>k_is);(case om7=>k_is);(case om9=>k_is);(case LG=>k_is);(case LH=>k_is);(case LI=>k_is);(case uw=>k_is);(case EE=>k_is)
  (case gxs=>k_is);(case gzs=>k_is);(case gmc=>k_is);(case LJ=>k_is)
#print axioms PySem.Challenge.cw_turncoins_k64_tables_holds
