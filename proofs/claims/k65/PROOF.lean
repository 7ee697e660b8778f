import PyProof.Rows.All
import Wide.All
import OpenK.AllK
import Wide.FinOn
import Lean
import PyProof.EqAt
import PyProof.EqKinds
import PyProof.TupleCall
import PyProof.Rows.SortShellK
import PyProof.Rows.CallKwBuiltin
import PyProof.InstStoreFacts
import PySem.Challenge.RW_turncoins_k65_whole_wrong_turns_mended
noncomputable section
set_option Elab.async false
set_option linter.all false
set_option maxRecDepth 100000
open List (length_map getElem?_map mem_of_getElem? getElem?_eq_getElem mem_cons_of_mem mem_cons_self mem_filter mem_range mem_singleton mem_append_left mem_append_right length_append length_range take_add_one filter_cons mem_iff_getElem? map_congr_left getElem?_range mem_append take_length pairwise_map pairwise_cons getElem?_append_left getElem?_append_right getElem?_eq_none length_take foldr_cons length_eq_zero_iff any_eq_false any_eq_true all_eq_true length_replicate length_singleton)
open PySem.W (Frag nsIn keepIn codeIn fnOf)
abbrev W1:List PySem.Str:=["_law_script","_law_checks_here","_law_coins","_law_numbers","_law_place","_law_found","_law_row"]
abbrev T0:List PySem.Str:=["_law_script","_law_start","_law_coins","_law_many_here","_law_rows","_law_k","_law_sign","_law_gate_here","_law_number_here"]
abbrev Z00:List PySem.Str:=["one","other"]
abbrev Z01:List PySem.Str:=["_law_code","_law_checks_here","_law_numbers","_law_mending","_law_turn"]
abbrev Z02:List PySem.Str:=["_law_script","_law_start","_law_coins","_law_many_here"]
abbrev Z03:List PySem.Str:=["numbers"]
abbrev Z04:List PySem.Str:=["_law_script","_law_k"]
abbrev Z05:List PySem.Str:=["_law_number_here","_law_coins","_law_many_here"]
abbrev Z06:List PySem.Str:=["numbers","sent","told"]
abbrev Z07:List PySem.Str:=["_law_code","_law_checks_here","_law_numbers","_law_mending","_law_turn","_law_there","_law_seen_here","_law_back"]
abbrev Z08:List PySem.Str:=["_law_script","_law_checks_here","_law_coins"]
abbrev Z09:List PySem.Str:=["_law_number_here"]
abbrev Z10:List PySem.Str:=["_law_numbers","_law_checks_here"]
abbrev Z11:List PySem.Str:=["numbers","row"]
abbrev Z12:List PySem.Str:=["_law_numbers","_law_row"]
abbrev Z13:List PySem.Str:=["row","coins"]
abbrev Z14:List PySem.Str:=["_law_number_here","_law_coins"]
abbrev Z15:List PySem.Str:=["coins","many","turns","coin","bit","fewer","x","z"]
abbrev Z16:List PySem.Str:=["_law_one_here","_law_other"]
abbrev Z17:List PySem.Str:=["numbers","place","row"]
abbrev Z18:List PySem.Str:=["rows"]
abbrev Z19:List PySem.Str:=["_law_row","_law_gate_here"]
abbrev Z20:List PySem.Str:=["self","turn"]
abbrev Z21:List PySem.Str:=["self","one","other"]
abbrev Z22:List PySem.Str:=["number","often"]
abbrev Z23:List PySem.Str:=["numbers","row","wish"]
abbrev Z24:List PySem.Str:=["row"]
abbrev Z25:List PySem.Str:=["self","coins","checks"]
abbrev Z26:List PySem.Str:=["made","others"]
abbrev Z27:List PySem.Str:=["numbers","sent","told","sign"]
abbrev Z28:List PySem.Str:=["row","column"]
abbrev Z29:List PySem.Str:=["made"]
abbrev Z30:List PySem.Str:=["coins","checks"]
abbrev Z31:List PySem.Str:=["coins","many"]
abbrev Z32:List PySem.Str:=["top","bottom"]
namespace L2
open PySem PySem.Spec PyProof.Rows
abbrev Key:=Sum Int Str
noncomputable def rS:Key→Value→Bool
 | .inl k,v=>Value.isInt k v
 | .inr x,v=>Value.isStrOf x v
def SE (w:World):Key→Int
 | .inl k=>hashInt k
 | .inr x=>hashStr w x
theorem cn:∀{k:Key}{v:Value},rS k v=true→(∃i t,k=Sum.inl i∧v=Value.int i t)∨(∃x t,k=Sum.inr x∧v=Value.str x t)
 | .inl i,v,h=>by
  obtain⟨t,e⟩:=Value.isInt_shape (k:=i) (v:=v) h
  exact .inl ⟨i,t,rfl,e⟩
 | .inr x,v,h=>by
  obtain⟨t,e⟩:=Value.isStrOf_shape (x:=x) (v:=v) h
  exact .inr ⟨x,t,rfl,e⟩
theorem Bk (i:Int) (t:Tok):rS (.inl i) (.int i t)=true:=by simp[rS,Value.isInt]
theorem Bl (x:Str) (t:Tok):rS (.inr x) (.str x t)=true:=by simp[rS,Value.isStrOf]
theorem Ku (a b:Int):decide ((Sum.inl a:Key)=Sum.inl b)=(a == b):=by
 by_cases e:a=b
 ·subst e;simp
 ·have h:¬(Sum.inl a:Key)=Sum.inl b:=fun q=>e (Sum.inl.inj q)
  rw[decide_eq_false h]
  exact(beq_eq_false_iff_ne.mpr e).symm
theorem Kv (a b:Str):decide ((Sum.inr a:Key)=Sum.inr b)=decide (a=b):=by
 by_cases e:a=b
 ·subst e;simp
 ·have h:¬(Sum.inr a:Key)=Sum.inr b:=fun q=>e (Sum.inr.inj q)
  rw[decide_eq_false h,decide_eq_false e]
theorem Kw (a:Int) (b:Str):decide ((Sum.inl a:Key)=Sum.inr b)=false:=decide_eq_false (fun q=>nomatch q)
theorem Kx (a:Str) (b:Int):decide ((Sum.inr a:Key)=Sum.inl b)=false:=decide_eq_false (fun q=>nomatch q)
def df (prog:Program) (w:World):PySem.KeyKind prog w Key where
 is:=rS
 hash:=SE w
 inj:=fun v a b ha hb=>by
  rcases cn ha with⟨i,t,rfl,rfl⟩|⟨x,t,rfl,rfl⟩
  ·rcases cn hb with⟨j,u,rfl,e⟩|⟨y,u,rfl,e⟩
   ·injection e with e1 _;rw[e1]
   ·exact nomatch e
  ·rcases cn hb with⟨j,u,rfl,e⟩|⟨y,u,rfl,e⟩
   ·exact nomatch e
   ·injection e with e1 _;rw[e1]
 byValue:=fun k v h=>by
  rcases cn h with⟨i,t,rfl,rfl⟩|⟨x,t,rfl,rfl⟩<;>rfl
 pyHash:=fun hv h=>by
  rcases cn hv with⟨i,t,rfl,rfl⟩|⟨x,t,rfl,rfl⟩
  ·exact wpAny_pyHash_int h
  ·exact wpAny_pyHash_str h
 eqBool:=fun hu hv h=>by
  rcases cn hu with⟨i,t,rfl,rfl⟩|⟨x,t,rfl,rfl⟩
  ·rcases cn hv with⟨j,u,rfl,rfl⟩|⟨y,u,rfl,rfl⟩
   ·rw[Ku] at h;exact wpAny_eqBool_int h
   ·rw[Kw] at h;exact SeqAt.EqAt.int_str i t y u _ _ _ _ h
  ·rcases cn hv with⟨j,u,rfl,rfl⟩|⟨y,u,rfl,rfl⟩
   ·rw[Kx] at h;exact SeqAt.EqAt.str_int x t j u _ _ _ _ h
   ·rw[Kv] at h;exact wpAny_eqBool_str h
 «strs»:=fun k x t v h=>by
  rcases cn h with⟨i,u,rfl,e⟩|⟨y,u,rfl,e⟩
  ·exact nomatch e
  ·injection e with e1 _
   subst e1
   cases v<;>rfl
theorem vL (prog:Program) (w:World) (i:Int) (t:Tok):(df prog w).is (.inl i) (.int i t)=true:=Bk i t
theorem vM (prog:Program) (w:World) (x:Str) (t:Tok):(df prog w).is (.inr x) (.str x t)=true:=Bl x t
inductive V where
 | cH|bl (b:Bool)|int (i:Int)|str (x:Str)|xZ (b:Array UInt8)|Ky (b:UInt64)|ref (a:Addr)|ty (n:String)
 deriving DecidableEq
def RelV:V→Value→Prop
 | .cH,u=>u=Value.none
 | .bl b,u=>u=Value.bool b
 | .int i,u=>∃t,u=Value.int i t
 | .str x,u=>∃t,u=Value.str x t
 | .xZ b,u=>∃t,u=Value.bytes b t
 | .Ky b,u=>∃t,u=Value.float b t
 | .ref a,u=>u=Value.ref a
 | .ty n,u=>u=Value.type n
abbrev Vals:List V→List Value→Prop:=Paired RelV
theorem Vals.length {xs:List V}{us:List Value}(r:Vals xs us):xs.length=us.length:=Paired.length r
theorem Vals.get:∀{xs:List V}{us:List Value}{i:Nat}{x:V},Vals xs us→xs[i]?=some x→∃u,us[i]?=some u∧RelV x u
 | _,_,_,_,.nil,e=>by simp at e
 | _,_,0,_,.cons r _,e=>by simp at e;subst e;exact⟨_,rfl,r⟩
 | _,_,i+1,x,.cons _ t,e=>by
  obtain⟨u,h1,h2⟩:=Vals.get (i:=i) (x:=x) t (by simpa using e)
  exact⟨u,by simpa using h1,h2⟩
theorem Vals.set {x:V}{u:Value}(r:RelV x u):∀{xs:List V}{us:List Value}(i:Nat),Vals xs us→Vals (xs.set i x) (us.set i u)
 | _,_,_,.nil=>.nil
 | _,_,0,.cons _ t=>.cons r t
 | _,_,i+1,.cons q t=>.cons q (Vals.set r i t)
theorem Vals.append:∀{xs ys:List V}{us ws:List Value},Vals xs us→Vals ys ws→Vals (xs++ys) (us++ws)
 | _,_,_,_,.nil,s=>s
 | _,_,_,_,.cons r t,s=>.cons r (Vals.append t s)
theorem Vals.take:∀{xs:List V}{us:List Value}(n:Nat),Vals xs us→Vals (xs.take n) (us.take n)
 | _,_,0,_=>.nil
 | _,_,_+1,.nil=>.nil
 | _,_,n+1,.cons r t=>.cons r (Vals.take n t)
theorem Vals.drop:∀{xs:List V}{us:List Value}(n:Nat),Vals xs us→Vals (xs.drop n) (us.drop n)
 | _,_,0,r=>r
 | _,_,_+1,.nil=>.nil
 | _,_,n+1,.cons _ t=>Vals.drop n t
def iC:Option V→Option Value→Prop
 | some v,some u=>RelV v u
 | none,none=>True
 | _,_=>False
def KV {κ:Type}:List (κ×V)→List (κ×Value)→Prop:=Paired fun(p:κ×V) (q:κ×Value)=>p.1=q.1∧RelV p.2 q.2
noncomputable def kV:Key→V
 | .inl i=>.int i
 | .inr x=>.str x
inductive HO where
  | lst (xs:List V)
  | tup (xs:List V)
  | dK (aB:List (Key×V))|dT (aB:List (List Key×V))
  | set (S:Int→Bool) (n:Nat)
  | ins (C dx:Addr) (fs:List (Str×V))
  | own (x:Addr)
  | xd (fs:List (Str×V))
  | met (f x:Addr)
  | Rl (lo hi:Int)
  | ya (o:Obj) (u:HO)
  | Ge (ps:Array Value)
  | ext (φ:Heap→Prop)
abbrev Hp:=Addr→Option HO
def upd (H:Hp) (a:Addr) (o:HO):Hp:=fun b=>if b=a then some o else H b
theorem aj {H:Hp}{a:Addr}{o:HO}:upd H a o a=some o:=by unfold upd;rw[if_pos rfl]
theorem aA {H:Hp}{a b:Addr}{o:HO}(h:b≠a):upd H a o b=H b:=by unfold upd;rw[if_neg h]
theorem GC {H:Hp}{a:Addr}{o u:HO}:upd (upd H a o) a u=upd H a u:=by
 funext b;unfold upd;split<;>rfl
theorem oj {H:Hp}{a b:Addr}{o u:HO}(h:H a=some o) (h':H b=some u) (d:o≠u):a≠b:=by
 intro e;subst e;rw[h] at h';exact d (Option.some.inj h')
theorem aF {H:Hp}{a b:Addr}{o:HO}(h:H a=some o) (h':H b=none):a≠b:=by
 intro e;subst e;rw[h] at h';cases h'
section
variable (P:Program) (w:World)
def bI (H:Hp) (h:Heap) (a:Addr):HO→Prop
 | .lst xs=>xs.length≤sizeLine∧∃(its:List Value) (n:Nat),Vals xs its∧h.get? a=some { cls:=.type "list",data:=.seq its.toArray n }
 | .tup xs=>xs.length≤sizeLine∧∃its:List Value,Vals xs its∧IsTup h a its.toArray
 | .dK aB=>aB.length≤sizeLine∧(a == sysModules)=false∧∃vs,KV aB vs∧h.DictOf (df P w) a vs
 | .dT aB=>aB.length≤sizeLine∧(a == sysModules)=false∧∃xs:List (List Key×Addr×Value),
   Paired (fun(p:List Key×V) (q:List Key×Addr×Value)=>p.1=q.1∧H q.2.1=some (.tup (p.1.map kV))∧RelV p.2 q.2.2) aB xs ∧
   ∃o es ep,h.get? a=some o∧o.ExactDict∧o.data = .dict es ep∧es.toList=xs.map (entryOfKey (tupleKind (df P w)))∧(xs.map (·.1)).Nodup
 | .set S n=>h.SetOf (intKind P w) a S n
 | .ins C dx fs=>H dx=some (.own a)∧fs.length≤1000∧dx≠a∧h.get? a=some (PySem.W.instObj C dx) ∧
   ∃mA,h.Ns1 dx mA∧(∀f,iC (fs.lookup f) (mA f))∧PySem.Within mA (fs.map (·.1))
 | .own _=>∃o,h.get? a=some o
 | .xd fs=>∃mA,h.Ns1 a mA∧∀f,iC (fs.lookup f) (mA f)
 | .Rl lo hi=>∃t u v,h.get? a=some { cls:=.type "range",data:=.fields #[.int lo t,.int hi u,.int 1 v] }
 | .ya o u=>h.get? a=some o∧bI H h a u
 | .Ge ps=>h.get? a=some { cls:=.none,data:=.fields ps }
 | .met f x=>h.get? a=some (PySem.W.methodObj (.ref f) (.ref x))
 | .ext φ=>φ h∧(∃o,h.get? a=some o)∧∀h1 h2:Heap,φ h1→(∀o,h1.get? a=some o→h2.get? a=some o)→φ h2
def iB (H:Hp) (h:Heap):Prop:=∀a o,H a=some o→bI P w H h a o
end
section
variable {P:Program}{w:World}{H H':Hp}{h h':Heap}{a:Addr}{o:HO}
theorem bI.lt (x:bI P w H h a o):a<h.objs.size:=by
 cases o with
 | lst xs=>obtain⟨_,_,_,_,e⟩:=x;exact Heap.lt_size e
 | tup xs=>obtain⟨_,_,_,p⟩:=x;exact p.lt
 | dK aB=>obtain⟨_,_,_,_,o,_,_,e,_⟩:=x;exact Heap.lt_size e
 | dT aB=>obtain⟨_,_,_,_,o,_,_,e,_⟩:=x;exact Heap.lt_size e
 | set S n=>obtain⟨o,_,_,_,e,_⟩:=x;exact Heap.lt_size e
 | ins C dx fs=>obtain⟨_,_,_,e,_⟩:=x;exact Heap.lt_size e
 | own y=>obtain⟨_,e⟩:=x;exact Heap.lt_size e
 | xd fs=>obtain⟨_,⟨_,_,_,e,_⟩,_⟩:=x;exact Heap.lt_size e
 | Rl lo hi=>obtain⟨_,_,_,e⟩:=x;exact Heap.lt_size e
 | ya ob u=>obtain⟨e,_⟩:=x;exact Heap.lt_size e
 | Ge ps=>exact Heap.lt_size (show h.get? a=some _ from x)
 | met f y=>exact Heap.lt_size (show h.get? a=some _ from x)
 | ext φ=>obtain⟨_,⟨_,e⟩,_⟩:=x;exact Heap.lt_size e
theorem Paired.Kz {α β:Type}{F G:α→β→Prop}:∀{l₁:List α}{l₂:List β},Paired F l₁ l₂→(∀a b,F a b→G a b)→Paired G l₁ l₂
 | _,_,.nil,_=>.nil
 | _,_,.cons r t,f=>.cons (f _ _ r) (Paired.Kz t f)
theorem bI.lN (x:bI P w H h a o) (k:∀b u,(b=a∨H b=some (.own a))→h.get? b=some u→h'.get? b=some u)
  (ho:∀b,H b=some (.own a)→H' b=some (.own a)) (ht:∀b xs,H b=some (.tup xs)→H' b=some (.tup xs)):bI P w H' h' a o:=by
 induction o with
 | lst xs=>obtain⟨z,its,n,r,e⟩:=x;exact⟨z,its,n,r,k _ _ (.inl rfl) e⟩
 | tup xs=>obtain⟨z,its,r,ob,e,c⟩:=x;exact⟨z,its,r,ob,k _ _ (.inl rfl) e,c⟩
 | dK aB=>obtain⟨z,y,vs,r,ob,es,ep,e,c⟩:=x;exact⟨z,y,vs,r,ob,es,ep,k _ _ (.inl rfl) e,c⟩
 | dT aB =>
  obtain⟨z,y,xs,r,ob,es,ep,e,c⟩:=x
  exact⟨z,y,xs,Paired.Kz r fun p q z=>⟨z.1,ht _ _ z.2.1,z.2.2⟩,ob,es,ep,k _ _ (.inl rfl) e,c⟩
 | set S n=>obtain⟨ob,es,ep,t,e,c⟩:=x;exact⟨ob,es,ep,t,k _ _ (.inl rfl) e,c⟩
 | ins C dx fs =>
  obtain⟨d,z,ne,e,mA,⟨od,es,ep,e2,c⟩,r⟩:=x
  exact⟨ho _ d,z,ne,k _ _ (.inl rfl) e,mA,⟨od,es,ep,k _ _ (.inr d) e2,c⟩,r⟩
 | own y=>obtain⟨ob,e⟩:=x;exact⟨ob,k _ _ (.inl rfl) e⟩
 | xd fs=>obtain⟨mA,⟨od,es,ep,e,c⟩,r⟩:=x;exact⟨mA,⟨od,es,ep,k _ _ (.inl rfl) e,c⟩,r⟩
 | Rl lo hi=>obtain⟨t,u,v,e⟩:=x;exact⟨t,u,v,k _ _ (.inl rfl) e⟩
 | ya ob u ih=>obtain⟨e,q⟩:=x;exact⟨k _ _ (.inl rfl) e,ih q⟩
 | Ge ps =>
  have e:h.get? a=some { cls:=.none,data:=.fields ps }:=x
  show h'.get? a=some { cls:=.none,data:=.fields ps }
  exact k a _ (.inl rfl) e
 | met f y =>
  have e:h.get? a=some (PySem.W.methodObj (.ref f) (.ref y)):=x
  show h'.get? a=some (PySem.W.methodObj (.ref f) (.ref y))
  exact k a _ (.inl rfl) e
 | ext φ=>obtain⟨p,⟨o,e⟩,st⟩:=x;exact⟨st _ _ p fun o q=>k _ _ (.inl rfl) q,⟨o,k _ _ (.inl rfl) e⟩,st⟩
theorem iB.lt (x:iB P w H h) (e:H a=some o):a<h.objs.size:=(x a o e).lt
theorem iB.fresh (x:iB P w H h) (e:h.objs.size≤a):H a=none:=by
 cases q:H a with
 | none=>rfl
 | some u=>exact absurd (Nat.lt_of_lt_of_le (x.lt q) e) (Nat.lt_irrefl _)
theorem iB.kept (x:iB P w H h) (k:∀b u,h.get? b=some u→h'.get? b=some u):iB P w H h':=fun a o e =>
 (x a o e).lN (fun b u _ q=>k b u q) (fun _ q=>q) fun _ _ q=>q
theorem iB.laid (x:iB P w H h) (k:∀b u,h.get? b=some u→h'.get? b=some u) (hp:h.objs.size≤a) (new:bI P w (upd H a o) h' a o):iB P w (upd H a o) h':=fun b u e=>by
 have hn:=x.fresh hp
 by_cases hb:b=a
 ·subst hb;rw[aj] at e;cases e;exact new
 ·rw[aA hb] at e
  exact(x b u e).lN (fun c v _ q=>k c v q) (fun c q=>by rw[aA (aF q hn)];exact q) fun c xs q=>by rw[aA (aF q hn)];exact q
def Rd (H:Hp) (a:Addr) (u:HO):Prop:=H a=some u∨∃o,H a=some (.ya o u)
theorem Rd.ok {P:Program}{w:World}{H:Hp}{h:Heap}{a:Addr}{u:HO}(r:Rd H a u) (x:iB P w H h):bI P w H h a u:=by
 rcases r with r|⟨o,r⟩
 ·exact x a u r
 ·obtain⟨_,q⟩:=x a _ r
  exact q
def GD:Option HO→Prop
 | some (.lst _)=>True
 | some (.dK _)=>True
 | some (.dT _)=>True
 | some (.set _ _)=>True
 | some (.ins _ _ _)=>True
 | some (.ext _)=>True
 | _=>False
variable {x:Addr}{e:Addr}{o':HO}
theorem iB.write (ok:iB P w H h) (mu:GD (H x)) (he:e=x∨H e=some (.own x)) (k:∀b u,b≠e→h.get? b=some u→h'.get? b=some u) (Nb:∃u,h'.get? e=some u)
  (new:bI P w (upd H x o') h' x o'):iB P w (upd H x o') h':=fun b u q=>by
 have NN:∀c y,H c=some (.own y)→c≠x:=fun c y r z=>by subst z;rw[r] at mu;exact mu
 have SG:∀c xs,H c=some (.tup xs)→c≠x:=fun c xs r z=>by subst z;rw[r] at mu;exact mu
 by_cases hb:b=x
 ·subst hb;rw[aj] at q;cases q;exact new
 ·rw[aA hb] at q
  by_cases Bm:b=e
  ·have q':H b=some (.own x):=by
    rcases he with z|z
    ·exact absurd (Bm.trans z) hb
    ·rw[Bm];exact z
   rw[q] at q';cases q'
   obtain⟨v,hv⟩:=Nb
   exact⟨v,by rw[Bm];exact hv⟩
  ·refine(ok b u q).lN (fun c v hc r=>k c v ?_ r) (fun c r=>by rw[aA (NN c b r)];exact r) fun c xs r=>by rw[aA (SG c xs r)];exact r
   rcases hc with rfl|hc
   ·exact Bm
   ·rintro rfl
    rcases he with z|z
    ·exact NN c b hc z
    ·rw[hc] at z;cases z;exact hb rfl
structure Un (fs ex:List Addr) (H H':Hp) (h h':Heap):Prop where
 keep:∀b o,h.get? b=some o→H b=none→b∉fs→b∉ex→h'.get? b=some o
 slot:∀b o,h.get? b=some o→H b=none→b∈fs→b∉ex→∃sl,h'.get? b=some { o with slots:=sl }
 free:∀b o,h.get? b=some o→H b=none→b∉ex→H' b=none
 there:∀b o,h.get? b=some o→b∉ex→∃o',h'.get? b=some o'
 lO:∀b xs,H b=some (.tup xs)→H' b=some (.tup xs)
 lp:∀b o u,H b=some (.ya o u)→H' b=some (.ya o u)
 lP:∀b ps,H b=some (.Ge ps)→∃more,H' b=some (.Ge (ps++more))
variable {fs:List Addr}{GG:List Addr}{ex:List Addr}{ex':List Addr}{H1:Hp}{H2:Hp}{h1:Heap}{h2:Heap}
theorem Un.any (u:Un fs ex H H1 h h1) {b:Addr}{ob:Obj}(q:h.get? b=some ob) (n:H b=none) (hx:b∉ex):∃sl,h1.get? b=some { ob with slots:=sl }:=by
 by_cases hb:b∈fs
 ·exact u.slot b ob q n hb hx
 ·exact⟨ob.slots,u.keep b ob q n hb hx⟩
theorem Un.kept (k:∀b u,h.get? b=some u→h'.get? b=some u):Un fs ex H H h h' :=
 ⟨fun b ob q _ _ _=>k b ob q,fun b ob q _ _ _=>⟨ob.slots,k b ob q⟩,fun _ _ _ n _=>n,fun b ob q _=>⟨ob,k b ob q⟩,fun _ _ q=>q,fun _ _ _ q=>q,fun _ ps q=>⟨#[],by rw[q];simp⟩⟩
theorem Un.refl:Un fs ex H H h h:=Un.kept fun _ _ q=>q
theorem Un.laid (k:∀b u,h.get? b=some u→h'.get? b=some u) (hp:h.objs.size≤a) (hn:H a=none):Un fs ex H (upd H a o) h h' where
 keep:=fun b u q _ _ _=>k b u q
 slot:=fun b u q _ _ _=>⟨u.slots,k b u q⟩
 free:=fun b u q n _=>by rw[aA (Nat.ne_of_lt (Nat.lt_of_lt_of_le (Heap.lt_size q) hp))];exact n
 there:=fun b u q _=>⟨u,k b u q⟩
 lO:=fun b xs q=>by rw[aA (aF q hn)];exact q
 lp:=fun b u xs q=>by rw[aA (aF q hn)];exact q
 lP:=fun b ps q=>⟨#[],by rw[aA (aF q hn),q];simp⟩
theorem Un.write (mu:GD (H x)) (he:e=x∨H e=some (.own x)) (k:∀b u,b≠e→h.get? b=some u→h'.get? b=some u) (Nb:∃u,h'.get? e=some u):Un fs ex H (upd H x o) h h':=by
 have hx:∀b,H b=none→b≠x:=fun b n z=>by subst z;rw[n] at mu;exact mu
 have hb:∀b,H b=none→b≠e:=fun b n z=>by
  subst z
  rcases he with r|r
  ·exact hx b n r
  ·rw[n] at r;cases r
 have hm:∀b u,H b=some u→¬GD (some u)→b≠x:=fun b u q nm z=>by subst z;rw[q] at mu;exact nm mu
 refine⟨fun b u q n _ _=>k b u (hb b n) q,fun b u q n _ _=>⟨u.slots,k b u (hb b n) q⟩,fun b u q n _=>by rw[aA (hx b n)];exact n,fun b u q _=>?_,
  fun b xs q=>by rw[aA (hm b _ q fun z=>z)];exact q,fun b u xs q=>by rw[aA (hm b _ q fun z=>z)];exact q,fun b ps q=>⟨#[],by rw[aA (hm b _ q fun z=>z),q];simp⟩⟩
 by_cases Bm:b=e
 ·subst Bm;exact Nb
 ·exact⟨u,k b u Bm q⟩
end
noncomputable def Rm (h:Heap) (H:Hp):List Addr:=(List.range h.objs.size).filter fun a=>(H a).isSome
def tj (h:Heap) (H:Hp):Heap:=PySem.W.hideAll h (Rm h H)
theorem Bo (h:Heap) (H:Hp):(tj h H).objs.size=h.objs.size:=PySem.W.hideAll_size _ _
theorem C7 {h:Heap}{H:Hp}{b:Addr}{o:Obj}(e:h.get? b=some o) (n:H b=none):(tj h H).get? b=some o :=
 PySem.W.hideAll_get _ e fun hm=>by
  have q:(H b).isSome=true:=(mem_filter.mp hm).2
  rw[n] at q;simp at q
theorem GH {h:Heap}{H:Hp}{b:Addr}{o:Obj}(e:(tj h H).get? b=some o):h.get? b=some o∧H b=none:=by
 have e':h.get? b=some o:=PySem.W.of_hideAll (Rm h H) e
 refine⟨e',?_⟩
 cases q:H b with
 | none=>rfl
 | some x =>
  have hm:b∈Rm h H:=mem_filter.mpr ⟨mem_range.mpr (Heap.lt_size e'),by simp[q]⟩
  have z:(tj h H).get? b=none:=PySem.W.hideAll_none (Rm h H) hm
  rw[z] at e;cases e
noncomputable def GI (g h:Heap) (L:Addr):List (Addr×Obj):=(List.range h.objs.size).filterMap fun a=>if a=L∨(g.get? a).isSome=true then none else (h.get? a).map fun o=>(a,o)
def rest (g h:Heap) (L d:Addr):List (Addr×Obj):=(GI g h L).filter fun p=>decide (p.1≠d)
structure Mod (K:Frag) (mg:Str→Option Value) (base:Heap):Prop where
 C8:K.In base
 glob:base.Ns mainGlobals mg
 blt:∃mb,base.Ns builtinsNs mb∧∀x:Str,x≠"__name__"→mb x=bootBuiltins x
 nolimit:base.NoLimit
structure Cx where
 prog:Program
 w:World
 K:Frag
 mg:Str→Option Value
 base:Heap
 A:Around
 N:List Str
 s₀:Shared
 H₀:Hp
 env:Env
 outer:List Env
 stack:List Env
 ex:List Addr
 fn:Str→Bool
 calm:Bool
 pn:List (Addr×Obj)
 xe:Value→Shared→Prop
def nk (l:List Env):List Addr:=l.filterMap (·.frame)
abbrev Cx.fs (X:Cx):List Addr:=nk X.outer
def SH (sc:Scope) (x:Str):Prop:=sc.names.lookup x=some .local ∨ sc.names.lookup x=some .cell∨sc.names.lookup x=some .free
def Loc (sc:Scope) (x:Str):Prop:=sc.names.lookup x=some .local ∨ sc.names.lookup x=some .cell
def Look (env:Env) (h:Heap) (m:Str→Option Value) (x:Str) (u:Value):Prop :=
 (env.kindOf x=some .local∧m x=some u)∨((env.kindOf x=some .cell∨env.kindOf x=some .free)∧∃c,env.cells.lookup x=some c∧h.IsCell c (some u))
structure Cx.Ok (X:Cx):Prop where
 mod:Mod X.K X.mg X.base
 kind:X.env.scope.kind = .function
 glob:X.env.globals=mainGlobals
 blt:X.env.builtins=builtinsNs
 above:X.s₀.heap.objs.size≤X.env.locals
 inj:∀x y c,X.env.cells.lookup x=some c→X.env.cells.lookup y=some c→x=y
 has:∀x,(X.env.kindOf x=some .cell∨X.env.kindOf x=some .free)→∃c,X.env.cells.lookup x=some c
 GJ:∀x c,X.fn x=true→X.env.cells.lookup x=some c→X.s₀.heap.objs.size≤c
 hd:X.calm=true→X.A.handled=none
 frames:X.A.frames=some X.stack
 JE:X.stack=X.outer∨(X.stack=X.env::X.outer∧X.env.frame=some X.env.locals)
 Nc:∀b∈X.ex,b≠X.env.locals∧∀x c,X.env.cells.lookup x=some c→c≠b
 bs:∀b o,X.base.get? b=some o→X.s₀.heap.get? b=some o∧X.H₀ b=none
 vN:X.base.objs.size≤X.s₀.heap.objs.size
 qT:∀b o,X.base.get? b=some o→b∉X.ex
 vO:∀b∈X.ex,b∉X.fs
 jC:X.s₀.heap.FunFrames X.base X.outer
 CJ:∀b∈X.fs,X.H₀ b=none
structure Inv (X:Cx) (π:List (Addr×Obj)) (σ:List (Option V)) (H:Hp) (s:Shared):Prop where
 ok:X.Ok
 os:s.os=X.s₀.os
 bare:AllBare s.gens
 base:Un X.fs X.ex X.H₀ H X.s₀.heap s.heap
 loc:∃m,s.heap.Ns X.env.locals m∧∀(i:Nat) (x:Str) (v:V),X.N[i]?=some x→σ[i]?=some (some v)→SH X.env.scope x→∃u,RelV v u∧Look X.env s.heap m x u
 cell:∀x c,X.env.cells.lookup x=some c→∃v,s.heap.IsCell c v
 free:H X.env.locals=none
 dP:∀x c,X.env.cells.lookup x=some c→H c=none
 pin:∀p∈X.pn++π,s.heap.get? p.1=some p.2∧H p.1=none∧p.1≠X.env.locals∧p.1∉X.fs∧∀v,p.2.data≠.cell v
 aV:iB X.prog X.w H s.heap
 len:σ.length=X.N.length
section
variable {X:Cx}{π:List (Addr×Obj)}{σ:List (Option V)}{H H':Hp}{s:Shared}{h':Heap}
theorem Cx.Ok.SI (ok:X.Ok) {b:Addr}{o:Obj}(e:X.base.get? b=some o):b∉X.fs:=fun hb=>by
 have:=(ok.jC.mem hb).1
 rw[e] at this;cases this
theorem Inv.bs (I:Inv X π σ H s):∀b o,X.base.get? b=some o→s.heap.get? b=some o∧H b=none:=fun b o e =>
 ⟨I.base.keep b o (I.ok.bs b o e).1 (I.ok.bs b o e).2 (I.ok.SI e) (I.ok.qT b o e),I.base.free b o (I.ok.bs b o e).1 (I.ok.bs b o e).2 (I.ok.qT b o e)⟩
theorem Inv.bk (I:Inv X π σ H s):∀b o,X.base.get? b=some o→s.heap.get? b=some o:=fun b o e=>(I.bs b o e).1
theorem Inv.mod (I:Inv X π σ H s):Mod X.K X.mg X.base:=I.ok.mod
theorem Inv.oG (I:Inv X π σ H s):X.K.In s.heap:=I.ok.mod.C8.keeps I.bk
theorem Inv.fr (I:Inv X π σ H s):∃m,Fr X.base X.env.locals s.heap m :=
 let ⟨m,hn,_⟩:=I.loc
 ⟨m,hn,I.bk,Nat.le_trans I.ok.vN I.ok.above⟩
theorem Inv.lt (I:Inv X π σ H s):X.env.locals<s.heap.objs.size:=let ⟨_,hn,_⟩:=I.loc;hn.lt
theorem Inv.sz (I:Inv X π σ H s):X.s₀.heap.objs.size≤s.heap.objs.size:=Nat.le_trans I.ok.above (Nat.le_of_lt I.lt)
theorem Inv.SK (I:Inv X π σ H s) {a:Addr}(h:s.heap.objs.size≤a):a∉X.fs:=fun hb=>by
 obtain⟨_,o,ho,_⟩:=I.ok.jC.mem hb
 exact absurd (Nat.lt_of_lt_of_le (Heap.lt_size ho) (Nat.le_trans I.sz h)) (Nat.lt_irrefl _)
theorem Inv.Bp (I:Inv X π σ H s):∀x c,X.env.cells.lookup x=some c→c≠X.env.locals:=fun x c e z=>by
 obtain⟨v,o,ho,hd⟩:=I.cell x c e
 obtain⟨m,⟨o',es,ep,jq,kJ,_⟩,_⟩:=I.loc
 rw[z,jq] at ho;cases ho;rw[kJ] at hd;cases hd
theorem Inv.jC (I:Inv X π σ H s):s.heap.FunFrames X.base X.outer:=by
 have all:∀(l:List Env),(∀b∈nk l,b∈X.fs)→X.s₀.heap.FunFrames X.base l→s.heap.FunFrames X.base l:=by
  intro l
  induction l with
  | nil=>intro _ _;trivial
  | cons env r ih =>
   intro hs hl
   obtain⟨hk,⟨L,o,hf,hn,ho,hd⟩,hr⟩:=hl
   have hL:L∈X.fs:=hs L (by unfold nk;rw[List.filterMap_cons,hf];exact mem_cons_self)
   obtain⟨sl,e⟩:=I.base.slot L o ho (I.ok.CJ L hL) hL fun z=>I.ok.vO L z hL
   exact⟨hk,⟨L,_,hf,hn,e,hd⟩,ih (fun b hb=>hs b (by unfold nk;rw[List.filterMap_cons,hf];exact mem_cons_of_mem _ hb)) hr⟩
 exact all X.outer (fun _ hb=>hb) I.ok.jC
theorem Inv.stack (I:Inv X π σ H s):s.heap.FunFrames X.base X.stack:=by
 rcases I.ok.JE with e|⟨e,hf⟩
 ·rw[e];exact I.jC
 ·rw[e]
  obtain⟨m,hn,_⟩:=I.loc
  refine .cons (by rw[I.ok.kind];decide) hf hn ?_ I.jC
  exact Heap.get?_none_of_le (Nat.le_trans I.ok.vN I.ok.above)
theorem Inv.jD (I:Inv X π σ H s):∀b∈nk X.stack,b∈X.env.locals::X.fs:=fun b hb=>by
 rcases I.ok.JE with e|⟨e,hf⟩
 ·rw[e] at hb;exact mem_cons_of_mem _ hb
 ·rw[e] at hb
  unfold nk at hb
  rw[List.filterMap_cons,hf] at hb
  exact hb
theorem Inv.oQ (I:Inv X π σ H s):∀b∈nk X.stack,H b=none:=fun b hb=>by
 rcases List.mem_cons.mp (I.jD b hb) with e|hb
 ·rw[e];exact I.free
 ·obtain⟨_,o,ho,_⟩:=I.ok.jC.mem hb
  exact I.base.free b o ho (I.ok.CJ b hb) fun z=>I.ok.vO b z hb
theorem Inv.step {g':Array GenState}{t':Nat}{d':Drawn}{ch:List Addr}(I:Inv X π σ H s)
  (xU:∀b∈ch,(b∈X.ex∨X.s₀.heap.objs.size≤b)∧b≠X.env.locals∧(∀x c,X.env.cells.lookup x=some c→c≠b)∧∀p∈X.pn++π,p.1≠b)
  (keep:∀b o,b≠X.env.locals→b∉X.fs→b∉ch→s.heap.get? b=some o→H b=none→h'.get? b=some o)
  (slot:∀b o,b≠X.env.locals→b∈X.fs→b∉ch→s.heap.get? b=some o→H b=none→∃sl,h'.get? b=some { o with slots:=sl }) (free:∀b o,b∉ch→s.heap.get? b=some o→H b=none→H' b=none)
  (there:∀b o,b∉ch→s.heap.get? b=some o→∃o',h'.get? b=some o')
  (lO:∀b xs,H b=some (.tup xs)→H' b=some (.tup xs)) (lp:∀b o u,H b=some (.ya o u)→H' b=some (.ya o u)) (lP:∀b ps,H b=some (.Ge ps)→∃more,H' b=some (.Ge (ps++more)))
  (ns:∀m,s.heap.Ns X.env.locals m→h'.Ns X.env.locals m) (aV:iB X.prog X.w H' h') (hg:AllBare g') :
  Inv X π σ H' { s with heap:=h',gens:=g',drawn:=d',toks:=t' }:=by
 have NO:∀b o,X.s₀.heap.get? b=some o→b≠X.env.locals:=fun b o e=>Nat.ne_of_lt (Nat.lt_of_lt_of_le (Heap.lt_size e) I.ok.above)
 have GK:∀b o,X.s₀.heap.get? b=some o→b∉X.ex→b∉ch:=fun b o e hx hb=>by
  rcases(xU b hb).1 with z|z
  ·exact hx z
  ·exact absurd (Nat.lt_of_lt_of_le (Heap.lt_size e) z) (Nat.lt_irrefl _)
 have cellK:∀x c,X.env.cells.lookup x=some c→∀v,s.heap.IsCell c v→h'.IsCell c v:=fun x c e v ⟨o,ho,hd⟩=>by
  have C9:c∉ch:=fun z=>(xU c z).2.2.1 x c e rfl
  by_cases hc:c∈X.fs
  ·obtain⟨sl,q⟩:=slot c o (I.Bp x c e) hc C9 ho (I.dP x c e)
   exact⟨_,q,hd⟩
  ·exact⟨o,keep c o (I.Bp x c e) hc C9 ho (I.dP x c e),hd⟩
 refine⟨I.ok,I.os,hg,⟨fun b o e n hb hx=>?_,fun b o e n hb hx=>?_,fun b o e n hx=>?_,fun b o e hx=>?_,fun b xs e=>lO b xs (I.base.lO b xs e),fun b o xs e=>lp b o xs (I.base.lp b o xs e),fun b ps e=>?_⟩,?_,fun x c e=>?_,?_,fun x c e=>?_,fun p hp=>?_,aV,I.len⟩
 ·exact keep b o (NO b o e) hb (GK b o e hx) (I.base.keep b o e n hb hx) (I.base.free b o e n hx)
 ·obtain⟨sl,e1⟩:=I.base.slot b o e n hb hx
  obtain⟨NP,e2⟩:=slot b _ (NO b o e) hb (GK b o e hx) e1 (I.base.free b o e n hx)
  exact⟨NP,e2⟩
 ·obtain⟨o',e1⟩:=I.base.there b o e hx
  exact free b o' (GK b o e hx) e1 (I.base.free b o e n hx)
 ·obtain⟨o',e1⟩:=I.base.there b o e hx
  exact there b o' (GK b o e hx) e1
 ·obtain⟨m1,e1⟩:=I.base.lP b ps e
  obtain⟨m2,e2⟩:=lP b _ e1
  exact⟨m1++m2,by rw[e2,Array.append_assoc]⟩
 ·obtain⟨m,hn,hl⟩:=I.loc
  refine⟨m,ns m hn,fun i x v e1 e2 e3=>?_⟩
  obtain⟨u,r,l⟩:=hl i x v e1 e2 e3
  refine⟨u,r,?_⟩
  rcases l with l|⟨k,c,e,z⟩
  ·exact .inl l
  ·exact .inr ⟨k,c,e,cellK x c e _ z⟩
 ·obtain⟨v,z⟩:=I.cell x c e
  exact⟨v,cellK x c e v z⟩
 ·obtain⟨m,⟨o,_,_,ho,_⟩,_⟩:=I.loc
  exact free _ o (fun z=>(xU _ z).2.1 rfl) ho I.free
 ·obtain⟨v,o,ho,hd⟩:=I.cell x c e
  exact free c o (fun z=>(xU c z).2.2.1 x c e rfl) ho (I.dP x c e)
 ·obtain⟨e,n,ne,nf,d⟩:=I.pin p hp
  have C9:p.1∉ch:=fun z=>(xU p.1 z).2.2.2 p hp rfl
  exact⟨keep p.1 p.2 ne nf C9 e n,free p.1 p.2 C9 e n,ne,nf,d⟩
theorem Inv.un {t':Nat}(I:Inv X π σ H s) (u:Un X.fs [] H H' s.heap h') (aV:iB X.prog X.w H' h'):Inv X π σ H' { s with heap:=h',toks:=t' }:=by
 obtain⟨m,⟨o,es,ep,ho,r⟩,_⟩:=id I.loc
 obtain⟨sl,hL⟩:=u.any ho I.free (by simp)
 exact I.step (g':=s.gens) (d':=s.drawn) (ch:=[]) (fun _ z=>nomatch z) (fun b o _ hb _ e n=>u.keep b o e n hb (by simp)) (fun b o _ hb _ e n=>u.slot b o e n hb (by simp)) (fun b o _ e n=>u.free b o e n (by simp)) (fun b o _ e=>u.there b o e (by simp)) u.lO u.lp u.lP (fun m' hm=>by
  obtain⟨o',Rn,SM,jq,r'⟩:=hm
  rw[ho] at jq;cases jq
  exact⟨_,Rn,SM,hL,r'⟩) aV I.bare
theorem Inv.call {g':Array GenState}{t':Nat}{d':Drawn}{ch:List Addr}(I:Inv X π σ H s) (u:Un (nk X.stack) ch H H' s.heap h') (aV:iB X.prog X.w H' h') (hg:AllBare g')
  (xU:∀b∈ch,(b∈X.ex∨X.s₀.heap.objs.size≤b)∧b≠X.env.locals∧(∀x c,X.env.cells.lookup x=some c→c≠b)∧∀p∈X.pn++π,p.1≠b) :
  Inv X π σ H' { s with heap:=h',gens:=g',drawn:=d',toks:=t' }:=by
 obtain⟨m,⟨o,es,ep,ho,r⟩,_⟩:=id I.loc
 obtain⟨sl,hL⟩:=u.any ho I.free fun z=>(xU _ z).2.1 rfl
 exact I.step (ch:=ch) xU (fun b o hL hb hc e n=>u.keep b o e n (fun z=>(List.mem_cons.mp (I.jD b z)).elim hL hb) hc) (fun b o _ _ hc e n=>u.any e n hc) (fun b o hc e n=>u.free b o e n hc) (fun b o hc e=>u.there b o e hc) u.lO u.lp u.lP (fun m' hm=>by
  obtain⟨o',Rn,SM,jq,r'⟩:=hm
  rw[ho] at jq;cases jq
  exact⟨_,Rn,SM,hL,r'⟩) aV hg
theorem Inv.turned {t':Nat}{it:Addr}(I:Inv X π σ H s) (k:∀b o,b≠it→s.heap.get? b=some o→h'.get? b=some o) (hn:H it=none) (hL:it≠X.env.locals)
  (h1:it∈X.ex∨X.s₀.heap.objs.size≤it) (h2:∀x c,X.env.cells.lookup x=some c→c≠it) (h3:∀p∈X.pn++π,p.1≠it):Inv X π σ H { s with heap:=h',toks:=t' }:=by
 have nit:∀b u,H b=some u→b≠it:=fun b u e z=>by rw[z,hn] at e;cases e
 refine I.step (g':=s.gens) (d':=s.drawn) (ch:=[it]) (fun b hb=>?_) (fun b o _ _ hc e _=>k b o (fun z=>hc (by simp[z])) e) (fun b o _ _ hc e _=>⟨o.slots,k b o (fun z=>hc (by simp[z])) e⟩) (fun _ _ _ _ n=>n)
  (fun b o hc e=>⟨o,k b o (fun z=>hc (by simp[z])) e⟩) (fun _ _ e=>e) (fun _ _ _ e=>e) (fun b ps e=>⟨#[],by rw[e];simp⟩) (fun m hm=>?_) (fun b u e=>?_) I.bare
 ·have e:b=it:=by simpa using hb
  subst e
  exact⟨h1,hL,h2,h3⟩
 ·obtain⟨o,es,ep,ho,r⟩:=hm
  exact⟨o,es,ep,k _ o (Ne.symm hL) ho,r⟩
 ·refine(I.aV b u e).lN (fun c v hc q=>k c v ?_ q) (fun _ q=>q) fun _ _ q=>q
  rcases hc with z|z
  ·rw[z];exact nit b u e
  ·exact nit c _ z
theorem Inv.tok (I:Inv X π σ H s) (t:Nat):Inv X π σ H { s with toks:=t }:=I.un (h':=s.heap) (t':=t) Un.refl I.aV
theorem Inv.kept {t':Nat}(I:Inv X π σ H s) (k:∀b u,s.heap.get? b=some u→h'.get? b=some u):Inv X π σ H { s with heap:=h',toks:=t' }:=I.un (Un.kept k) (I.aV.kept k)
theorem Inv.laid {a:Addr}{o:HO}{t':Nat}(I:Inv X π σ H s) (k:∀b u,s.heap.get? b=some u→h'.get? b=some u) (hp:s.heap.objs.size≤a) (new:bI X.prog X.w (upd H a o) h' a o) :
  Inv X π σ (upd H a o) { s with heap:=h',toks:=t' }:=I.un (Un.laid k hp (I.aV.fresh hp)) (I.aV.laid k hp new)
theorem Inv.write {x e:Addr}{o:HO}{t':Nat}(I:Inv X π σ H s) (mu:GD (H x)) (he:e=x∨H e=some (.own x)) (k:∀b u,b≠e→s.heap.get? b=some u→h'.get? b=some u) (Nb:∃u,h'.get? e=some u)
  (new:bI X.prog X.w (upd H x o) h' x o):Inv X π σ (upd H x o) { s with heap:=h',toks:=t' }:=I.un (Un.write mu he k Nb) (I.aV.write mu he k Nb new)
theorem Inv.weak {σ':List (Option V)}(I:Inv X π σ H s) (hl:σ'.length=σ.length) (w:∀(i:Nat) v,σ'[i]?=some (some v)→σ[i]?=some (some v)):Inv X π σ' H s :=
 ⟨I.ok,I.os,I.bare,I.base,let ⟨m,hn,Ro⟩:=I.loc;⟨m,hn,fun i x v e1 e2 e3=>Ro i x v e1 (w i v e2) e3⟩,I.cell,I.free,I.dP,I.pin,I.aV,hl.trans I.len⟩
theorem Inv.kK {vP:List (Addr×Obj)}(I:Inv X π σ H s) (h:∀p∈vP,s.heap.get? p.1=some p.2∧H p.1=none∧p.1≠X.env.locals∧p.1∉X.fs∧∀v,p.2.data≠.cell v):Inv X vP σ H s :=
 ⟨I.ok,I.os,I.bare,I.base,I.loc,I.cell,I.free,I.dP,fun p hp=>(mem_append.mp hp).elim (fun z=>I.pin p (mem_append_left _ z)) (h p),I.aV,I.len⟩
theorem pb {N:List Str}(hN:N.Nodup) {i j:Nat}{x:Str}(a:N[i]?=some x) (b:N[j]?=some x):i=j:=by
 obtain⟨h1,e1⟩:=List.getElem?_eq_some_iff.mp a
 obtain⟨h2,e2⟩:=List.getElem?_eq_some_iff.mp b
 exact(List.getElem_inj hN).mp (e1.trans e2.symm)
theorem nr {M:Model}{A:Around}{E:Value→Shared→Prop}{i:Nat}{x:Str}{v:V}{u:Value}{Q:Unit→Shared→Prop}(I:Inv X π σ H s) (hN:X.N.Nodup) (hi:X.N[i]?=some x) (hx:Loc X.env.scope x) (r:RelV v u)
  (h:∀s',Inv X π (σ.set i (some v)) H s'→(∃a,Heap.SameBut a s.heap s'.heap∧(a=X.env.locals∨X.env.cells.lookup x=some a))→Q () s') (hf:X.fn x=true∨X.env.scope.names.lookup x=some .local:=by first|exact .inl rfl|exact .inr rfl|assumption):wpAny M A (storeName X.env x u) Q E s:=by
 obtain⟨m,hn,hl⟩:=id I.loc
 have SN:(X.env.scope.kind == .class||(X.env.scope.kind == .module&&X.env.locals != X.env.globals))=false:=by rw[I.ok.kind];rfl
 have hiσ:i<σ.length:=by rw[I.len];exact(List.getElem?_eq_some_iff.mp hi).1
 have Bp:=I.Bp
 have tracked:∀{a:Addr}{h':Heap},(∃o,s.heap.get? a=some o∧H a=none)→Heap.SameBut a s.heap h'→iB X.prog X.w H h':=fun {a h'} ha hs b ob e=>by
  obtain⟨_,_,jr⟩:=ha
  refine(I.aV b ob e).lN (fun c w' hc q=>(hs.2 c ?_).trans q) (fun _ q=>q) fun _ _ q=>q
  rintro rfl
  rcases hc with rfl|hc
  ·rw[jr] at e;cases e
  ·rw[jr] at hc;cases hc
 rcases hx with hk|hk
 ·refine wpAny_storeName_local hk hn (fun h' xV hs=>?_) SN
  obtain⟨oL,_,_,hoL,_⟩:=id hn
  refine h _ ⟨I.ok,I.os,I.bare,⟨fun b o e n hb hx=>?_,fun b o e n hb hx=>?_,I.base.free,fun b o e hx=>?_,I.base.lO,I.base.lp,I.base.lP⟩,⟨_,xV,fun j y v' e1 e2 e3=>?_⟩,fun y c e=>?_,I.free,I.dP,fun p hp=>?_,tracked ⟨oL,hoL,I.free⟩ hs,by simpa using I.len⟩ ⟨_,hs,.inl rfl⟩
  ·exact(hs.2 b (Nat.ne_of_lt (Nat.lt_of_lt_of_le (Heap.lt_size e) I.ok.above))).trans (I.base.keep b o e n hb hx)
  ·obtain⟨sl,e1⟩:=I.base.slot b o e n hb hx
   exact⟨sl,(hs.2 b (Nat.ne_of_lt (Nat.lt_of_lt_of_le (Heap.lt_size e) I.ok.above))).trans e1⟩
  ·obtain⟨o',e1⟩:=I.base.there b o e hx
   exact⟨o',(hs.2 b (Nat.ne_of_lt (Nat.lt_of_lt_of_le (Heap.lt_size e) I.ok.above))).trans e1⟩
  ·by_cases hj:j=i
   ·subst hj
    rw[hi] at e1;cases e1
    rw[List.getElem?_set_self hiσ] at e2
    cases e2
    exact⟨u,r,.inl ⟨hk,by simp⟩⟩
   ·rw[List.getElem?_set_ne (Ne.symm hj)] at e2
    obtain⟨u',r',q⟩:=hl j y v' e1 e2 e3
    refine⟨u',r',?_⟩
    rcases q with⟨k,e⟩|⟨k,c,e,z⟩
    ·refine .inl ⟨k,?_⟩
     have:y≠x:=fun e=>hj (pb hN e1 (e▸hi))
     simp[this,e]
    ·exact .inr ⟨k,c,e,z.sameBut hs (Bp y c e)⟩
  ·obtain⟨w',z⟩:=I.cell y c e
   exact⟨w',z.sameBut hs (Bp y c e)⟩
  ·obtain⟨e,n,ne,nf,d⟩:=I.pin p hp
   exact⟨(hs.2 p.1 ne).trans e,n,ne,nf,d⟩
 ·have SO:X.fn x=true:=by
   rcases hf with z|z
   ·exact z
   ·rw[z] at hk;cases hk
  obtain⟨c,hc⟩:=I.ok.has x (.inl hk)
  obtain⟨w',z⟩:=I.cell x c hc
  refine wpAny_storeName_cell I.ok.kind hk hc z (fun h' hc' hs=>?_)
  obtain⟨oc,hoc,SQ⟩:=id z
  refine h { s with heap:=h' } ⟨I.ok,I.os,I.bare,⟨fun b o e n hb hx=>?_,fun b o e n hb hx=>?_,I.base.free,fun b o e hx=>?_,I.base.lO,I.base.lp,I.base.lP⟩,⟨m,hn.sameBut hs (Ne.symm (Bp x c hc)),fun j y v' e1 e2 e3=>?_⟩,fun y c' e=>?_,I.free,I.dP,fun p hp=>?_,tracked ⟨oc,hoc,I.dP x c hc⟩ hs,by simpa using I.len⟩ ⟨c,hs,.inr hc⟩
  ·exact(hs.2 b (Nat.ne_of_lt (Nat.lt_of_lt_of_le (Heap.lt_size e) (I.ok.GJ x c SO hc)))).trans (I.base.keep b o e n hb hx)
  ·obtain⟨sl,e1⟩:=I.base.slot b o e n hb hx
   exact⟨sl,(hs.2 b (Nat.ne_of_lt (Nat.lt_of_lt_of_le (Heap.lt_size e) (I.ok.GJ x c SO hc)))).trans e1⟩
  ·obtain⟨o',e1⟩:=I.base.there b o e hx
   exact⟨o',(hs.2 b (Nat.ne_of_lt (Nat.lt_of_lt_of_le (Heap.lt_size e) (I.ok.GJ x c SO hc)))).trans e1⟩
  ·by_cases hj:j=i
   ·subst hj
    rw[hi] at e1;cases e1
    rw[List.getElem?_set_self hiσ] at e2
    cases e2
    exact⟨u,r,.inr ⟨.inl hk,c,hc,hc'⟩⟩
   ·rw[List.getElem?_set_ne (Ne.symm hj)] at e2
    obtain⟨u',r',q⟩:=hl j y v' e1 e2 e3
    refine⟨u',r',?_⟩
    rcases q with q|⟨k,c',e,z'⟩
    ·exact .inl q
    ·refine .inr ⟨k,c',e,z'.sameBut hs ?_⟩
     rintro rfl
     exact hj (pb hN e1 (I.ok.inj _ _ _ e hc▸hi))
  ·by_cases Nd:c'=c
   ·subst Nd;exact⟨_,hc'⟩
   ·obtain⟨w2,z2⟩:=I.cell y c' e
    exact⟨w2,z2.sameBut hs Nd⟩
  ·obtain⟨e,n,ne,nf,d⟩:=I.pin p hp
   refine⟨(hs.2 p.1 ?_).trans e,n,ne,nf,d⟩
   intro q
   rw[q,hoc] at e
   have q':oc=p.2:=Option.some.inj e
   exact d w' (by rw[←q'];exact SQ)
theorem pd {M:Model}{A:Around}{E:Value→Shared→Prop}{i:Nat}{x:Str}{v:V}{u:Value}{Q:Unit→Shared→Prop}(I:Inv X π σ H s) (hN:X.N.Nodup) (hi:X.N[i]?=some x) (hx:Loc X.env.scope x) (r:RelV v u)
  (h:∀s',Inv X π (σ.set i (some v)) H s'→Q () s') (hf:X.fn x=true∨X.env.scope.names.lookup x=some .local:=by first|exact .inl rfl|exact .inr rfl|assumption):wpAny M A (storeName X.env x u) Q E s :=
 nr I hN hi hx r (fun s' I' _=>h s' I') hf
theorem Inv.Dc {s':Shared}{ch:List Addr}(I:Inv X π σ H s) (ho:s'.os=s.os) (u:Un (nk X.stack) ch H H' s.heap s'.heap) (aV:iB X.prog X.w H' s'.heap) (hg:AllBare s'.gens)
  (xU:∀b∈ch,(b∈X.ex∨X.s₀.heap.objs.size≤b)∧b≠X.env.locals∧(∀x c,X.env.cells.lookup x=some c→c≠b)∧∀p∈X.pn++π,p.1≠b):Inv X π σ H' s':=by
 obtain⟨h',g',d',t',o'⟩:=s'
 have e:o'=s.os:=ho
 subst e
 exact I.call (g':=g') (t':=t') (d':=d') u aV hg xU
end
abbrev XK:=Value→Option Addr→Hp→Prop
abbrev St:=List (Option V)
abbrev VK:=V→Hp→Prop
abbrev TE:=St→Hp→VK→Prop
abbrev TT:=St→Hp→(Bool→Hp→Prop)→Prop
abbrev TA:=St→Hp→(List V→Hp→Prop)→Prop
structure Ends where
 nx:St→Hp→Prop
 rt:VK
 bk:St→Hp→Prop:=fun _ _=>False
 ct:St→Hp→Prop:=fun _ _=>False
abbrev TS:=Ends→St→Hp→Prop
def EP (X:Cx) (π:List (Addr×Obj)) (σ:St) (Q:VK) (u:Value) (s':Shared):Prop:=∃v H',Inv X π σ H' s'∧RelV v u∧Q v H'
def TP (X:Cx) (π:List (Addr×Obj)) (σ:St) (Q:Bool→Hp→Prop) (b:Bool) (s':Shared):Prop:=∃H',Inv X π σ H' s'∧Q b H'
def AP (X:Cx) (π:List (Addr×Obj)) (σ:St) (Q:List V→Hp→Prop) (us:List Value) (s':Shared):Prop:=∃vs H',Inv X π σ H' s'∧Vals vs us∧Q vs H'
def SP (X:Cx) (π:List (Addr×Obj)) (D:Ends) (f:Flow) (s':Shared):Prop :=
 match f with
 | .next=>∃σ' H',Inv X π σ' H' s'∧D.nx σ' H'
 | .brk=>∃σ' H',Inv X π σ' H' s'∧D.bk σ' H'
 | .cont=>∃σ' H',Inv X π σ' H' s'∧D.ct σ' H'
 | .ret u=>∃v σ' H',Inv X π σ' H' s'∧RelV v u∧D.rt v H'
def PE (X:Cx) (e:Expr) (t:TE):Prop :=
 ∀(π:List (Addr×Obj)) (s:Shared) (σ:St) (H:Hp) (Q:VK),Inv X π σ H s→t σ H Q→wpAny (model X.prog X.w) X.A (eval e X.env) (EP X π σ Q) X.xe s
def PT (X:Cx) (e:Expr) (t:TT):Prop :=
 ∀(π:List (Addr×Obj)) (s:Shared) (σ:St) (H:Hp) (Q:Bool→Hp→Prop),Inv X π σ H s→t σ H Q→wpAny (model X.prog X.w) X.A (isTrue e X.env (eval e X.env)) (TP X π σ Q) X.xe s
def PW (X:Cx) (e:Expr) (t:TT):Prop :=
 ∀(whole:Sem Value) (π:List (Addr×Obj)) (s:Shared) (σ:St) (H:Hp) (Q:Bool→Hp→Prop),Inv X π σ H s→t σ H Q→wpAny (model X.prog X.w) X.A (isTrue e X.env whole) (TP X π σ Q) X.xe s
theorem PW.pt {X:Cx}{e:Expr}{t:TT}(h:PW X e t):PT X e t:=h _
def PA (X:Cx) (es:List Expr) (t:TA):Prop :=
 ∀(pos:Pos) (π:List (Addr×Obj)) (s:Shared) (σ:St) (H:Hp) (Q:List V→Hp→Prop),Inv X π σ H s→t σ H Q→wpAny (model X.prog X.w) X.A (spliced (backTo pos (starEach es X.env))) (AP X π σ Q) X.xe s
def PS (X:Cx) (st:Stmt) (t:TS):Prop :=
 ∀(π:List (Addr×Obj)) (s:Shared) (σ:St) (H:Hp) (D:Ends),Inv X π σ H s→t D σ H→wpAny (model X.prog X.w) X.A (exec st X.env) (SP X π D) X.xe s
def oH (X:Cx) (st:List Stmt) (t:TS):Prop :=
 ∀(π:List (Addr×Obj)) (s:Shared) (σ:St) (H:Hp) (D:Ends),Inv X π σ H s→t D σ H→wpAny (model X.prog X.w) X.A (execs st X.env) (SP X π D) X.xe s
theorem bL {α:Type}{t:Sem α}{Q Q':α→Shared→Prop}{M:Model}{A:Around}{E:Value→Shared→Prop}{s:Shared}(h:wpAny M A t Q E s) (hQ:∀a s,Q a s→Q' a s):wpAny M A t Q' E s:=wpAny_mono h hQ fun _ _ x=>x
section
variable {X:Cx}
theorem bin {a b:Expr}{ta tb:TE}(ha:PE X a ta) (hb:PE X b tb) {π:List (Addr×Obj)}{s:Shared}{σ:St}{H:Hp}{R:V→V→Hp→Prop}(I:Inv X π σ H s) (h:ta σ H fun x H1=>tb σ H1 fun y H2=>R x y H2)
  {α:Type}{Q:α→Shared→Prop}{f:Value→Value→Sem α}
  (hf:∀v u s2 x y H2,Inv X π σ H2 s2→RelV x v→RelV y u→R x y H2→wpAny (model X.prog X.w) X.A (f v u) Q X.xe s2) :
  wpAny (model X.prog X.w) X.A (eval a X.env) (fun v s₁=>wpAny (model X.prog X.w) X.A (eval b X.env) (fun u s₂=>wpAny (model X.prog X.w) X.A (f v u) Q X.xe s₂) X.xe s₁) X.xe s:=by
 refine bL (ha π s σ H _ I h) fun v s1 ⟨x,H1,I1,r1,q1⟩=>?_
 refine bL (hb π s1 σ H1 _ I1 q1) fun u s2 ⟨y,H2,I2,r2,q2⟩=>?_
 exact hf v u s2 x y H2 I2 r1 r2 q2
def Dd (i:Nat):TE:=fun σ H Q=>∃v,σ[i]?=some (some v)∧Q v H
def tC (v:V):TE:=fun _ H Q=>Q v H
theorem KA {i:Nat}{x:Str}{pos:Pos}(hN:X.N[i]?=some x) (hv:SH X.env.scope x) (hd:(x == ("__debug__":Str))=false:=by decide) (vQ:(x == ("__classdict__":Str))=false:=by decide):PE X (.Name x pos) (Dd i):=by
 intro π s σ H Q I h
 obtain⟨v,e,h⟩:=h
 obtain⟨m,hn,hl⟩:=I.loc
 obtain⟨u,r,l⟩:=hl i x v hN e hv
 have fin:EP X π σ Q u s:=⟨v,H,I,r,h⟩
 rcases l with⟨hk,hm⟩|⟨hk,c,hc,rT⟩
 ·exact wpAny_Name (wpAny_loadName_local I.ok.kind hk hn hm fin) hd
 ·rcases hk with hk|hk
  ·exact wpAny_Name (wpAny_loadName_cell I.ok.kind hk hc rT fin) hd
  ·exact wpAny_Name (wpAny_loadName_free I.ok.kind hk hc rT fin vQ) hd
theorem af {i j pos}:PE X (.Constant (.int i) j pos) (tC (.int i)):=fun _ _ _ H _ I h=>wpAny_Constant_int ⟨.int i,H,I.tok _,⟨_,rfl⟩,h⟩
theorem zW {b j pos}:PE X (.Constant (.bool b) j pos) (tC (.bl b)):=fun _ _ _ H _ I h=>Constant_bool ⟨.bl b,H,I,rfl,h⟩
theorem nt {j pos}:PE X (.Constant .none j pos) (tC .cH):=fun _ _ _ H _ I h=>Constant_none ⟨.cH,H,I,rfl,h⟩
theorem dj {x j pos}:PE X (.Constant (.str x) j pos) (tC (.str x)):=fun _ _ _ H _ I h=>Calls.Constant_str ⟨.str x,H,I.tok _,⟨_,rfl⟩,h⟩
def Gl (X:Cx) (x:Str):Prop:=X.env.kindOf x=some .globalImplicit
theorem gR {E:Value→Shared→Prop}{π:List (Addr×Obj)}{s:Shared}{σ:St}{H:Hp}{x:Str}{u:Value}{pos:Pos}{Q:Value→Shared→Prop}(I:Inv X π σ H s) (hg:Gl X x) (hm:X.mg x=some u) (h:Q u s)
  (hd:(x == ("__debug__":Str))=false:=by decide):wpAny (model X.prog X.w) X.A (eval (.Name x pos) X.env) Q E s :=
 Calls.Name_function_global I.ok.kind hg (Calls.loadGlobal_global (by rw[I.ok.glob];exact I.mod.glob.keeps I.bk) hm h) hd
theorem jE {E:Value→Shared→Prop}{π:List (Addr×Obj)}{s:Shared}{σ:St}{H:Hp}{x:Str}{u:Value}{pos:Pos}{Q:Value→Shared→Prop}(I:Inv X π σ H s) (hg:Gl X x) (hm:X.mg x=none) (hv:bootBuiltins x=some u) (h:Q u s)
  (hn:x≠"__name__":=by decide) (hd:(x == ("__debug__":Str))=false:=by decide):wpAny (model X.prog X.w) X.A (eval (.Name x pos) X.env) Q E s:=by
 obtain⟨mb,h1,h2⟩:=I.mod.blt
 exact Calls.Name_function_global I.ok.kind hg (Calls.loadGlobal_builtin (by rw[I.ok.glob];exact I.mod.glob.keeps I.bk) hm (by rw[I.ok.blt];exact h1.keeps I.bk) ((h2 x hn).trans hv) h) hd
theorem zX {x:Str}{v:V}{u:Value}{pos:Pos}(hg:Gl X x) (hm:X.mg x=some u) (r:RelV v u) (hd:(x == ("__debug__":Str))=false:=by decide):PE X (.Name x pos) (tC v) :=
 fun _ _ _ H _ I h=>gR I hg hm ⟨v,H,I,r,h⟩ hd
def Rp (ta tb:TE) (k:Int→Int→Hp→Prop):St→Hp→Prop:=fun σ H=>ta σ H fun x H1=>tb σ H1 fun y H2=>∃i j,x = .int i∧y = .int j∧k i j H2
def tAdd (ta tb:TE):TE:=fun σ H Q=>Rp ta tb (fun i j H2=>Q (.int (i+j)) H2) σ H
def tSub (ta tb:TE):TE:=fun σ H Q=>Rp ta tb (fun i j H2=>Q (.int (i-j)) H2) σ H
def tMul (ta tb:TE):TE:=fun σ H Q=>Rp ta tb (fun i j H2=>(-(2^64)<i∧i<2^64)∧Q (.int (i*j)) H2) σ H
variable {a b:Expr}{ta tb:TE}{pos:Pos}
def PC (X:Cx) (op:CmpOp) (a b:Expr) (t:TE):Prop :=
 ∀(π:List (Addr×Obj)) (s:Shared) (σ:St) (H:Hp) (Q:VK),Inv X π σ H s→t σ H Q →
  wpAny (model X.prog X.w) X.A (eval a X.env) (fun v s₁=>wpAny (model X.prog X.w) X.A (eval b X.env) (fun u s₂=>wpAny (model X.prog X.w) X.A (compareOp op v u) (EP X π σ Q) X.xe s₂) X.xe s₁) X.xe s
def Bq (p:Int→Int→Bool) (ta tb:TE):TE:=fun σ H Q=>Rp ta tb (fun i j H2=>Q (.bl (p i j)) H2) σ H
abbrev tLt:TE→TE→TE:=Bq fun i j=>decide (i<j)
abbrev tLe:TE→TE→TE:=Bq fun i j=>decide (i≤j)
abbrev tGt:TE→TE→TE:=Bq fun i j=>decide (j<i)
abbrev tGe:TE→TE→TE:=Bq fun i j=>decide (j≤i)
abbrev tEqI:TE→TE→TE:=Bq fun i j=>decide (i=j)
abbrev tNeI:TE→TE→TE:=Bq fun i j=>!decide (i=j)
def tIsN (ta:TE):TE:=fun σ H Q=>ta σ H fun x H1=>Q (.bl (decide (x = .cH))) H1
def tNotN (ta:TE):TE:=fun σ H Q=>ta σ H fun x H1=>Q (.bl (!decide (x = .cH))) H1
def tB (t:TE):TT:=fun σ H Q=>t σ H fun x H1=>∃c,x = .bl c∧Q c H1
theorem SR {op:CmpOp}{t:TE}(h:PC X op a b t) (h1:behindInMarks op b=false:=by first|exact NQ _ (by decide) (by decide)|rfl):PT X (.Compare a [op] [b] pos) (tB t):=by
 intro π s σ H Q I hw
 refine wpAny_isTrue_Compare1 (bL (h π s σ H _ I hw) fun v s1 h1=>bL h1 fun u s2 h2=>bL h2 fun c s3 ⟨x,H1,I1,r1,q1⟩=>?_) h1
 obtain⟨d,rfl,q⟩:=q1
 cases r1
 exact wpAny_truthy_bool ⟨H1,I1,q⟩
theorem fY {e:Expr}{t:TE}(h:PE X e t) (he:∀whole,isTrue e X.env whole=(do let v ←whole;standAt e.pos;holding [v] (truthy v)):=by intro _;rfl):PT X e (tB t):=by
 intro π s σ H Q I hw
 refine isTrue_plain (bL (h π s σ H _ I hw) fun v s1 ⟨x,H1,I1,r1,q1⟩=>?_) (he _)
 obtain⟨d,rfl,q⟩:=q1
 cases r1
 exact wpAny_truthy_bool ⟨H1,I1,q⟩
variable {tA Rq:TT}{rest:List Expr}
def SS (t u:TT):TT:=fun σ H Q=>t σ H fun c H1=>if c=true then u σ H1 Q else Q false H1
def tOr (t u:TT):TT:=fun σ H Q=>t σ H fun c H1=>if c=true then Q true H1 else u σ H1 Q
def SU (t:TT):TT:=fun σ H Q=>t σ H fun c H1=>Q (!c) H1
theorem pw_and1 (ha:PT X a tA):PW X (.BoolOp .And [a] pos) tA:=by
 intro wh π s σ H Q I h
 refine isTrue_and (bL (ha π s σ H Q I h) fun c s1 e=>?_)
 cases c with
 | true=>exact isTrue_and_nil e
 | false=>exact e
theorem pw_or1 (ha:PT X a tA):PW X (.BoolOp .Or [a] pos) tA:=by
 intro wh π s σ H Q I h
 refine isTrue_or (bL (ha π s σ H Q I h) fun c s1 e=>?_)
 cases c with
 | false=>exact isTrue_or_nil e
 | true=>exact e
theorem pw_and (ha:PT X a tA) (hb:PW X (.BoolOp .And (b::rest) pos) Rq):PW X (.BoolOp .And (a::b::rest) pos) (SS tA Rq):=by
 intro wh π s σ H Q I h
 refine isTrue_and (bL (ha π s σ H _ I h) fun c s1 ⟨H1,I1,q1⟩=>?_)
 cases c with
 | true=>exact hb wh π s1 σ H1 Q I1 q1
 | false=>exact⟨H1,I1,q1⟩
theorem pw_or (ha:PT X a tA) (hb:PW X (.BoolOp .Or (b::rest) pos) Rq):PW X (.BoolOp .Or (a::b::rest) pos) (tOr tA Rq):=by
 intro wh π s σ H Q I h
 refine isTrue_or (bL (ha π s σ H _ I h) fun c s1 ⟨H1,I1,q1⟩=>?_)
 cases c with
 | true=>exact⟨H1,I1,q1⟩
 | false=>exact hb wh π s1 σ H1 Q I1 q1
theorem iN (ha:PT X a tA):PT X (.UnaryOp .Not a pos) (SU tA):=by
 intro π s σ H Q I h
 exact isTrue_not (ha π s σ H (fun c H1=>Q (!c) H1) I h)
def NR (ta tb:TE):TE:=fun σ H Q=>ta σ H fun x H1=>∃c,x = .bl c∧if c=true then tb σ H1 Q else Q (.bl false) H1
def SV (ta tb:TE):TE:=fun σ H Q=>ta σ H fun x H1=>∃c,x = .bl c∧if c=true then Q (.bl true) H1 else tb σ H1 Q
def tNotV (ta:TE):TE:=fun σ H Q=>ta σ H fun x H1=>∃c,x = .bl c∧Q (.bl (!c)) H1
theorem yb {op}{t:TE}(h:PE X a t):PE X (.BoolOp op [a] pos) t:=fun π s σ H Q I hw=>BoolOp_one (h π s σ H Q I hw)
theorem De (ha:PE X a ta) (hb:PE X (.BoolOp .And (b::rest) pos) tb):PE X (.BoolOp .And (a::b::rest) pos) (NR ta tb):=by
 intro π s σ H Q I h
 refine BoolOp_and (bL (ha π s σ H _ I h) fun v s1 ⟨x,H1,I1,r1,q1⟩=>?_)
 obtain⟨c,rfl,q1⟩:=q1
 cases r1
 refine wpAny_truthy_bool ?_
 cases c with
 | true=>exact hb π s1 σ H1 Q I1 q1
 | false=>exact⟨.bl false,H1,I1,rfl,q1⟩
theorem NS (ha:PE X a ta) (hb:PE X (.BoolOp .Or (b::rest) pos) tb):PE X (.BoolOp .Or (a::b::rest) pos) (SV ta tb):=by
 intro π s σ H Q I h
 refine BoolOp_or (bL (ha π s σ H _ I h) fun v s1 ⟨x,H1,I1,r1,q1⟩=>?_)
 obtain⟨c,rfl,q1⟩:=q1
 cases r1
 refine wpAny_truthy_bool ?_
 cases c with
 | false=>exact hb π s1 σ H1 Q I1 q1
 | true=>exact⟨.bl true,H1,I1,rfl,q1⟩
def tIf (t:TT) (ta tb:TE):TE:=fun σ H Q=>t σ H fun c H1=>if c=true then ta σ H1 Q else tb σ H1 Q
theorem jF {c:Expr}(hc:PT X c tA) (ha:PE X a ta) (hb:PE X b tb):PE X (.IfExp c a b pos) (tIf tA ta tb):=by
 intro π s σ H Q I h
 refine wpAny_IfExp (bL (hc π s σ H _ I h) fun d s1 ⟨H1,I1,q1⟩=>?_)
 cases d with
 | true=>exact ha π s1 σ H1 Q I1 q1
 | false=>exact hb π s1 σ H1 Q I1 q1
end
def bP (K:Frag) (H:Hp) (a:Addr) (xs:List V):Prop :=
 Rd H a (.lst xs) ∨
  ∃(o:Obj) (its:Array Value) (n:Nat),K.lookup a=some o∧o.cls = .type "list"∧o.dict=none∧o.data = .seq its n∧its.size≤sizeLine∧Vals xs its.toList
def eV (K:Frag) (H:Hp) (a:Addr) (xs:List V):Prop :=
 Rd H a (.tup xs) ∨
  ∃(o:Obj) (its:Array Value) (n:Nat),K.lookup a=some o∧o.cls = .type "tuple"∧o.data = .seq its n∧its.size≤sizeLine∧Vals xs its.toList
noncomputable def SW:Value→Option V
 | .none=>some .cH
 | .bool b=>some (.bl b)
 | .int i _=>some (.int i)
 | .str x _=>some (.str x)
 | .bytes b _=>some (.xZ b)
 | .float b _=>some (.Ky b)
 | .ref a=>some (.ref a)
 | .type n=>some (.ty n)
 | _=>none
theorem RelV.abs {x:V}{u:Value}(r:RelV x u):SW u=some x:=by
 cases x with
 | cH=>cases r;rfl
 | bl _=>cases r;rfl
 | int _=>obtain⟨t,rfl⟩:=r;rfl
 | str _=>obtain⟨t,rfl⟩:=r;rfl
 | xZ _=>obtain⟨t,rfl⟩:=r;rfl
 | Ky _=>obtain⟨t,rfl⟩:=r;rfl
 | ref _=>cases r;rfl
 | ty _=>cases r;rfl
theorem RelV.inj {x y:V}{u:Value}(r:RelV x u) (q:RelV y u):x=y:=Option.some.inj (r.abs.symm.trans q.abs)
theorem Vals.inj:∀{xs ys:List V}{us:List Value},Vals xs us→Vals ys us→xs=ys
 | _,_,_,.nil,.nil=>rfl
 | _,_,_,.cons r t,.cons r' t'=>by rw[r.inj r',Vals.inj t t']
section
variable {X:Cx}{π:List (Addr×Obj)}{σ:St}{H:Hp}{s:Shared}{a:Addr}{xs ys:List V}
theorem bP.of {K:Frag}(h:H a=some (.lst xs)):bP K H a xs:=.inl (.inl h)
theorem Inv.list (I:Inv X π σ H s) (h:bP X.K H a xs):∃its:List Value,Vals xs its∧PlainL s.heap a its.toArray∧xs.length≤sizeLine:=by
 rcases h with h|⟨o,its,n,hk,hc,hd,hs,hz,r⟩
 ·obtain⟨z,its,n,r,e⟩:=h.ok I.aV
  exact⟨its,r,⟨_,n,e,rfl,rfl,rfl⟩,z⟩
 ·refine⟨its.toList,r,⟨o,n,I.oG a o hk,hc,hd,by simpa using hs⟩,?_⟩
  have e:=r.length
  simp only[Array.length_toList] at e
  omega
theorem Inv.tuple (I:Inv X π σ H s) (h:eV X.K H a xs):∃its:List Value,Vals xs its∧IsTup s.heap a its.toArray∧xs.length≤sizeLine:=by
 rcases h with h|⟨o,its,n,hk,hc,hs,hz,r⟩
 ·obtain⟨z,its,r,p⟩:=h.ok I.aV
  exact⟨its,r,p,z⟩
 ·refine⟨its.toList,r,⟨o,I.oG a o hk,hc,n,by simpa using hs⟩,?_⟩
  have e:=r.length
  simp only[Array.length_toList] at e
  omega
theorem Inv.mn (I:Inv X π σ H s) (h:bP X.K H a xs) (h':bP X.K H a ys):xs=ys:=by
 obtain⟨its,r,⟨o,n,e,_,_,d⟩,_⟩:=I.list h
 obtain⟨its',r',⟨o',n',e',_,_,d'⟩,_⟩:=I.list h'
 rw[e] at e';cases e'
 rw[d] at d'
 injection d' with d1 _
 have:its=its':=by simpa using congrArg Array.toList d1
 subst this
 exact r.inj r'
theorem Inv.Br (I:Inv X π σ H s) (h:eV X.K H a xs) (h':eV X.K H a ys):xs=ys:=by
 obtain⟨its,r,⟨o,e,_,n,d⟩,_⟩:=I.tuple h
 obtain⟨its',r',⟨o',e',_,n',d'⟩,_⟩:=I.tuple h'
 rw[e] at e';cases e'
 rw[d] at d'
 injection d' with d1 _
 have:its=its':=by simpa using congrArg Array.toList d1
 subst this
 exact r.inj r'
noncomputable abbrev Cx.qU (X:Cx) (E:Value→Shared→Prop):Cx:={ X with xe:=E }
abbrev Cx.vR (X:Cx):Cx:=X.qU fun _ _=>False
theorem Cx.Ok.qU {X:Cx}(ok:X.Ok) (E:Value→Shared→Prop):(X.qU E).Ok :=
 ⟨ok.mod,ok.kind,ok.glob,ok.blt,ok.above,ok.inj,ok.has,ok.GJ,ok.hd,ok.frames,ok.JE,ok.Nc,ok.bs,ok.vN,ok.qT,ok.vO,ok.jC,ok.CJ⟩
theorem Cx.Ok.jG {X:Cx}{E:Value→Shared→Prop}(ok:(X.qU E).Ok):X.Ok :=
 ⟨ok.mod,ok.kind,ok.glob,ok.blt,ok.above,ok.inj,ok.has,ok.GJ,ok.hd,ok.frames,ok.JE,ok.Nc,ok.bs,ok.vN,ok.qT,ok.vO,ok.jC,ok.CJ⟩
variable {E:Value→Shared→Prop}
theorem Inv.qU (I:Inv X π σ H s) (E:Value→Shared→Prop):Inv (X.qU E) π σ H s:=⟨I.ok.qU E,I.os,I.bare,I.base,I.loc,I.cell,I.free,I.dP,I.pin,I.aV,I.len⟩
theorem Inv.jG (I:Inv (X.qU E) π σ H s):Inv X π σ H s:=⟨I.ok.jG,I.os,I.bare,I.base,I.loc,I.cell,I.free,I.dP,I.pin,I.aV,I.len⟩
theorem SP.jG {D:Ends}{f:Flow}{s':Shared}(h:SP (X.qU E) π D f s'):SP X π D f s':=by
 cases f with
 | next=>obtain⟨σ',H',I,q⟩:=h;exact⟨σ',H',I.jG,q⟩
 | brk=>obtain⟨σ',H',I,q⟩:=h;exact⟨σ',H',I.jG,q⟩
 | cont=>obtain⟨σ',H',I,q⟩:=h;exact⟨σ',H',I.jG,q⟩
 | ret u=>obtain⟨v,σ',H',I,r,q⟩:=h;exact⟨v,σ',H',I.jG,r,q⟩
theorem oH.vR {st:List Stmt}{t:TS}(h:oH X.vR st t):oH X st t:=fun π s σ H D I hw =>
 wpAny_mono (h π s σ H D (I.qU _) hw) (fun _ _ q=>q.jG) fun _ _ z=>False.elim z
variable {st:Stmt}{rest:List Stmt}{t:TS}{u:TS}{e:Expr}{te:TE}{pos:Pos}
def Df:TS:=fun D σ H=>D.nx σ H
def NT (t u:TS):TS:=fun D σ H=>t { D with nx:=u D } σ H
theorem aJ:oH X [] Df:=fun _ _ σ H _ I h=>wpAny_execs_nil ⟨σ,H,I,h⟩
theorem ai (h1:PS X st t) (h2:oH X rest u):oH X (st::rest) (NT t u):=by
 intro π s σ H D I h
 refine wpAny_execs_cons (bL (h1 π s σ H { D with nx:=u D } I h) fun f s1 q=>?_)
 cases f with
 | next =>
  obtain⟨σ',H',I',q⟩:=q
  exact h2 π s1 σ' H' D I' q
 | ret v=>exact q
 | brk=>exact q
 | cont=>exact q
theorem ao (h1:PS X st t):oH X [st] t:=by
 intro π s σ H D I h
 refine wpAny_execs_cons (bL (h1 π s σ H D I h) fun f s1 q=>?_)
 cases f with
 | next=>exact wpAny_execs_nil q
 | ret v=>exact q
 | brk=>exact q
 | cont=>exact q
def SX:TS:=fun D σ H=>D.bk σ H
def tCont:TS:=fun D σ H=>D.ct σ H
theorem Inv.quiet {π:List (Addr×Obj)}{σ:St}{H:Hp}{s:Shared}(I:Inv X π σ H s):interactive X.env=false:=by simp[interactive,I.ok.kind]
def NU (te:TE):TS:=fun D σ H=>te σ H fun _ H1=>D.nx σ H1
theorem fH (he:PE X e te) (hs:swapsWith e none pos.line X.env=pure false:=by rfl):PS X (.Expr e pos) (NU te):=by
 intro π s σ H D I h
 exact wpAny_Expr_any (bL (he π s σ H _ I h) fun v s1 ⟨x,H1,I1,r1,q1⟩=>⟨σ,H1,I1,q1⟩) I.quiet hs
def KC (te:TE):TS:=fun D σ H=>te σ H D.rt
theorem aD (he:PE X e te):PS X (.Return (some e) pos) (KC te):=by
 intro π s σ H D I h
 exact wpAny_Return_some (bL (he π s σ H _ I h) fun v s1 ⟨x,H1,I1,r1,q1⟩=>⟨x,σ,H1,I1,r1,q1⟩)
def tRetN:TS:=fun D _ H=>D.rt .cH H
def SY (c:TT) (t u:TS):TS:=fun D σ H=>c σ H fun b H1=>if b=true then t D σ H1 else u D σ H1
theorem bJ {c:Expr}{a b:List Stmt}{tc:TT}(hc:PT X c tc) (ha:oH X a t) (hb:oH X b u):PS X (.If c a b pos) (SY tc t u):=by
 intro π s σ H D I h
 refine wpAny_If (bL (hc π s σ H _ I h) fun d s1 ⟨H1,I1,q1⟩=>?_)
 cases d with
 | true=>exact ha π s1 σ H1 D I1 q1
 | false=>exact hb π s1 σ H1 D I1 q1
def KD:TS:=fun _ _ _=>False
theorem eG:PS X st KD:=fun _ _ _ _ _ _ h=>h.elim
abbrev TG:=V→St→Hp→(St→Hp→Prop)→Prop
abbrev JF:=List V→St→Hp→(St→Hp→Prop)→Prop
def PG (X:Cx) (target:Expr) (t:TG):Prop :=
 ∀(π:List (Addr×Obj)) (s:Shared) (σ:St) (H:Hp) (v:V) (u:Value) (Q:St→Hp→Prop),Inv X π σ H s→RelV v u→t v σ H Q →
  wpAny (model X.prog X.w) X.A (assign target X.env u) (fun _ s'=>∃σ' H',Inv X π σ' H' s'∧Q σ' H') X.xe s
def NV (X:Cx) (ts:List Expr) (t:JF):Prop :=
 ∀(π:List (Addr×Obj)) (s:Shared) (σ:St) (H:Hp) (vs:List V) (us:List Value) (Q:St→Hp→Prop),Inv X π σ H s→Vals vs us→t vs σ H Q →
  wpAny (model X.prog X.w) X.A (assignInOrder ((assignEach ts X.env).map (·.2)) us) (fun _ s'=>∃σ' H',Inv X π σ' H' s'∧Q σ' H') X.xe s
abbrev Bs:=V→V→V→Hp→(Hp→Prop)→Prop
def KG (X:Cx) (t:Bs):Prop :=
 ∀(π:List (Addr×Obj)) (s:Shared) (σ:St) (H:Hp) (o i v:V) (ov iv u:Value) (Q:Hp→Prop),Inv X π σ H s→RelV o ov→RelV i iv→RelV v u→t o i v H Q →
  wpAny (model X.prog X.w) X.A (setItem ov iv u) (fun _ s'=>∃H',Inv X π σ H' s'∧Q H') X.xe s
abbrev Rr:=V→V→Hp→VK→Prop
def PIp (X:Cx) (op:Operator) (t:Rr):Prop :=
 ∀(π:List (Addr×Obj)) (s:Shared) (σ:St) (H:Hp) (x y:V) (v u:Value) (Q:VK),Inv X π σ H s→RelV x v→RelV y u→t x y H Q →
  wpAny (model X.prog X.w) X.A (inplaceOp op v u) (EP X π σ Q) X.xe s
def aP (i:Nat):TG:=fun v σ H Q=>Q (σ.set i (some v)) H
theorem aK {i:Nat}{x:Str}(hN:X.N.Nodup) (hi:X.N[i]?=some x) (hx:Loc X.env.scope x) (hf:X.fn x=true∨X.env.scope.names.lookup x=some .local:=by first|exact .inl rfl|exact .inr rfl|assumption):PG X (.Name x pos) (aP i):=by
 intro π s σ H v u Q I r h
 exact wpAny_assign_Name (pd I hN hi hx r (fun s' I'=>⟨_,H,I',h⟩) hf)
def NW:JF:=fun vs σ H Q=>vs=[]∧Q σ H
def Dg (t:TG) (u:JF):JF:=fun vs σ H Q=>∃v r,vs=v::r∧t v σ H fun σ' H'=>u r σ' H' Q
theorem iO:NV X [] NW:=by
 intro π s σ H vs us Q I r h
 obtain⟨e,h⟩:=h
 subst e
 cases r
 exact assignInOrder_nil ⟨σ,H,I,h⟩
theorem b7 {e:Expr}{es:List Expr}{t:TG}{u:JF}(h1:PG X e t) (h2:NV X es u)
  (hs:(assignEach (e::es) X.env).map (·.2)=assign e X.env::(assignEach es X.env).map (·.2):=by rfl):NV X (e::es) (Dg t u):=by
 intro π s σ H vs us Q I r h
 obtain⟨v,vr,e1,h⟩:=h
 subst e1
 cases r with
 | cons r rr =>
  rw[hs]
  refine assignInOrder_cons (bL (h1 π s σ H _ _ _ I r h) fun _ s1 ⟨σ1,H1,I1,q1⟩=>?_)
  exact h2 π s1 σ1 H1 _ _ Q I1 rr q1
def KH (K:Frag) (n:Nat) (t:JF):TG:=fun v σ H Q=>∃a xs,v = .ref a∧eV K H a xs∧xs.length=n∧t xs σ H Q
theorem KI {es:List Expr}{k:Nat}{t:JF}{n:Nat}(hc:X.calm=true) (h:NV X es t)
  (hn:(assignEach es X.env).length=n:=by rfl) (Dh:(assignEach es X.env).findIdx? (·.1)=none:=by rfl):PG X (.Tuple es k pos) (KH X.K n t):=by
 intro π s σ H v u Q I r hw
 obtain⟨a,xs,e1,hq,hl,hw⟩:=hw
 subst e1
 cases r
 obtain⟨its,rv,ht,hz⟩:=I.tuple hq
 refine assign_Tuple_tuple (I.ok.hd hc) ht (by simp[hn,←hl,rv.length]) Dh fun h' hx=>?_
 have I1:Inv X π σ H { s with heap:=h' }:=I.kept (t':=s.toks) fun b o e=>hx b o (Nat.ne_of_lt (Heap.lt_size e)) e
 exact h π _ σ H xs _ Q I1 (by simpa using rv) hw
def S0 (to ti:TE) (t:Bs):TG:=fun v σ H Q=>to σ H fun o H1=>ti σ H1 fun i H2=>t o i v H2 fun H3=>Q σ H3
theorem yc {o i:Expr}{to ti:TE}{t:Bs}(ho:PE X o to) (hi:PE X i ti) (hs:KG X t)
  (ha:∀v,assign (.Subscript o i pos) X.env v=(do
   let ov ←holding [v] (eval o X.env)
   let iv ←holding [v,ov] (eval i X.env)
   standAt pos
   holding [v,ov,iv] (setItem ov iv v)
   release [v,ov,iv] []):=by intro _;rfl):PG X (.Subscript o i pos) (S0 to ti t):=by
 intro π s σ H v u Q I r h
 rw[ha]
 refine wpAny_bind (wpAny_holding (bL (ho π s σ H _ I h) fun ov s1 ⟨x,H1,I1,r1,q1⟩=>?_))
 refine wpAny_bind (wpAny_holding (bL (hi π s1 σ H1 _ I1 q1) fun iv s2 ⟨y,H2,I2,r2,q2⟩=>?_))
 refine wpAny_bind (wpAny_standAt (wpAny_bind (wpAny_holding (bL (hs π s2 σ H2 x y v ov iv u _ I2 r1 r2 r q2) fun _ s3 ⟨H3,I3,q3⟩=>?_))))
 exact wpAny_release ⟨σ,H3,I3,q3⟩
def Bt (te:TE) (g:TG):TS:=fun D σ H=>te σ H fun x H1=>g x σ H1 D.nx
theorem pe {tg e:Expr}{te:TE}{g:TG}(he:PE X e te) (hg:PG X tg g) (hs:swapsWithSole [tg] e pos.line X.env=pure false:=by rfl) (hw:swappedStores [tg] e X.env=pure none:=by rfl)
  (h1:(assignEach [tg] X.env).map (·.2)=[assign tg X.env]:=by rfl):PS X (.Assign [tg] e pos) (Bt te g):=by
 intro π s σ H D I h
 refine wpAny_Assign_stores (bL (he π s σ H _ I h) fun v s1 ⟨x,H1,I1,r1,q1⟩=>?_) hs hw
 rw[h1]
 exact bL (hg π s1 σ H1 x v _ I1 r1 q1) fun _ s2 q=>q
theorem az {i:Nat}{x:Str}{e:Expr}{te:TE}{pos':Pos}(hN:X.N.Nodup) (hi:X.N[i]?=some x) (hx:Loc X.env.scope x) (he:PE X e te) (hs:swapsWith e (some (.Name x pos')) pos.line X.env=pure false:=by rfl) (hf:X.fn x=true∨X.env.scope.names.lookup x=some .local:=by first|exact .inl rfl|exact .inr rfl|assumption) :
  PS X (.Assign [.Name x pos'] e pos) (Bt te (aP i)):=by
 intro π s σ H D I h
 refine wpAny_Assign_Name (bL (he π s σ H _ I h) fun v s1 ⟨y,H1,I1,r1,q1⟩=>?_) hs
 exact pd I1 hN hi hx r1 (fun s2 I2=>⟨_,H1,I2,q1⟩) hf
def tPar (i j:Nat) (ta:TA):TS:=fun D σ H=>ta σ H fun vs H1=>∃v w,vs=[v,w]∧D.nx ((σ.set i (some v)).set j (some w)) H1
def tAug (i:Nat) (te:TE) (ti:Rr):TS:=fun D σ H=>∃x,σ[i]?=some (some x)∧te σ H fun y H1=>ti x y H1 fun z H2=>D.nx (σ.set i (some z)) H2
def tAugS (to ti te:TE) (S5:V→V→Hp→VK→Prop) (tip:Rr) (S6:Bs):TS:=fun D σ H=>to σ H fun o H1=>ti σ H1 fun i H2=>S5 o i H2 fun x H3=>te σ H3 fun y H4=>tip x y H4 fun z H5=>S6 o i z H5 fun H6=>D.nx σ H6
def PGet (X:Cx) (t:V→V→Hp→VK→Prop):Prop :=
 ∀(π:List (Addr×Obj)) (s:Shared) (σ:St) (H:Hp) (o i:V) (ov iv:Value) (Q:VK),Inv X π σ H s→RelV o ov→RelV i iv→t o i H Q →
  wpAny (model X.prog X.w) X.A (getItem ov iv) (EP X π σ Q) X.xe s
def ipI (f:Int→Int→Int):Rr:=fun x y H Q=>∃i j,x = .int i∧y = .int j∧Q (.int (f i j)) H
def KJ (c:TT) (tb:TS):TS:=fun D σ H=>∃W:Nat→St→Hp→Prop,(∃m,W m σ H)∧∀m σ H,W m σ H →
 c σ H fun b H1=>if b=true then ∃N:St→Hp→Prop,(∀σ' H',N σ' H'→∃m',m'<m∧W m' σ' H')∧tb { D with nx:=N,ct:=N,bk:=D.nx } σ H1 else D.nx σ H1
theorem pf {c:Expr}{body:List Stmt}{tc:TT}{tb:TS}(hp:PassesOwn (model X.prog X.w) X.A X.env X.xe) (hc:PT X c tc) (hb:oH X body tb):PS X (.While c body [] pos) (KJ tc tb):=by
 intro π s σ H D I h
 obtain⟨W,⟨m0,w0⟩,turn⟩:=h
 refine wpAny_While (codeAny_whileLoop (fun n s'=>∃σ' H',Inv X π σ' H' s'∧W n σ' H') ?_ m0 ⟨σ,H,I,w0⟩)
 rintro n s1 ⟨σ1,H1,I1,w1⟩
 refine wpAny_passesOwn hp (bL (hc π s1 σ1 H1 _ I1 (turn n σ1 H1 w1)) fun b s2 ⟨H2,I2,q2⟩=>?_)
 cases b with
 | true =>
  obtain⟨N,hN,q2⟩:=q2
  rw[if_pos rfl]
  refine wpAny_passesOwn hp (bL (hb π s2 σ1 H2 _ I2 q2) fun f s3 q3=>?_)
  cases f with
  | next =>
   obtain⟨σ3,H3,I3,n3⟩:=q3
   obtain⟨m',hm,w3⟩:=hN σ3 H3 n3
   exact⟨m',hm,σ3,H3,I3,w3⟩
  | cont =>
   obtain⟨σ3,H3,I3,n3⟩:=q3
   obtain⟨m',hm,w3⟩:=hN σ3 H3 n3
   exact⟨m',hm,σ3,H3,I3,w3⟩
  | brk=>exact q3
  | ret v=>exact q3
 | false =>
  rw[if_neg Bool.false_ne_true]
  exact wpAny_execs_nil ⟨σ1,H2,I2,q2⟩
structure It where
 go:Nat→Hp→Prop
 JH:Nat→Hp→V→Hp→Prop
 stop:Nat→Hp→Prop
def gA (X:Cx) (π:List (Addr×Obj)) (H:Hp) (b:Addr):Prop :=
 H b=none∧b≠X.env.locals∧b∉X.fs∧(b∈X.ex∨X.s₀.heap.objs.size≤b)∧(∀x c,X.env.cells.lookup x=some c→c≠b)∧∀p∈X.pn++π,p.1≠b
theorem Inv.vS {X:Cx}{π:List (Addr×Obj)}{σ:St}{H H':Hp}{s:Shared}{b:Addr}(I:Inv X π σ H s) (hb:s.heap.objs.size≤b) (hn:H' b=none):gA X π H' b:=by
 refine⟨hn,Nat.ne_of_gt (Nat.lt_of_lt_of_le I.lt hb),I.SK hb,.inr (Nat.le_trans I.sz hb),fun x c e z=>?_,fun p hp z=>?_⟩
 ·obtain⟨v,q⟩:=I.cell x c e
  exact absurd (Nat.lt_of_lt_of_le q.lt (by rw[z];exact hb)) (Nat.lt_irrefl _)
 ·exact absurd (Nat.lt_of_lt_of_le (Heap.lt_size (I.pin p hp).1) (by rw[z];exact hb)) (Nat.lt_irrefl _)
structure Turn (P:Program) (w:World) (K:Frag) (tg:Expr) (J:It) (fp:List Addr) (it:Addr) (tn:Nat→Heap→Prop):Prop where
 mem:it∈fp
 obj:∀i h,tn i h→∀b∈fp,∃o,h.get? b=some o∧∀v,o.data≠.cell v
 keep:∀i h h',tn i h→(∀b∈fp,∀o,h.get? b=some o→h'.get? b=some o)→tn i h'
 item:∀(X:Cx),X.prog=P→X.w=w→X.K=K→X.calm=true→∀(i:Nat) (π:List (Addr×Obj)) (s:Shared) (σ:St) (H:Hp) (E:Value→Shared→Prop),Inv X π σ H s→(∀b∈fp,gA X π H b)→tn i s.heap→J.go i H →
  wpAny (model P w) X.A (pyNext (.ref it)) (fun r s1=>∃u,r=some u ∧
   wpAny (model P w) X.A (letOwnedTupleGo tg (.ref it) u) (fun _ s2=>∃x H',Inv X π σ H' s2∧RelV x u∧J.JH i H x H'∧tn (i+1) s2.heap∧∀b∈fp,H' b=none) E s1) E s
 done:∀(X:Cx),X.prog=P→X.w=w→X.K=K→X.calm=true→∀(i:Nat) (π:List (Addr×Obj)) (s:Shared) (σ:St) (H:Hp) (E:Value→Shared→Prop),Inv X π σ H s→(∀b∈fp,gA X π H b)→tn i s.heap→J.stop i H →
  wpAny (model P w) X.A (pyNext (.ref it)) (fun r s1=>r=none∧Inv X π σ H s1) E s
 self:∀(A:Around) (i:Nat) (s:Shared) (Q:Value→Shared→Prop) (E:Value→Shared→Prop),tn i s.heap→Q (.ref it) s→wpAny (model P w) A (pyIter (.ref it)) Q E s
abbrev TI:=St→Hp→(It→Hp→Prop)→Prop
def PIE (X:Cx) (π:List (Addr×Obj)) (σ:St) (tg:Expr) (R:It→Hp→Prop) (Nf:Value) (s2:Shared):Prop :=
 ∃(it:Addr) (fp:List Addr) (tn:Nat→Heap→Prop) (J:It) (H':Hp),Nf = .ref it∧Inv X π σ H' s2∧Turn X.prog X.w X.K tg J fp it tn∧tn 0 s2.heap∧(∀b∈fp,gA X π H' b)∧R J H'
def PI (X:Cx) (tg iter:Expr) (wi:TI):Prop :=
 ∀(π:List (Addr×Obj)) (s:Shared) (σ:St) (H:Hp) (R:It→Hp→Prop),Inv X π σ H s→wi σ H R →
  wpAny (model X.prog X.w) X.A (eval iter X.env) (fun v s1=>wpAny (model X.prog X.w) X.A (pyIter v) (PIE X π σ tg R) X.xe s1) X.xe s
theorem Di {M:Model}{A:Around}{E:Value→Shared→Prop}{s:Shared}{tg:Expr}{it:Addr}{u:Value}{o:Obj}{n:String}{vs:Array Value}{Q:Unit→Shared→Prop}(ho:s.heap.get? it=some o) (hc:o.cls = .type n) (hd:o.data = .fields vs)
  (hn:["enumerate","zip","dict_itemiterator","dict_reverseitemiterator","odict_iterator","itertools.zip_longest","itertools.pairwise"].contains n=false) (hQ:Q () s):wpAny M A (letOwnedTupleGo tg (.ref it) u) Q E s:=by
 unfold letOwnedTupleGo
 cases tg<;>first
  | exact wpAny_pure hQ
  | (cases u<;>first
    | exact wpAny_pure hQ
    | (refine wpAny_bind (wpAny_load ho ?_)
       rw[hc,hd]
       show wpAny M A (if (["enumerate","zip","dict_itemiterator","dict_reverseitemiterator","odict_iterator","itertools.zip_longest","itertools.pairwise"].contains n&&vs[0]? == some (rawInt _))=true then _ else _) Q E s
       rw[if_neg (by intro h;rw[hn,Bool.false_and] at h;cases h)]
       exact wpAny_pure hQ))
def JI (K:Frag) (a:Addr):It :=
 ⟨fun i H=>∃xs x,bP K H a xs∧xs[i]?=some x,fun i H x H'=>H'=H∧∀xs,bP K H a xs→xs[i]?=some x,fun i H=>∃xs,bP K H a xs∧xs.length≤i⟩
def NX (K:Frag) (a:Addr):It :=
 ⟨fun i H=>∃xs x,eV K H a xs∧xs[i]?=some x,fun i H x H'=>H'=H∧∀xs,eV K H a xs→xs[i]?=some x,fun i H=>∃xs,eV K H a xs∧xs.length≤i⟩
def Gf (lo:Int) (n:Nat):It:=⟨fun i _=>i<n,fun i H x H'=>H'=H∧x = .int (lo+i),fun i _=>n≤i⟩
theorem Bu {P:Program}{w:World}{K:Frag}{tg:Expr}(a it:Addr):Turn P w K tg (JI K a) [it] it (fun i h=>h.IsListIter it a i) where
 mem:=by simp
 obj:=fun i h st b hb=>by
  have e:b=it:=by simpa using hb
  subst e
  obtain⟨o,e,c,d⟩:=st
  exact⟨o,e,fun v z=>by rw[d] at z;cases z⟩
 keep:=fun i h h' st k=>st.at fun o e=>k it (by simp) o e
 item:=by
  intro X hP hw hK hc i π s σ H E I hf st hg
  subst hP hw hK
  obtain⟨xs,x,hq,hx⟩:=hg
  obtain⟨its,rv,p,hz⟩:=I.list hq
  obtain⟨u,hu,ru⟩:=rv.get hx
  obtain⟨f0,f1,f2,f3,f4,f5⟩:=hf it (by simp)
  refine wpAny_pyNext_list_item st p.isList (x:=u) (by simpa using hu) fun h' Bv sb=>?_
  have I1:Inv X π σ H { s with heap:=h' }:=I.turned (t':=s.toks) (fun b o hb e=>(sb.2 b hb).trans e) f0 f1 f3 f4 f5
  obtain⟨o,e,c,d⟩:=id Bv
  exact⟨u,rfl,Di (s:={ s with heap:=h' }) e c d (by decide) ⟨x,H,I1,ru,⟨rfl,fun ys hy=>by rw[I.mn hy hq];exact hx⟩,Bv,fun b hb=>(hf b hb).1⟩⟩
 done:=by
  intro X hP hw hK hc i π s σ H E I hf st hg
  subst hP hw hK
  obtain⟨xs,hq,hx⟩:=hg
  obtain⟨its,rv,p,hz⟩:=I.list hq
  obtain⟨f0,f1,f2,f3,f4,f5⟩:=hf it (by simp)
  have hl:=rv.length
  exact wpAny_pyNext_list_end (I.ok.hd hc) st p.isList (by simp;omega) fun h' eb=>⟨rfl,I.turned (t':=s.toks) (fun b o hb e=>eb b o hb e) f0 f1 f3 f4 f5⟩
 self:=fun _ _ _ _ _ st h=>wpAny_pyIter_listiter st h
theorem ye {P:Program}{w:World}{K:Frag}{tg:Expr}(a it:Addr):Turn P w K tg (NX K a) [it] it (fun i h=>h.IsTupleIter it a i) where
 mem:=by simp
 obj:=fun i h st b hb=>by
  have e:b=it:=by simpa using hb
  subst e
  obtain⟨o,e,c,d⟩:=st
  exact⟨o,e,fun v z=>by rw[d] at z;cases z⟩
 keep:=fun i h h' st k=>st.at fun o e=>k it (by simp) o e
 item:=by
  intro X hP hw hK hc i π s σ H E I hf st hg
  subst hP hw hK
  obtain⟨xs,x,hq,hx⟩:=hg
  obtain⟨its,rv,p,hz⟩:=I.tuple hq
  obtain⟨u,hu,ru⟩:=rv.get hx
  obtain⟨f0,f1,f2,f3,f4,f5⟩:=hf it (by simp)
  refine wpAny_pyNext_tuple_item st (show s.heap.IsTuple a its.toArray from p) (x:=u) (by simpa using hu) fun h' Bv sb=>?_
  have I1:Inv X π σ H { s with heap:=h' }:=I.turned (t':=s.toks) (fun b o hb e=>(sb.2 b hb).trans e) f0 f1 f3 f4 f5
  obtain⟨o,e,c,d⟩:=id Bv
  exact⟨u,rfl,Di (s:={ s with heap:=h' }) e c d (by decide) ⟨x,H,I1,ru,⟨rfl,fun ys hy=>by rw[I.Br hy hq];exact hx⟩,Bv,fun b hb=>(hf b hb).1⟩⟩
 done:=by
  intro X hP hw hK hc i π s σ H E I hf st hg
  subst hP hw hK
  obtain⟨xs,hq,hx⟩:=hg
  obtain⟨its,rv,p,hz⟩:=I.tuple hq
  obtain⟨f0,f1,f2,f3,f4,f5⟩:=hf it (by simp)
  have hl:=rv.length
  exact wpAny_pyNext_tuple_end (I.ok.hd hc) st (show s.heap.IsTuple a its.toArray from p) (by simp;omega) fun h' eb=>⟨rfl,I.turned (t':=s.toks) (fun b o hb e=>eb b o hb e) f0 f1 f3 f4 f5⟩
 self:=fun _ _ _ _ _ st h=>wpAny_pyIter_tupleiter st h
theorem yf {P:Program}{w:World}{K:Frag}{tg:Expr}(it:Addr) (lo:Int) (n:Nat):Turn P w K tg (Gf lo n) [it] it (fun i h=>IsRangeIter h it (lo+(i:Nat)*1) ((n:Int)-(i:Nat)) 1) where
 mem:=by simp
 obj:=fun i h st b hb=>by
  have e:b=it:=by simpa using hb
  subst e
  exact⟨_,st,fun v z=>by
   have z':Data.fields _=Data.cell v:=z
   cases z'⟩
 keep:=fun i h h' st k=>k it (by simp) _ st
 item:=by
  intro X hP hw hK hc i π s σ H E I hf st hg
  subst hP hw hK
  obtain⟨f0,f1,f2,f3,f4,f5⟩:=hf it (by simp)
  have W:=Walks.range (prog:=X.prog) (w:=X.w) (I.ok.hd hc) it lo 1 n
  refine W.item i s _ _ hg st fun v h' tk hv Bv kk=>?_
  obtain⟨t,rfl⟩:=hv
  have I1:Inv X π σ H { s with heap:=h',toks:=tk }:=I.turned (fun b o hb e=>kk b o (by simpa using hb) e) f0 f1 f3 f4 f5
  refine⟨_,rfl,Di (s:={ s with heap:=h',toks:=tk }) (n:="range_iterator") Bv rfl rfl (by decide) ⟨.int (lo+i),H,I1,⟨t,?_⟩,⟨rfl,rfl⟩,Bv,fun b hb=>(hf b hb).1⟩⟩
  rw[Int.mul_one]
 done:=by
  intro X hP hw hK hc i π s σ H E I hf st hg
  subst hP hw hK
  obtain⟨f0,f1,f2,f3,f4,f5⟩:=hf it (by simp)
  exact wpAny_pyNext_range_end (I.ok.hd hc) st (by have:n≤i:=hg;omega) fun h' eb=>⟨rfl,I.turned (t':=s.toks) (fun b o hb e=>eb b o hb e) f0 f1 f3 f4 f5⟩
 self:=fun _ _ _ _ _ st h=>wpAny_pyIter_rangeiter st h
variable {tg:Expr}
def Dj (K:Frag) (tl:TE):TI:=fun σ H R=>tl σ H fun x H1=>∃a,x = .ref a∧(∃xs,bP K H1 a xs)∧R (JI K a) H1
def NY (K:Frag) (tl:TE):TI:=fun σ H R=>tl σ H fun x H1=>∃a,x = .ref a∧(∃xs,eV K H1 a xs)∧R (NX K a) H1
theorem GL {l:Expr}{tl:TE}(hl:PE X l tl):PI X tg l (Dj X.K tl):=by
 intro π s σ H R I h
 refine bL (hl π s σ H _ I h) fun v s1 ⟨x,H1,I1,r1,q1⟩=>?_
 obtain⟨a,e,⟨xs,hq⟩,q⟩:=q1
 subst e
 cases r1
 obtain⟨its,rv,p,hz⟩:=I1.list hq
 refine wpAny_pyIter_list p.isList ?_
 refine⟨s1.heap.objs.size,[s1.heap.objs.size],_,_,H1,rfl,I1.kept (t':=s1.toks) fun b o e=>Heap.get?_push_of_some _ e,Bu a _,⟨_,Heap.get?_push_size _ rfl,rfl,rfl⟩,fun b hb=>?_,q⟩
 have e:b=s1.heap.objs.size:=by simpa using hb
 subst e
 exact I1.vS (Nat.le_refl _) (I1.aV.fresh (Nat.le_refl _))
theorem KL {l:Expr}{tl:TE}(hl:PE X l tl):PI X tg l (NY X.K tl):=by
 intro π s σ H R I h
 refine bL (hl π s σ H _ I h) fun v s1 ⟨x,H1,I1,r1,q1⟩=>?_
 obtain⟨a,e,⟨xs,hq⟩,q⟩:=q1
 subst e
 cases r1
 obtain⟨its,rv,p,hz⟩:=I1.tuple hq
 refine wpAny_pyIter_tuple (show s1.heap.IsTuple a its.toArray from p) ?_
 refine⟨s1.heap.objs.size,[s1.heap.objs.size],_,_,H1,rfl,I1.kept (t':=s1.toks) fun b o e=>Heap.get?_push_of_some _ e,ye a _,⟨_,Heap.get?_push_size _ rfl,rfl,rfl⟩,fun b hb=>?_,q⟩
 have e:b=s1.heap.objs.size:=by simpa using hb
 subst e
 exact I1.vS (Nat.le_refl _) (I1.aV.fresh (Nat.le_refl _))
theorem vT {π:List (Addr×Obj)}{σ:St}{H:Hp}{s:Shared}{R:It→Hp→Prop}{E:Value→Shared→Prop}{lo hi:Int}{t u v:Tok}{tk:Nat}(I:Inv X π σ H s) (h1:-(2^62)≤lo) (h2:lo<2^62) (h3:-(2^62)≤hi) (h4:hi<2^62)
  (q:R (Gf lo (hi-lo).toNat) H):wpAny (model X.prog X.w) X.A (pyIter (.ref s.heap.objs.size)) (PIE X π σ tg R) E { s with heap:=s.heap.push { cls:=.type "range",data:=.fields #[.int lo t,.int hi u,.int 1 v] },toks:=tk }:=by
 refine wpAny_pyIter_range (IsRange.new ..) (small_one h1 h2 h3 h4) ?_
 have I1:Inv X π σ H { s with heap:=s.heap.push { cls:=.type "range",data:=.fields #[.int lo t,.int hi u,.int 1 v] },toks:=tk }:=I.kept fun b o e=>Heap.get?_push_of_some _ e
 refine⟨(s.heap.push { cls:=.type "range",data:=.fields #[.int lo t,.int hi u,.int 1 v] }).objs.size,[(s.heap.push { cls:=.type "range",data:=.fields #[.int lo t,.int hi u,.int 1 v] }).objs.size],_,_,H,rfl,
  I1.kept (t':=tk) fun b o e=>Heap.get?_push_of_some _ e,yf _ lo (hi-lo).toNat,?_,fun b hb=>?_,q⟩
 ·have e1:lo+((0:Nat):Int)*1=lo:=by simp
  have e2:(((hi-lo).toNat:Nat):Int)-((0:Nat):Int)=Builtin.Range.rangeSize lo hi 1:=by rw[rangeSize_one];split<;>omega
  show IsRangeIter _ _ (lo+((0:Nat):Int)*1) ((((hi-lo).toNat:Nat):Int)-((0:Nat):Int)) 1
  rw[e1,e2]
  exact Heap.get?_push_size _ rfl
 ·have e:b=(s.heap.push { cls:=.type "range",data:=.fields #[.int lo t,.int hi u,.int 1 v] }).objs.size:=by simpa using hb
  subst e
  exact I1.vS (Nat.le_refl _) (I1.aV.fresh (Nat.le_refl _))
def NZ (ta:TA):TI:=fun σ H R=>ta σ H fun vs H1=>∃j:Int,vs=[.int j]∧-(2^62)≤j∧j<2^62∧R (Gf 0 j.toNat) H1
def N0 (ta:TA):TI:=fun σ H R=>ta σ H fun vs H1=>∃i j:Int,vs=[.int i,.int j]∧(-(2^62)≤i∧i<2^62∧-(2^62)≤j∧j<2^62)∧R (Gf i (j-i).toNat) H1
theorem bX {a:Expr}{ta:TA}{p pos:Pos}(hg:Gl X "range") (hm:X.mg "range"=none) (ha:PA X [a] ta) (hs:starEach [a] X.env=[(false,eval a X.env)]:=by rfl):PI X tg (.Call (.Name "range" p) [a] [] pos) (NZ ta):=by
 intro π s σ H R I h
 refine Call_ (jE I hg hm boot_range (PyProof.Rows.callWith_type1 (bL (ha pos π s σ H _ I h) fun us s1 ⟨vs,H1,I1,r1,q1⟩=>?_) hs rfl))
 obtain⟨j,e,q1,q2,q⟩:=q1
 subst e
 cases r1 with
 | cons r rr =>
  cases rr
  obtain⟨t,rfl⟩:=r
  exact call_range_1 (vT I1 (by omega) (by omega) q1 q2 (by simpa using q))
theorem kL {a b:Expr}{ta:TA}{p pos:Pos}(hg:Gl X "range") (hm:X.mg "range"=none) (ha:PA X [a,b] ta) (hs:starEach [a,b] X.env=[(false,eval a X.env),(false,eval b X.env)]:=by rfl) (rW:starEach [b] X.env=[(false,eval b X.env)]:=by rfl) :
  PI X tg (.Call (.Name "range" p) [a,b] [] pos) (N0 ta):=by
 intro π s σ H R I h
 refine Call_ (jE I hg hm boot_range (PyProof.Rows.callWith_type1 (bL (ha pos π s σ H _ I h) fun us s1 ⟨vs,H1,I1,r1,q1⟩=>?_) (by rw[hs,rW]) (by rw[rW];rfl)))
 obtain⟨i,j,e,⟨q1,q2,q3,q4⟩,q⟩:=q1
 subst e
 cases r1 with
 | cons r rr =>
  cases rr with
  | cons r' rr =>
   cases rr
   obtain⟨t,rfl⟩:=r
   obtain⟨t',rfl⟩:=r'
   exact call_range_2 (vT I1 q1 q2 q3 q4 q)
def S7 (wi:TI) (g:TG) (tb:TS):TS:=fun D σ H=>wi σ H fun J H1=>∃W:Nat→Nat→St→Hp→Prop,(∃m,W 0 m σ H1)∧∀i m σ H,W i m σ H →
 (J.stop i H∧D.nx σ H)∨(J.go i H∧∃N:St→Hp→Prop,(∀σ' H',N σ' H'→∃m',m'<m∧W (i+1) m' σ' H')∧∀x H',J.JH i H x H'→g x σ H' fun σ2 H2=>tb { D with nx:=N,ct:=N,bk:=D.nx } σ2 H2)
def jH (fp:List Addr) (h:Heap):List (Addr×Obj):=fp.filterMap fun b=>(h.get? b).map fun o=>(b,o)
theorem fh {fp:List Addr}{h:Heap}{b:Addr}{o:Obj}(hb:b∈fp) (e:h.get? b=some o):(b,o)∈jH fp h:=List.mem_filterMap.mpr ⟨b,hb,by rw[e];rfl⟩
theorem Bw {fp:List Addr}{h:Heap}{p:Addr×Obj}(hp:p∈jH fp h):p.1∈fp∧h.get? p.1=some p.2:=by
 obtain⟨b,hb,e⟩:=List.mem_filterMap.mp hp
 cases q:h.get? b with
 | none=>rw[q] at e;cases e
 | some o =>
  rw[q] at e
  have e':(b,o)=p:=Option.some.inj e
  subst e'
  exact⟨hb,q⟩
theorem Inv.pinned {π:List (Addr×Obj)}{σ:St}{H:Hp}{s:Shared}{fp:List Addr}(I:Inv X π σ H s) (hf:∀b∈fp,gA X π H b) (ho:∀b∈fp,∃o,s.heap.get? b=some o∧∀v,o.data≠.cell v):Inv X (π++jH fp s.heap) σ H s :=
 I.kK fun p hp=>(mem_append.mp hp).elim (fun z=>I.pin p (mem_append_right _ z)) fun z=>by
  obtain⟨hb,e⟩:=Bw z
  obtain⟨f0,f1,f2,_⟩:=hf p.1 hb
  obtain⟨o,e',d⟩:=ho p.1 hb
  rw[e] at e';cases e'
  exact⟨e,f0,f1,f2,d⟩
theorem Inv.jI {π pl:List (Addr×Obj)}{σ:St}{H:Hp}{s:Shared}(I:Inv X (π++pl) σ H s):Inv X π σ H s:=I.kK fun p hp=>I.pin p (mem_append_right _ (mem_append_left _ hp))
theorem cy {iter:Expr}{body:List Stmt}{wi:TI}{g:TG}{tb:TS}{pos:Pos}(hp:PassesOwn (model X.prog X.w) X.A X.env X.xe) (hc:X.calm=true) (hi:PI X tg iter wi) (hg:PG X tg g) (hb:oH X body tb)
  (hs:∀x,foldedSetIterable iter X.env x=pure x:=by intro _;rfl):PS X (.For tg iter body [] pos) (S7 wi g tb):=by
 intro π s σ H D I h
 refine wpAny_For (bL (hi π s σ H _ I h) fun v s1 h1=>bL h1 fun Nf s2 h2=>?_) hs
 obtain⟨it,fp,tn,J,H2,e,I2,T,vU,f2,W,⟨m0,w0⟩,turn⟩:=h2
 subst e
 have ph:∀{H':Hp},(∀b∈fp,H' b=none)→∀b∈fp,gA X π H' b:=fun hn b hb=>⟨hn b hb,(f2 b hb).2⟩
 refine codeAny_forLoop_any (fun n s'=>∃i σ' H',Inv X π σ' H' s'∧tn i s'.heap∧(∀b∈fp,H' b=none)∧W i n σ' H') ?_ m0 ⟨0,σ,H2,I2,vU,fun b hb=>(f2 b hb).1,w0⟩
 rintro n s3 ⟨i,σ3,H3,I3,JJ,JK,w3⟩
 rcases turn i n σ3 H3 w3 with⟨stop,qn⟩|⟨go,N,hN,step⟩
 ·refine wpAny_passesOwn hp (bL (T.done X rfl rfl rfl hc i π s3 σ3 H3 X.xe I3 (ph JK) JJ stop) fun r s4 ⟨hr,I4⟩=>?_)
  subst hr
  exact wpAny_execs_nil ⟨σ3,H3,I4,qn⟩
 ·refine wpAny_passesOwn hp (bL (T.item X rfl rfl rfl hc i π s3 σ3 H3 X.xe I3 (ph JK) JJ go) fun r s4 ⟨u,hr,h4⟩=>?_)
  subst hr
  refine wpAny_passesOwn hp (bL h4 fun _ s5 ⟨x,H5,I5,r5,y5,Dk,N3⟩=>?_)
  have N4:=I5.pinned (ph N3) (T.obj _ _ Dk)
  refine wpAny_passesOwn hp (bL (hg _ s5 σ3 H5 x u _ N4 r5 (step x H5 y5)) fun _ s6 ⟨σ6,H6,I6,q6⟩=>?_)
  refine wpAny_passesOwn hp (bL (hb _ s6 σ6 H6 _ I6 q6) fun f s7 q7=>?_)
  have again:∀{σ7:St}{H7:Hp},Inv X (π++jH fp s5.heap) σ7 H7 s7→N σ7 H7→∃m,m<n∧∃i σ' H',Inv X π σ' H' s7∧tn i s7.heap∧(∀b∈fp,H' b=none)∧W i m σ' H':=fun {σ7 H7} I7 n7=>by
   obtain⟨m',hm,w7⟩:=hN σ7 H7 n7
   refine⟨m',hm,i+1,σ7,H7,I7.jI,T.keep _ _ _ Dk fun b hb o e=>(I7.pin (b,o) (mem_append_right _ (mem_append_right _ (fh hb e)))).1,fun b hb=>?_,w7⟩
   obtain⟨o,e,d⟩:=T.obj _ _ Dk b hb
   exact(I7.pin (b,o) (mem_append_right _ (mem_append_right _ (fh hb e)))).2.1
  cases f with
  | next=>obtain⟨σ7,H7,I7,n7⟩:=q7;exact again I7 n7
  | cont=>obtain⟨σ7,H7,I7,n7⟩:=q7;exact again I7 n7
  | brk=>obtain⟨σ7,H7,I7,q7⟩:=q7;exact⟨σ7,H7,I7.jI,q7⟩
  | ret v=>obtain⟨x7,σ7,H7,I7,r7,q7⟩:=q7;exact⟨x7,σ7,H7,I7.jI,r7,q7⟩
end
theorem iD {K:Frag}{a:Addr}{xs:List V}{g:TG}{tb:TS}{D:Ends}{σ:St}{H:Hp}(Pv:Nat→St→Hp→Prop) (h0:Pv 0 σ H) (hl:∀i σ H,i≤xs.length→Pv i σ H→bP K H a xs)
  (hs:∀i x σ H,xs[i]?=some x→Pv i σ H→g x σ H fun σ2 H2=>tb { D with nx:=Pv (i+1),ct:=Pv (i+1),bk:=D.nx } σ2 H2) (hd:∀σ H,Pv xs.length σ H→D.nx σ H) :
  ∃W:Nat→Nat→St→Hp→Prop,(∃m,W 0 m σ H)∧∀i m σ H,W i m σ H →
   ((JI K a).stop i H∧D.nx σ H)∨((JI K a).go i H∧∃N:St→Hp→Prop,(∀σ' H',N σ' H'→∃m',m'<m∧W (i+1) m' σ' H')∧∀x H',(JI K a).JH i H x H'→g x σ H' fun σ2 H2=>tb { D with nx:=N,ct:=N,bk:=D.nx } σ2 H2):=by
 refine⟨fun i m σ H=>m=xs.length-i∧i≤xs.length∧Pv i σ H,⟨xs.length,by simp,Nat.zero_le _,h0⟩,?_⟩
 rintro i m σ H ⟨rfl,hi,p⟩
 have q:=hl i σ H hi p
 by_cases bR:i<xs.length
 ·refine .inr ⟨⟨xs,xs[i],q,by simp[bR]⟩,Pv (i+1),fun σ' H' p'=>⟨xs.length-(i+1),by omega,rfl,bR,p'⟩,fun x H' y=>?_⟩
  obtain⟨e,y⟩:=y
  subst e
  exact hs i x σ _ (y xs q) p
 ·have e:i=xs.length:=by omega
  subst e
  exact .inl ⟨⟨xs,q,Nat.le_refl _⟩,hd σ H p⟩
theorem GN {K:Frag}{a:Addr}{xs:List V}{g:TG}{tb:TS}{D:Ends}{σ:St}{H:Hp}(Pv:Nat→St→Hp→Prop) (h0:Pv 0 σ H) (hl:∀i σ H,i≤xs.length→Pv i σ H→eV K H a xs)
  (hs:∀i x σ H,xs[i]?=some x→Pv i σ H→g x σ H fun σ2 H2=>tb { D with nx:=Pv (i+1),ct:=Pv (i+1),bk:=D.nx } σ2 H2) (hd:∀σ H,Pv xs.length σ H→D.nx σ H) :
  ∃W:Nat→Nat→St→Hp→Prop,(∃m,W 0 m σ H)∧∀i m σ H,W i m σ H →
   ((NX K a).stop i H∧D.nx σ H)∨((NX K a).go i H∧∃N:St→Hp→Prop,(∀σ' H',N σ' H'→∃m',m'<m∧W (i+1) m' σ' H')∧∀x H',(NX K a).JH i H x H'→g x σ H' fun σ2 H2=>tb { D with nx:=N,ct:=N,bk:=D.nx } σ2 H2):=by
 refine⟨fun i m σ H=>m=xs.length-i∧i≤xs.length∧Pv i σ H,⟨xs.length,by simp,Nat.zero_le _,h0⟩,?_⟩
 rintro i m σ H ⟨rfl,hi,p⟩
 have q:=hl i σ H hi p
 by_cases bR:i<xs.length
 ·refine .inr ⟨⟨xs,xs[i],q,by simp[bR]⟩,Pv (i+1),fun σ' H' p'=>⟨xs.length-(i+1),by omega,rfl,bR,p'⟩,fun x H' y=>?_⟩
  obtain⟨e,y⟩:=y
  subst e
  exact hs i x σ _ (y xs q) p
 ·have e:i=xs.length:=by omega
  subst e
  exact .inl ⟨⟨xs,q,Nat.le_refl _⟩,hd σ H p⟩
theorem ck {lo:Int}{n:Nat}{g:TG}{tb:TS}{D:Ends}{σ:St}{H:Hp}(Pv:Nat→St→Hp→Prop) (h0:Pv 0 σ H)
  (hs:∀i σ H,i<n→Pv i σ H→g (.int (lo+i)) σ H fun σ2 H2=>tb { D with nx:=Pv (i+1),ct:=Pv (i+1),bk:=D.nx } σ2 H2) (hd:∀σ H,Pv n σ H→D.nx σ H) :
  ∃W:Nat→Nat→St→Hp→Prop,(∃m,W 0 m σ H)∧∀i m σ H,W i m σ H →
   ((Gf lo n).stop i H∧D.nx σ H)∨((Gf lo n).go i H∧∃N:St→Hp→Prop,(∀σ' H',N σ' H'→∃m',m'<m∧W (i+1) m' σ' H')∧∀x H',(Gf lo n).JH i H x H'→g x σ H' fun σ2 H2=>tb { D with nx:=N,ct:=N,bk:=D.nx } σ2 H2):=by
 refine⟨fun i m σ H=>m=n-i∧i≤n∧Pv i σ H,⟨n,by simp,Nat.zero_le _,h0⟩,?_⟩
 rintro i m σ H ⟨rfl,hi,p⟩
 by_cases bR:i<n
 ·refine .inr ⟨bR,Pv (i+1),fun σ' H' p'=>⟨n-(i+1),by omega,rfl,bR,p'⟩,fun x H' y=>?_⟩
  obtain⟨e,y⟩:=y
  subst e y
  exact hs i σ _ bR p
 ·have e:i=n:=by omega
  subst e
  exact .inl ⟨Nat.le_refl _,hd σ H p⟩
abbrev R2:=V→V→Hp→VK→Prop
def iP (X:Cx) (f:Value→Value→Sem Value) (r:R2):Prop :=
 ∀(π:List (Addr×Obj)) (s:Shared) (σ:St) (H:Hp) (x y:V) (v u:Value) (Q:VK),Inv X π σ H s→RelV x v→RelV y u→r x y H Q →
  wpAny (model X.prog X.w) X.A (f v u) (EP X π σ Q) X.xe s
def Rt (X:Cx) (f:Value→Sem Value) (r:V→Hp→VK→Prop):Prop :=
 ∀(π:List (Addr×Obj)) (s:Shared) (σ:St) (H:Hp) (x:V) (v:Value) (Q:VK),Inv X π σ H s→RelV x v→r x H Q →
  wpAny (model X.prog X.w) X.A (f v) (EP X π σ Q) X.xe s
def gS (X:Cx) (f:Value) (r:List V→Hp→VK→Prop):Prop :=
 ∀(π:List (Addr×Obj)) (s:Shared) (σ:St) (H:Hp) (xs:List V) (us:List Value) (Q:VK),Inv X π σ H s→Vals xs us→r xs H Q →
  wpAny (model X.prog X.w) X.A (call f us) (EP X π σ Q) X.xe s
def TruR (X:Cx) (r:V→Hp→(Bool→Hp→Prop)→Prop):Prop :=
 ∀(π:List (Addr×Obj)) (s:Shared) (σ:St) (H:Hp) (x:V) (v:Value) (Q:Bool→Hp→Prop),Inv X π σ H s→RelV x v→r x H Q →
  wpAny (model X.prog X.w) X.A (truthy v) (TP X π σ Q) X.xe s
def N5 (r:R2) (ta tb:TE):TE:=fun σ H Q=>ta σ H fun x H1=>tb σ H1 fun y H2=>r x y H2 Q
def tUn (r:V→Hp→VK→Prop) (ta:TE):TE:=fun σ H Q=>ta σ H fun x H1=>r x H1 Q
def rI (C:Int→Int→Prop) (g:Int→Int→V):R2:=fun x y H Q=>∃i j,x = .int i∧y = .int j∧C i j∧Q (g i j) H
def Dl (g:Int→Int→V):R2:=fun x y H Q=>∃i j,x = .int i∧y = .int j∧Q (g i j) H
def rU (g:Int→V):V→Hp→VK→Prop:=fun x H Q=>∃i,x = .int i∧Q (g i) H
section
variable {X:Cx}{a b c:Expr}{ta tb tc:TE}{pos:Pos}
theorem KN (ha:PE X a ta) (hb:PE X b tb) {π:List (Addr×Obj)}{s:Shared}{σ:St}{H:Hp}{R:V→V→Hp→Prop}(I:Inv X π σ H s)
  (h:ta σ H fun x H1=>tb σ H1 fun y H2=>R x y H2) {Q:Value→Shared→Prop}{f:Value→Value→Sem Value}
  (hf:∀v u s2 x y H2,Inv X π σ H2 s2→RelV x v→RelV y u→R x y H2→wpAny (model X.prog X.w) X.A (f v u) Q X.xe s2) :
  wpAny (model X.prog X.w) X.A (eval a X.env) (fun v s₁=>wpAny (model X.prog X.w) X.A (eval b X.env) (fun u s₂=>wpAny (model X.prog X.w) X.A (f v u) Q X.xe s₂) X.xe s₁) X.xe s:=by
 refine bL (ha π s σ H _ I h) fun v s1 ⟨x,H1,I1,r1,q1⟩=>?_
 refine bL (hb π s1 σ H1 _ I1 q1) fun u s2 ⟨y,H2,I2,r2,q2⟩=>?_
 exact hf v u s2 x y H2 I2 r1 r2 q2
theorem ak {op:Operator}{r:R2}(ho:iP X (binaryOp op) r) (ha:PE X a ta) (hb:PE X b tb):PE X (.BinOp a op b pos) (N5 r ta tb):=by
 intro π s σ H Q I h
 exact wpAny_BinOp (KN ha hb I h fun v u s2 x y H2 I2 rx ry q=>ho π s2 σ H2 x y v u Q I2 rx ry q)
theorem lC {op:UnaryOp}{r:V→Hp→VK→Prop}(ho:Rt X (unaryOp op) r) (ha:PE X a ta):PE X (.UnaryOp op a pos) (tUn r ta):=by
 intro π s σ H Q I h
 exact UnaryOp_ (bL (ha π s σ H _ I h) fun v s1 ⟨x,H1,I1,r1,q1⟩=>ho π s1 σ H1 x v Q I1 r1 q1)
theorem Ng {f:Value→Value→Sem Value}{C:Int→Int→Prop}{g:Int→Int→Int}
  (rule:∀(i j:Int) (t u:Tok) (s:Shared) (Q:Value→Shared→Prop) (E:Value→Shared→Prop),C i j→Q (.int (g i j) s.toks) { s with toks:=s.toks+1 }→wpAny (model X.prog X.w) X.A (f (.int i t) (.int j u)) Q E s) :
  iP X f (rI C fun i j=>.int (g i j)):=by
 intro π s σ H x y v u Q I rx ry h
 obtain⟨i,j,rfl,rfl,hc,q⟩:=h
 obtain⟨t,rfl⟩:=rx
 obtain⟨t',rfl⟩:=ry
 exact rule i j t t' s _ _ hc ⟨.int (g i j),H,I.tok _,⟨_,rfl⟩,q⟩
theorem Dm {f:Value→Value→Sem Value}{g:Int→Int→Int}
  (rule:∀(i j:Int) (t u:Tok) (s:Shared) (Q:Value→Shared→Prop) (E:Value→Shared→Prop),Q (.int (g i j) s.toks) { s with toks:=s.toks+1 }→wpAny (model X.prog X.w) X.A (f (.int i t) (.int j u)) Q E s) :
  iP X f (Dl fun i j=>.int (g i j)):=by
 intro π s σ H x y v u Q I rx ry h
 obtain⟨i,j,rfl,rfl,q⟩:=h
 obtain⟨t,rfl⟩:=rx
 obtain⟨t',rfl⟩:=ry
 exact rule i j t t' s _ _ ⟨.int (g i j),H,I.tok _,⟨_,rfl⟩,q⟩
theorem GO {f:Value→Value→Sem Value}{g:Int→Int→Bool}
  (rule:∀(i j:Int) (t u:Tok) (s:Shared) (Q:Value→Shared→Prop) (E:Value→Shared→Prop),Q (.bool (g i j)) s→wpAny (model X.prog X.w) X.A (f (.int i t) (.int j u)) Q E s) :
  iP X f (Dl fun i j=>.bl (g i j)):=by
 intro π s σ H x y v u Q I rx ry h
 obtain⟨i,j,rfl,rfl,q⟩:=h
 obtain⟨t,rfl⟩:=rx
 obtain⟨t',rfl⟩:=ry
 exact rule i j t t' s _ _ ⟨.bl (g i j),H,I,rfl,q⟩
def CDiv (i j:Int):Prop:=0<j∧j<1073741824
def CDivN (i j:Int):Prop:=j≠0∧j.natAbs<1073741824
def Dp (i j:Int):Prop:=0≤j∧j≤1000000∧i.natAbs<2^64
def CMul (i j:Int):Prop:=(-(2^64)<i∧i<2^64)∨(-(2^64)<j∧j<2^64)
theorem yg (k:Nat):(0:Int)≤2^k:=by
 rw[two_pow_cast]
 exact Int.natCast_nonneg _
theorem bS:iP X (binaryOp .Add) (Dl fun i j=>.int (i+j)):=Dm fun _ _ _ _ _ _ _ q=>add_int q
theorem dQ:iP X (binaryOp .Sub) (Dl fun i j=>.int (i-j)):=Dm fun _ _ _ _ _ _ _ q=>sub_int q
theorem ba:iP X (binaryOp .Mod) (rI (fun _ j=>0<j) fun i j=>.int (i%j)):=Ng fun i j _ _ _ _ _ hc q=>by
 have h1:(0:Int)<j:=hc
 exact mod_int' (by omega) (by rw[Int.fmod_eq_emod_of_nonneg i (by omega)];exact q)
theorem tm:iP X (binaryOp .Pow) (rI Dp fun i j=>.int (i^j.toNat)):=Ng fun _ _ _ _ _ _ _ hc q=>pow_int_small hc.1 hc.2.1 hc.2.2 q
theorem cI:iP X (binaryOp .LShift) (rI Dp fun i j=>.int (i*2^j.toNat)):=Ng fun _ _ _ _ _ _ _ hc q=>lshift_int_small hc.1 hc.2.1 hc.2.2 q
theorem jJ:iP X (binaryOp .RShift) (rI (fun _ j=>0≤j) fun i j=>.int (i/2^j.toNat)):=Ng fun i j _ _ _ _ _ hc q =>
 rshift_int hc (by rw[Int.fdiv_eq_ediv_of_nonneg i (yg _)];exact q)
theorem cj:iP X (binaryOp .BitAnd) (Dl fun i j=>.int (Builtin.bitAnd i j)):=Dm fun _ _ _ _ _ _ _ q=>and_int q
theorem zY:iP X (binaryOp .BitOr) (Dl fun i j=>.int (Builtin.bitOr i j)):=Dm fun _ _ _ _ _ _ _ q=>or_int q
theorem b8:iP X (binaryOp .BitXor) (Dl fun i j=>.int (Builtin.bitXor i j)):=Dm fun _ _ _ _ _ _ _ q=>xor_int q
theorem unI {f:Value→Sem Value}{g:Int→Int}
  (rule:∀(i:Int) (t:Tok) (s:Shared) (Q:Value→Shared→Prop) (E:Value→Shared→Prop),Q (.int (g i) s.toks) { s with toks:=s.toks+1 }→wpAny (model X.prog X.w) X.A (f (.int i t)) Q E s) :
  Rt X f (rU fun i=>.int (g i)):=by
 intro π s σ H x v Q I rx h
 obtain⟨i,rfl,q⟩:=h
 obtain⟨t,rfl⟩:=rx
 exact rule i t s _ _ ⟨.int (g i),H,I.tok _,⟨_,rfl⟩,q⟩
theorem jK:Rt X (unaryOp .USub) (rU fun i=>.int (-i)):=unI fun _ _ _ _ _ q=>neg_int q
theorem Dq:Rt X (unaryOp .Invert) (rU fun i=>.int (Builtin.bitNot i)):=unI fun _ _ _ _ _ q=>invert_int q
noncomputable def N6:V→V→Bool
 | .cH,.cH=>true | .cH,.int _=>true | .int _,.cH=>true | .cH,.bl _=>true | .bl _,.cH=>true | .cH,.str _=>true | .str _,.cH=>true
 | .int _,.int _=>true | .bl _,.bl _=>true | .str _,.str _=>true | .xZ _,.xZ _=>true
 | .int _,.str _=>true | .str _,.int _=>true | .bl _,.str _=>true | .str _,.bl _=>true
 | _,_=>false
def rEq:R2:=fun x y H Q=>N6 x y=true∧Q (.bl (decide (x=y))) H
def rNe:R2:=fun x y H Q=>N6 x y=true∧Q (.bl (!decide (x=y))) H
theorem iQ {i j:Int}:decide (V.int i=V.int j)=(i == j):=by
 rw[Bool.eq_iff_iff]
 simp
theorem Dr {i j:Bool}:decide (V.bl i=V.bl j)=(i == j):=by
 rw[Bool.eq_iff_iff]
 simp
theorem zZ {i j:Str}:decide (V.str i=V.str j)=(i == j):=by
 rw[Bool.eq_iff_iff]
 simp
theorem z0 {i j:Array UInt8}:decide (V.xZ i=V.xZ j)=(i.toList == j.toList):=by
 rw[Bool.eq_iff_iff]
 cases i
 cases j
 simp
theorem bf {π:List (Addr×Obj)}{σ:St}{H:Hp}{s:Shared}{Q:VK}{k k':Bool}(I:Inv X π σ H s) (q:Q (.bl k) H) (e:k=k'):EP X π σ Q (.bool k') s:=by
 subst e
 exact⟨.bl k,H,I,rfl,q⟩
theorem e7:iP X (compareOp .Eq) rEq:=by
 intro π s σ H x y v u Q I rx ry h
 obtain⟨hs,q⟩:=h
 cases x with
 | cH =>
  cases rx
  cases y with
  | cH=>cases ry;exact PySem.EqNone.eq_none_none (bf I q (by simp))
  | bl j=>cases ry;exact PySem.EqNone.eq_none_bool (bf I q (by simp))
  | int j=>obtain⟨t',rfl⟩:=ry;exact PySem.EqNone.eq_none_int (bf I q (by simp))
  | str j=>obtain⟨t',rfl⟩:=ry;exact PySem.EqNone.eq_none_str (bf I q (by simp))
  | _=>exact absurd (show false=true from hs) Bool.false_ne_true
 | bl i =>
  cases rx
  cases y with
  | cH=>cases ry;exact PySem.EqNone.eq_bool_none (bf I q (by simp))
  | bl j=>cases ry;exact eq_bool (bf I q Dr)
  | str j=>obtain⟨t',rfl⟩:=ry;exact PySem.EqMixed.eq_bool_str (bf I q (by simp))
  | _=>exact absurd (show false=true from hs) Bool.false_ne_true
 | int i =>
  obtain⟨t,rfl⟩:=rx
  cases y with
  | cH=>cases ry;exact PySem.EqNone.eq_int_none (bf I q (by simp))
  | int j=>obtain⟨t',rfl⟩:=ry;exact eq_int (bf I q iQ)
  | str j=>obtain⟨t',rfl⟩:=ry;exact PySem.EqMixed.eq_int_str (bf I q (by simp))
  | _=>exact absurd (show false=true from hs) Bool.false_ne_true
 | str i =>
  obtain⟨t,rfl⟩:=rx
  cases y with
  | cH=>cases ry;exact PySem.EqNone.eq_str_none (bf I q (by simp))
  | bl j=>cases ry;exact PySem.EqMixed.eq_str_bool (bf I q (by simp))
  | int j=>obtain⟨t',rfl⟩:=ry;exact PySem.EqMixed.eq_str_int (bf I q (by simp))
  | str j=>obtain⟨t',rfl⟩:=ry;exact eq_str (bf I q zZ)
  | _=>exact absurd (show false=true from hs) Bool.false_ne_true
 | xZ i =>
  obtain⟨t,rfl⟩:=rx
  cases y with
  | xZ j=>obtain⟨t',rfl⟩:=ry;exact PySem.W.eq_bytes (bf I q z0)
  | _=>exact absurd (show false=true from hs) Bool.false_ne_true
 | _=>cases y<;>exact absurd (show false=true from hs) Bool.false_ne_true
theorem mv:iP X (compareOp .NotEq) rNe:=by
 intro π s σ H x y v u Q I rx ry h
 obtain⟨hs,q⟩:=h
 cases x with
 | cH =>
  cases rx
  cases y with
  | cH=>cases ry;exact PySem.EqNone.ne_none_none (bf I q (by simp))
  | bl j=>cases ry;exact PySem.EqNone.ne_none_bool (bf I q (by simp))
  | int j=>obtain⟨t',rfl⟩:=ry;exact PySem.EqNone.ne_none_int (bf I q (by simp))
  | str j=>obtain⟨t',rfl⟩:=ry;exact PySem.EqNone.ne_none_str (bf I q (by simp))
  | _=>exact absurd (show false=true from hs) Bool.false_ne_true
 | bl i =>
  cases rx
  cases y with
  | cH=>cases ry;exact PySem.EqNone.ne_bool_none (bf I q (by simp))
  | bl j=>cases ry;exact ne_bool (bf I q (congrArg not Dr))
  | str j=>obtain⟨t',rfl⟩:=ry;exact PySem.EqMixed.ne_bool_str (bf I q (by simp))
  | _=>exact absurd (show false=true from hs) Bool.false_ne_true
 | int i =>
  obtain⟨t,rfl⟩:=rx
  cases y with
  | cH=>cases ry;exact PySem.EqNone.ne_int_none (bf I q (by simp))
  | int j=>obtain⟨t',rfl⟩:=ry;exact ne_int (bf I q (congrArg not iQ))
  | str j=>obtain⟨t',rfl⟩:=ry;exact PySem.EqMixed.ne_int_str (bf I q (by simp))
  | _=>exact absurd (show false=true from hs) Bool.false_ne_true
 | str i =>
  obtain⟨t,rfl⟩:=rx
  cases y with
  | cH=>cases ry;exact PySem.EqNone.ne_str_none (bf I q (by simp))
  | bl j=>cases ry;exact PySem.EqMixed.ne_str_bool (bf I q (by simp))
  | int j=>obtain⟨t',rfl⟩:=ry;exact PySem.EqMixed.ne_str_int (bf I q (by simp))
  | str j=>obtain⟨t',rfl⟩:=ry;exact ne_str (bf I q (congrArg not zZ))
  | _=>exact absurd (show false=true from hs) Bool.false_ne_true
 | xZ i =>
  obtain⟨t,rfl⟩:=rx
  cases y with
  | xZ j=>obtain⟨t',rfl⟩:=ry;exact PySem.W.ne_bytes (bf I q (congrArg not z0))
  | _=>exact absurd (show false=true from hs) Bool.false_ne_true
 | _=>cases y<;>exact absurd (show false=true from hs) Bool.false_ne_true
theorem mw:iP X (compareOp .Lt) (Dl fun i j=>.bl (decide (i<j))):=GO fun _ _ _ _ _ _ _ q=>lt_int q
theorem Ds:iP X (compareOp .LtE) (Dl fun i j=>.bl (decide (i≤j))):=GO fun _ _ _ _ _ _ _ q=>le_int q
theorem vV:iP X (compareOp .Gt) (Dl fun i j=>.bl (decide (j<i))):=GO fun _ _ _ _ _ _ _ q=>gt_int q
theorem Aa:iP X (compareOp .GtE) (Dl fun i j=>.bl (decide (j≤i))):=GO fun _ _ _ _ _ _ _ q=>ge_int q
theorem yh:iP X (compareOp .Is) (fun x y H Q=>y = .cH∧Q (.bl (decide (x = .cH))) H):=by
 intro π s σ H x y v u Q I rx ry h
 obtain⟨rfl,q⟩:=h
 cases ry
 refine is_none_gen (bf I q ?_)
 cases x<;>first
  | (cases rx;rfl)
  | (obtain⟨t,rfl⟩:=rx;rfl)
theorem GP:iP X (compareOp .IsNot) (fun x y H Q=>y = .cH∧Q (.bl (!decide (x = .cH))) H):=by
 intro π s σ H x y v u Q I rx ry h
 obtain⟨rfl,q⟩:=h
 cases ry
 refine isnot_none_gen (bf I q ?_)
 cases x<;>first
  | (cases rx;rfl)
  | (obtain⟨t,rfl⟩:=rx;rfl)
def isObj:HO→Bool
 | .lst _=>true
 | .ins _ _ _=>true
 | _=>false
theorem aI (b:Expr) {op:CmpOp}(h:op≠.In:=by decide) (h2:op≠.NotIn:=by decide):behindInMarks op b=false:=by
 have e1:(op == CmpOp.In)=false:=by cases op<;>first|rfl|exact absurd rfl h
 have e2:(op == CmpOp.NotIn)=false:=by cases op<;>first|rfl|exact absurd rfl h2
 cases b<;>simp[behindInMarks,e1,e2]
theorem eI {op:CmpOp}{r:R2}(ho:iP X (compareOp op) r) (ha:PE X a ta) (hb:PE X b tb) (hm:behindInMarks op b=false):PE X (.Compare a [op] [b] pos) (N5 r ta tb):=by
 intro π s σ H Q I h
 exact wpAny_Compare1 (KN ha hb I h fun v u s2 x y H2 I2 rx ry q=>ho π s2 σ H2 x y v u Q I2 rx ry q) hm
def JL (t:TE):TT:=fun σ H Q=>t σ H fun x H'=>∃k,x = .bl k∧Q k H'
theorem aE {op:CmpOp}{r:R2}(ho:iP X (compareOp op) r) (ha:PE X a ta) (hb:PE X b tb) (hm:behindInMarks op b=false):PT X (.Compare a [op] [b] pos) (JL (N5 r ta tb)):=by
 intro π s σ H Q I h
 refine wpAny_isTrue_Compare1 (bL (ha π s σ H _ I h) fun v s1 ⟨x,H1,I1,r1,q1⟩=>bL (hb π s1 σ H1 _ I1 q1) fun u s2 ⟨y,H2,I2,r2,q2⟩ =>
  bL (ho π s2 σ H2 x y v u _ I2 r1 r2 q2) fun c s3 ⟨z,H3,I3,r3,k,e,q3⟩=>?_) hm
 subst e
 cases r3
 exact wpAny_truthy_bool ⟨H3,I3,q3⟩
def Dt (r r':R2) (ta tb tc:TE):TE:=fun σ H Q=>ta σ H fun x H1=>tb σ H1 fun y H2=>r x y H2 fun z H3=>∃k,z = .bl k ∧
 (if k=true then tc σ H3 fun w' H4=>r' y w' H4 Q else Q (.bl false) H3)
theorem vW {op KO:CmpOp}{r r':R2}(ho:iP X (compareOp op) r) (jq:iP X (compareOp KO) r') (ha:PE X a ta) (hb:PE X b tb) (hc:PE X c tc)
  (hm:lastMarks [op,KO] [b,c]=false:=by with_unfolding_all rfl):PE X (.Compare a [op,KO] [b,c] pos) (Dt r r' ta tb tc):=by
 intro π s σ H Q I h
 refine Compare_chain (bL (ha π s σ H _ I h) fun v s1 ⟨x,H1,I1,r1,q1⟩=>chain_link (bL (hb π s1 σ H1 _ I1 q1) fun u s2 ⟨y,H2,I2,r2,q2⟩ =>
  bL (ho π s2 σ H2 x y v u _ I2 r1 r2 q2) fun d s3 ⟨z,H3,I3,r3,k,e,q3⟩=>?_)) hm
 subst e
 cases r3
 refine wpAny_truthy_bool ?_
 cases k with
 | false=>exact ite_ff ⟨.bl false,H3,I3,rfl,q3⟩
 | true=>exact ite_tt (chain_last (bL (hc π s3 σ H3 _ I3 q3) fun w' s4 ⟨z',H4,I4,r4,q4⟩=>jq π s4 σ H4 y z' u w' Q I4 r2 r4 q4))
theorem Du {op KO:CmpOp}{r r':R2}(ho:iP X (compareOp op) r) (jq:iP X (compareOp KO) r') (ha:PE X a ta) (hb:PE X b tb) (hc:PE X c tc)
  (hm:lastMarks [op,KO] [b,c]=false:=by with_unfolding_all rfl):PT X (.Compare a [op,KO] [b,c] pos) (JL (Dt r r' ta tb tc)):=by
 intro π s σ H Q I h
 refine isTrue_chain (bL (ha π s σ H _ I h) fun v s1 ⟨x,H1,I1,r1,q1⟩=>test_link (bL (hb π s1 σ H1 _ I1 q1) fun u s2 ⟨y,H2,I2,r2,q2⟩ =>
  bL (ho π s2 σ H2 x y v u _ I2 r1 r2 q2) fun d s3 ⟨z,H3,I3,r3,k,e,q3⟩=>?_)) hm
 subst e
 cases r3
 refine wpAny_truthy_bool ?_
 cases k with
 | false =>
  obtain⟨k',e',q'⟩:=q3
  cases e'
  exact ite_ff ⟨H3,I3,q'⟩
 | true =>
  refine ite_tt (test_last (bL (hc π s3 σ H3 _ I3 q3) fun w' s4 ⟨z',H4,I4,r4,q4⟩=>bL (jq π s4 σ H4 y z' u w' _ I4 r2 r4 q4) fun d' s5 ⟨z2,H5,I5,r5,k2,e2,q5⟩=>?_))
  subst e2
  cases r5
  exact wpAny_truthy_bool ⟨H5,I5,q5⟩
def TruV (K:Frag) (x:V) (H:Hp) (k:Bool):Prop :=
 match x with
 | .cH=>k=false
 | .bl b=>k=b
 | .int i=>k=(i != 0)
 | .str y=>y.length≤sizeLine∧k=((y.length:Int) != 0)
 | .xZ y=>y.size≤sizeLine∧k=((y.size:Int) != 0)
 | .ref p=>(∃xs,bP K H p xs∧k = !xs.isEmpty)∨(∃xs,eV K H p xs∧k = !xs.isEmpty)∨∃aB,H p=some (.dK aB)∧k = !aB.isEmpty
 | _=>False
theorem tq:(sizeLine:Nat)<2^63:=by rw[sizeLine_eq];decide
def N7 (b:Expr):Prop:=∀o i,subscripted b false o i=operate [o,i] (getItem o i)
theorem vals1 {x:V}{us:List Value}(r:Vals [x] us):∃u,us=[u]∧RelV x u:=by
 cases r with
 | cons r1 r2=>cases r2;exact⟨_,rfl,r1⟩
theorem vals2 {x y:V}{us:List Value}(r:Vals [x,y] us):∃u w',us=[u,w']∧RelV x u∧RelV y w':=by
 cases r with
 | cons r1 r2 =>
  cases r2 with
  | cons r3 r4=>cases r4;exact⟨_,_,rfl,r1,r3⟩
theorem Dv:gS X (.builtin "abs") (fun xs H Q=>∃i,xs=[.int i]∧Q (.int (if i<0 then -i else i)) H):=by
 intro π s σ H xs us Q I r h
 obtain⟨i,rfl,q⟩:=h
 obtain⟨u,rfl,t,rfl⟩:=vals1 r
 exact call_abs_int fun u tk=>⟨.int (if i<0 then -i else i),H,I.tok _,⟨_,rfl⟩,q⟩
theorem Bx (hc:X.calm=true):gS X (.builtin "max") (fun xs H Q=>∃i j,xs=[.int i,.int j]∧Q (.int (if j > i then j else i)) H):=by
 intro π s σ H xs us Q I r h
 obtain⟨i,j,rfl,q⟩:=h
 obtain⟨u,w',rfl,⟨t,rfl⟩,⟨t',rfl⟩⟩:=vals2 r
 refine max_two_ints (I.ok.hd hc) fun h' tk k=>⟨_,H,I.kept k,?_,q⟩
 by_cases hj:j > i
 ·rw[if_pos hj,if_pos hj];exact⟨_,rfl⟩
 ·rw[if_neg hj,if_neg hj];exact⟨_,rfl⟩
theorem By (hc:X.calm=true):gS X (.builtin "min") (fun xs H Q=>∃i j,xs=[.int i,.int j]∧Q (.int (if j<i then j else i)) H):=by
 intro π s σ H xs us Q I r h
 obtain⟨i,j,rfl,q⟩:=h
 obtain⟨u,w',rfl,⟨t,rfl⟩,⟨t',rfl⟩⟩:=vals2 r
 refine min_two_ints (I.ok.hd hc) fun h' tk k=>⟨_,H,I.kept k,?_,q⟩
 by_cases hj:j<i
 ·rw[if_pos hj,if_pos hj];exact⟨_,rfl⟩
 ·rw[if_neg hj,if_neg hj];exact⟨_,rfl⟩
theorem Bz:gS X (.type "int") (fun xs H Q=>(∃i,xs=[.int i]∧Q (.int i) H)∨∃k,xs=[.bl k]∧Q (.int (if k then 1 else 0)) H):=by
 intro π s σ H xs us Q I r h
 rcases h with⟨i,rfl,q⟩|⟨k,rfl,q⟩
 ·obtain⟨u,rfl,t,rfl⟩:=vals1 r
  exact call_int_int ⟨.int i,H,I,⟨_,rfl⟩,q⟩
 ·obtain⟨u,rfl,r1⟩:=vals1 r
  cases r1
  exact call_int_bool ⟨.int (if k then 1 else 0),H,I.tok _,⟨_,rfl⟩,q⟩
def LenV (K:Frag) (x:V) (H:Hp) (n:Nat):Prop :=
 match x with
 | .str y=>y.length≤sizeLine∧n=y.length
 | .xZ y=>y.size≤sizeLine∧n=y.size
 | .ref p=>(∃xs,bP K H p xs∧n=xs.length)∨∃xs,eV K H p xs∧n=xs.length
 | _=>False
structure yi (h:Heap) (x dx C:Addr) (mA:Str→Option Value):Prop where
 obj:h.get? x=some (PySem.W.instObj C dx)
 ns:h.Ns1 dx mA
 ne:dx≠x
theorem BA {h:Heap}{dx:Addr}{mA:Str→Option Value}(n:h.Ns1 dx mA):∃od,h.get? dx=some od∧∀name,PySem.W.lookIn name od=some (mA name):=by
 obtain⟨o,es,ep,ho,hd,hk,_,hm⟩:=n
 refine⟨o,ho,fun name=>?_⟩
 have e:=hm name
 unfold nsFind findBy at e
 rw[←Array.find?_toList] at e
 unfold PySem.W.lookIn
 rw[hd]
 dsimp only
 split
 ·rename_i y q
  rw[q] at e
  exact congrArg some e
 ·rename_i q
  rw[q] at e
  have a:es.toList.any (·.refKey)=false:=by
   rw[any_eq_false]
   intro y hy
   obtain⟨z,t,GQ⟩:=hk y (Array.mem_toList_iff.mp hy)
   simp[DictEntry.refKey,GQ]
  have a':¬es.toList.any (·.refKey)=true:=by rw[a];exact Bool.false_ne_true
  rw[if_neg a']
  exact congrArg some e
theorem yi.look {h:Heap}{x dx C:Addr}{mA:Str→Option Value}(I:yi h x dx C mA):∃od,PySem.W.InstAt h x (PySem.W.instObj C dx) C (some od)∧∀name,PySem.W.lookIn name od=some (mA name) :=
 let ⟨od,ho,hl⟩:=BA I.ns
 ⟨od,⟨I.obj,rfl,rfl,ho⟩,hl⟩
variable {prog:Program}{w:World}{A:Around}{E:Value→Shared→Prop}{s:Shared}{K:Frag}{x:Addr}{dx:Addr}{C:Addr}{f:Addr}{mA:Str→Option Value}{name:Str}{v:Value}
theorem get_map {expr:Bool}{Q:Value→Shared→Prop}(X:K.In s.heap) (I:yi s.heap x dx C mA) (hg:PySem.W.plainGet K C name=true) (hh:PySem.W.hasDictIn K C=true)
  (ha:PySem.W.findIn K (.ref C) name=some none) (hv:mA name=some v) (Gg:PySem.W.handedIn v=true) (h:Q v { s with toks:=s.toks+1 }) :
  wpAny (model prog w) A (getAttr (.ref x) name expr) Q E s:=by
 obtain⟨od,J,hl⟩:=I.look
 exact PySem.W.get_value X J (PySem.W.plainGet_of hg).1 (PySem.W.findObj_own hh ha rfl (by rw[hl,hv])) Gg h
theorem Dw {pl:Sem Bool}{Q:Value×List Value→Shared→Prop}(X:K.In s.heap) (I:yi s.heap x dx C mA) (hg:PySem.W.plainGet K C name=true)
  (hf:PySem.W.findIn K (.ref C) name=some (some (.ref f))) (ht:PySem.W.isFn K (.ref f)=true) (hv:mA name=none) (h:Q (.ref f,[.ref x]) s) :
  wpAny (model prog w) A (getMethod (.ref x) name pl) Q E s:=by
 obtain⟨od,J,hl⟩:=I.look
 exact PySem.W.method_fn X J (PySem.W.plainGet_of hg).1 (PySem.W.plainGet_of hg).2 hf (beq_iff_eq.mp ht) (by show (PySem.W.lookIn name od).map (·.isSome)=some false;rw[hl,hv];rfl) h
theorem GR {ns:List Str}{Q:Unit→Shared→Prop}(X:K.In s.heap) (I:yi s.heap x dx C mA)
  (hs:PySem.W.findIn K (.ref C) "__setattr__"=some (some (.builtin "object.__setattr__"))) (hp:PySem.W.plainOver K C=true) (ht:PySem.W.takerIn K C name=some none) (hh:PySem.W.hasDictIn K C=true)
  (hw:PySem.Within mA ns) (hsz:ns.length≤sizeLine)
  (h:∀h',yi h' x dx C (fun y=>if y=name then some v else mA y)→Heap.SameBut dx s.heap h'→Q () { s with heap:=h',toks:=s.toks+2 }) :
  wpAny (model prog w) A (setAttr (.ref x) name v) Q E s:=by
 obtain⟨od,J,hl⟩:=I.look
 refine PySem.W.set_plain X J hs (PySem.W.osa_open (s:={ s with toks:=s.toks+1 }) (r:=none) X J hp ht fun b=>?_)
 obtain⟨cd,hc,kJ⟩:=PySem.W.any_some hh
 have hx:s.heap.get? x=some ⟨.ref C,some dx,.plain,#[]⟩:=I.obj
 refine wpAny_bind (wpAny_pure (wpAny_bind (wpAny_bind (wpAny_loadPart hx (wpAny_bind (PySem.W.Looks.here (s:={ s with toks:=s.toks+1 }) (PySem.W.looks_clsIn X hc) ?_))))))
 rw[kJ]
 refine wpAny_pure (a:=some dx) (wpAny_bind (wpAny_pure (wpAny_bind ?_)))
 refine wpAny_nsSet1 (s:={ s with toks:=s.toks+1 }) I.ns fun h' Ru rW=>?_
 obtain⟨oD,esD,epD,S8,S9,Ta⟩:=Ru.count (PySem.Within.cons name v hw)
 refine wpAny_bind (wpAny_lookBehind S8 (by rw[S9];exact pastItsLine_dict (Nat.le_trans Ta (by rw[List.length_cons];omega))) ?_)
 exact wpAny_pure (h _ ⟨(rW.2 _ (Ne.symm I.ne)).trans I.obj,Ru,I.ne⟩ rW)
theorem Dx {R:Result→Shared→Prop}{vs:List Value}{kw:List (Str×Value)}(X:K.In s.heap) (hm:PySem.W.makesIn K C=true)
  (hi:PySem.W.findIn K (.ref C) "__init__"=some (some (.ref f))) (hf:PySem.W.typeIn K (.ref f)=some (.type "function"))
  (h:codeAny (model prog w) (A.under (.builtin "type.__call__" ⟨.ref C::vs,kw⟩)) (.call (.ref f) ⟨.ref (s.heap.objs.size+1)::vs,kw⟩) (PySem.W.InitBack (s.heap.objs.size+1) R)
   { s with heap:=(s.heap.push PySem.W.emptyDict).push (PySem.W.instObj C s.heap.objs.size) }) :
  codeAny (model prog w) A (.call (.ref C) ⟨vs,kw⟩) R s:=by
 obtain⟨hh,g,d,t,os⟩:=s
 exact PySem.W.make_core (PySem.W.makes_of X hm) (PySem.W.looks_findIn X hi) (fun self=>PySem.W.bind_fn X self hf) (.inl rfl) h
end
noncomputable def gO (f:Str) (v:V):List (Str×V)→List (Str×V)
 | []=>[(f,v)]
 | (g,x)::r=>if g=f then (g,v)::r else (g,x)::gO f v r
theorem jL (f g:Str) (v:V):∀fs:List (Str×V),(gO f v fs).lookup g=if g=f then some v else fs.lookup g
 | []=>by
  show List.lookup g [(f,v)]=_
  by_cases h:g=f
  ·have hb:(g == f)=true:=beq_iff_eq.mpr h
   simp only[List.lookup,hb,if_pos h]
  ·have hb:(g == f)=false:=beq_eq_false_iff_ne.mpr h
   simp only[List.lookup,hb,if_neg h]
 | (k,x)::r=>by
  have ih:=jL f g v r
  rw[show gO f v ((k,x)::r)=(if k=f then (k,v)::r else (k,x)::gO f v r) from rfl]
  by_cases hk:k=f
  ·rw[if_pos hk]
   by_cases h:g=k
   ·have hb:(g == k)=true:=beq_iff_eq.mpr h
    simp only[List.lookup,hb,if_pos (h.trans hk)]
   ·have hb:(g == k)=false:=beq_eq_false_iff_ne.mpr h
    simp only[List.lookup,hb,if_neg (fun e:g=f=>h (e.trans hk.symm))]
  ·rw[if_neg hk]
   by_cases h:g=k
   ·have hb:(g == k)=true:=beq_iff_eq.mpr h
    simp only[List.lookup,hb,if_neg (fun e:g=f=>hk (h.symm.trans e))]
   ·have hb:(g == k)=false:=beq_eq_false_iff_ne.mpr h
    simp only[List.lookup,hb]
    exact ih
theorem nu (f:Str) (v:V):∀fs:List (Str×V),f∈(gO f v fs).map (·.1)∧∀g,g∈fs.map (·.1)→g∈(gO f v fs).map (·.1)
 | []=>⟨by simp[gO],fun g h=>by simp at h⟩
 | (k,x)::r=>by
  obtain⟨i1,i2⟩:=nu f v r
  rw[show gO f v ((k,x)::r)=(if k=f then (k,v)::r else (k,x)::gO f v r) from rfl]
  by_cases hk:k=f
  ·rw[if_pos hk]
   subst hk
   exact⟨by simp,fun g h=>by simpa using h⟩
  ·rw[if_neg hk]
   refine⟨?_,fun g h=>?_⟩
   ·rw[List.map_cons]
    exact mem_cons_of_mem _ i1
   ·rw[List.map_cons] at h ⊢
    rcases List.mem_cons.mp h with e|e
    ·exact List.mem_cons.mpr (.inl e)
    ·exact mem_cons_of_mem _ (i2 g e)
theorem om (f:Str) (v:V):∀fs:List (Str×V),(gO f v fs).length≤fs.length+1
 | []=>by simp[gO]
 | (k,x)::r=>by
  have ih:=om f v r
  rw[show gO f v ((k,x)::r)=(if k=f then (k,v)::r else (k,x)::gO f v r) from rfl]
  by_cases hk:k=f
  ·rw[if_pos hk,List.length_cons,List.length_cons];omega
  ·rw[if_neg hk,List.length_cons,List.length_cons];omega
theorem iC.some_of {v:V}{o:Option Value}(r:iC (some v) o):∃u,o=some u∧RelV v u:=by
 cases o with
 | none=>exact(show False from r).elim
 | some u=>exact⟨u,rfl,r⟩
theorem iC.none_of {o:Option Value}(r:iC none o):o=none:=by
 cases o with
 | none=>rfl
 | some u=>exact(show False from r).elim
theorem rX {v:V}{u:Value}(r:RelV v u):PySem.W.handedIn u=true:=by
 cases v with
 | cH=>cases (show u=Value.none from r);rfl
 | bl b=>cases (show u=Value.bool b from r);rfl
 | int i=>obtain⟨t,e⟩:=(show ∃t,u=Value.int i t from r);cases e;rfl
 | str x=>obtain⟨t,e⟩:=(show ∃t,u=Value.str x t from r);cases e;rfl
 | xZ b=>obtain⟨t,e⟩:=(show ∃t,u=Value.bytes b t from r);cases e;rfl
 | Ky b=>obtain⟨t,e⟩:=(show ∃t,u=Value.float b t from r);cases e;rfl
 | ref a=>cases (show u=Value.ref a from r);rfl
 | ty n=>cases (show u=Value.type n from r);rfl
section
variable {P:Program}{w:World}{H H':Hp}{h h':Heap}{a C dx:Addr}{fs GG:List (Str×V)}
theorem tw (aV:iB P w H h) (e:H a=some (.ins C dx fs)):∃mA,yi h a dx C mA∧(∀f,iC (fs.lookup f) (mA f))∧PySem.Within mA (fs.map (·.1))∧fs.length≤1000∧H dx=some (.own a):=by
 obtain⟨d,z,ne,ob,mA,n,r,q⟩:=(show bI P w H h a (.ins C dx fs) from aV a _ e)
 exact⟨mA,⟨ob,n,ne⟩,r,q,z,d⟩
structure qV (K:Frag) (C:Addr):Prop where
 pg:PySem.W.plainGet K C Str.empty=true
 hd:PySem.W.hasDictIn K C=true
 po:PySem.W.plainOver K C=true
 sa:PySem.W.findIn K (.ref C) "__setattr__"=some (some (.builtin "object.__setattr__"))
theorem qV.get {K:Frag}{C:Addr}(c:qV K C) (f:Str):PySem.W.plainGet K C f=true:=c.pg
def bz (K:Frag) (C:Addr) (f:Str):Prop:=PySem.W.findIn K (.ref C) f=some none
theorem bz.N8 {K:Frag}{C:Addr}{f:Str}(n:bz K C f):PySem.W.takerIn K C f=some none:=by
 unfold PySem.W.takerIn
 rw[show PySem.W.findIn K (.ref C) f=some none from n]
 rfl
structure Con (K:Frag) (C:Addr) (f:Str) (v:V) (u:Value):Prop where
 at_:PySem.W.findIn K (.ref C) f=some (some u)
 rel:RelV v u
 get:PySem.W.specialIn K u "__get__"=some none
 cp:PySem.W.copiedNames.contains f=false
structure Meth (K:Frag) (C:Addr) (m:Str) (f:Addr):Prop where
 at_:PySem.W.findIn K (.ref C) m=some (some (.ref f))
 fn:PySem.W.isFn K (.ref f)=true
 kp:keepIn K (.ref f)=true
variable {X:Cx}{π:List (Addr×Obj)}{σ:St}{s:Shared}{f:Str}{v:V}{A:Around}{E:Value→Shared→Prop}
theorem yj {b:Bool}{Q:Value→Shared→Prop}(I:Inv X π σ H s) (e:H a=some (.ins C dx fs)) (c:qV X.K C) (n:bz X.K C f) (l:fs.lookup f=some v)
  (h:∀u s',Inv X π σ H s'→RelV v u→Q u s'):wpAny (model X.prog X.w) A (getAttr (.ref a) f b) Q E s:=by
 obtain⟨mA,O,r,_,_,_⟩:=tw I.aV e
 obtain⟨u,hu,ru⟩:=iC.some_of (v:=v) (o:=mA f) (by rw[←l];exact r f)
 exact get_map I.oG O (c.get f) c.hd n hu (rX ru) (h u _ (I.tok _) ru)
theorem iR {m:Str}{g:Addr}{pl:Sem Bool}{Q:Value×List Value→Shared→Prop}(I:Inv X π σ H s) (e:H a=some (.ins C dx fs)) (c:qV X.K C) (k:Meth X.K C m g) (l:fs.lookup m=none)
  (h:Q (.ref g,[.ref a]) s):wpAny (model X.prog X.w) A (getMethod (.ref a) m pl) Q E s:=by
 obtain⟨mA,O,r,_,_,_⟩:=tw I.aV e
 have hn:mA m=none:=iC.none_of (by rw[←l];exact r m)
 exact Dw I.oG O (c.get m) k.at_ k.fn hn h
theorem yk {y:V}{u:Value}{Q:Unit→Shared→Prop}(I:Inv X π σ H s) (e:H a=some (.ins C dx fs)) (c:qV X.K C) (n:bz X.K C f) (hl:fs.length<1000) (ry:RelV y u)
  (h:∀s',Inv X π σ (upd H a (.ins C dx (gO f y fs))) s'→Q () s'):wpAny (model X.prog X.w) A (setAttr (.ref a) f u) Q E s:=by
 obtain⟨mA,O,r,wi,_,ho⟩:=tw I.aV e
 have hz:(fs.map (·.1)).length≤sizeLine:=by rw[length_map,sizeLine_eq];omega
 refine GR I.oG O c.sa c.po n.N8 c.hd wi hz fun h' O' sb=>h _ ?_
 have hd:∃o,h'.get? dx=some o:=let ⟨o,_,_,e',_⟩:=O'.ns;⟨o,e'⟩
 refine I.write (x:=a) (e:=dx) (by rw[e];exact True.intro) (.inr ho) (fun b q hb z=>(sb.2 b hb).trans z) hd ?_
 refine⟨by rw[aA O.ne];exact ho,?_,O.ne,O'.obj,_,O'.ns,fun g=>?_,fun g hg=>?_⟩
 ·have:=om f y fs;omega
 ·show iC ((gO f y fs).lookup g) (if g=f then some u else mA g)
  rw[jL]
  by_cases q:g=f
  ·rw[if_pos q,if_pos q];exact ry
  ·rw[if_neg q,if_neg q];exact r g
 ·by_cases q:g=f
  ·rw[q];exact(nu f y fs).1
  ·refine(nu f y fs).2 g (wi g fun z=>hg ?_)
   show (if g=f then some u else mA g)=none
   rw[if_neg q];exact z
theorem Inv.made (I:Inv X π σ H s):Inv X π σ (upd (upd H s.heap.objs.size (.own (s.heap.objs.size+1))) (s.heap.objs.size+1) (.ins C s.heap.objs.size []))
  { s with heap:=(s.heap.push PySem.W.emptyDict).push (PySem.W.instObj C s.heap.objs.size) }:=by
 have e1:(s.heap.push PySem.W.emptyDict).get? s.heap.objs.size=some PySem.W.emptyDict:=Heap.get?_push_size s.heap rfl
 have e2:((s.heap.push PySem.W.emptyDict).push (PySem.W.instObj C s.heap.objs.size)).get? (s.heap.objs.size+1)=some (PySem.W.instObj C s.heap.objs.size):=by
  have:=Heap.get?_push_size (s.heap.push PySem.W.emptyDict) (o:=PySem.W.instObj C s.heap.objs.size) rfl
  rwa [Heap.size_push] at this
 have e3:(s.heap.push PySem.W.emptyDict).Ns s.heap.objs.size (fun _=>none):=⟨PySem.W.emptyDict,#[],_,e1,rfl,(fun e he=>absurd he (by simp)),fun _=>rfl⟩
 have I1:=I.laid (a:=s.heap.objs.size) (o:=.own (s.heap.objs.size+1)) (h':=s.heap.push PySem.W.emptyDict) (t':=s.toks) (fun b u q=>Heap.get?_push_of_some _ q) (Nat.le_refl _) ⟨_,e1⟩
 refine I1.laid (a:=s.heap.objs.size+1) (o:=.ins C s.heap.objs.size []) (t':=s.toks) (fun b u q=>Heap.get?_push_of_some _ q) (Nat.le_of_eq (Heap.size_push _ _)) ?_
 have ne:s.heap.objs.size≠s.heap.objs.size+1:=Nat.ne_of_lt (Nat.lt_succ_self _)
 refine⟨by rw[aA ne,aj],Nat.zero_le _,ne,e2,fun _=>none,(Heap.Ns1.of_empty e3).at fun o q=>Heap.get?_push_of_some _ q,fun _=>True.intro,fun y hy=>absurd rfl hy⟩
theorem Ab {prog:Program}{w:World}{env:Env}{e:Expr}{f:Str}{pos:Pos}{s:Shared}{Q:Value→Shared→Prop}(hb:attributeBase e f env (eval e env)=eval e env)
  (h:wpAny (model prog w) A (eval e env) (fun o s₁=>wpAny (model prog w) A (getAttr o f true) Q E s₁) E s):wpAny (model prog w) A (eval (.Attribute e f pos) env) Q E s :=
 Attribute_any_ h (by rw[arm_eval_Attribute,hb])
def N9 (K:Frag) (ta:TE) (f:Str):TE:=fun σ H Q=>ta σ H fun x H1=>∃a C dx fs v,x = .ref a∧H1 a=some (.ins C dx fs)∧qV K C∧bz K C f∧fs.lookup f=some v∧Q v H1
def tCon (K:Frag) (ta:TE) (f:Str):TE:=fun σ H Q=>ta σ H fun x H1=>∃a C dx fs v u,x = .ref a∧H1 a=some (.ins C dx fs)∧qV K C∧Con K C f v u∧fs.lookup f=none∧Q v H1
def Oa (K:Frag) (ta tv:TE) (f:Str):TS:=fun D σ H=>tv σ H fun y H1=>ta σ H1 fun x H2=>∃a C dx fs,x = .ref a∧H2 a=some (.ins C dx fs)∧qV K C∧bz K C f∧fs.length<1000 ∧
 D.nx σ (upd H2 a (.ins C dx (gO f y fs)))
def InOp (X:Cx) (op:Operator) (rd:V→V→Hp→VK→Prop):Prop :=
 ∀(π:List (Addr×Obj)) (s:Shared) (σ:St) (H:Hp) (x y:V) (u v:Value) (Q:VK),Inv X π σ H s→RelV x u→RelV y v→rd x y H Q→wpAny (model X.prog X.w) X.A (inplaceOp op u v) (EP X π σ Q) X.xe s
def Rv (K:Frag) (ta tv:TE) (rd:V→V→Hp→VK→Prop) (f:Str):TS:=fun D σ H=>ta σ H fun x H1=>∃a C dx fs v,x = .ref a∧H1 a=some (.ins C dx fs)∧qV K C∧bz K C f∧fs.lookup f=some v ∧
 tv σ H1 fun y H2=>rd v y H2 fun z H3=>∃dx' GG,H3 a=some (.ins C dx' GG)∧GG.length<1000∧D.nx σ (upd H3 a (.ins C dx' (gO f z GG)))
variable {o:Expr}{e:Expr}{value:Expr}{pos:Pos}{pos':Pos}{tpos:Pos}{ta:TE}{tv:TE}
theorem KP (he:PE X e ta) (hb:attributeBase e f X.env (eval e X.env)=eval e X.env):PE X (.Attribute e f pos) (N9 X.K ta f):=by
 intro π s σ H Q I h
 refine Ab hb (bL (he π s σ H _ I h) fun u s1 ⟨x,H1,I1,rx,a,C,dx,fs,v,ex,ea,c,n,l,q⟩=>?_)
 subst ex
 obtain rfl:u=Value.ref a:=rx
 exact yj I1 ea c n l fun u' s2 I2 ru=>⟨v,H1,I2,ru,q⟩
theorem KQ (ha:PE X o ta) (hv:PE X value tv) (hs:swapsWith value (some (.Attribute o f pos')) pos.line X.env=pure false):PS X (.Assign [.Attribute o f pos'] value pos) (Oa X.K ta tv f):=by
 intro π s σ H D I h
 refine plainObj_wpAny_Assign_Attribute (bL (hv π s σ H _ I h) fun u s1 ⟨y,H1,I1,ry,q⟩=>bL (ha π s1 σ H1 _ I1 q) fun ov s2 ⟨x,H2,I2,rx,a,C,dx,fs,ex,ea,c,n,l,q2⟩=>?_) hs
 subst ex
 obtain rfl:ov=Value.ref a:=rx
 exact yk I2 ea c n l ry fun s3 I3=>⟨σ,_,I3,q2⟩
def rAdd:V→V→Hp→VK→Prop:=fun x y H Q=>∃i j,x = .int i∧y = .int j∧Q (.int (i+j)) H
def rSub:V→V→Hp→VK→Prop:=fun x y H Q=>∃i j,x = .int i∧y = .int j∧Q (.int (i-j)) H
theorem JM {pl:Sem Bool}{m:Str}{apos:Pos}{args:List Expr}{π:List (Addr×Obj)}{s:Shared}{σ:St}{H:Hp}{Q:Value→Shared→Prop}{te:TE}(he:PE X e te) (I:Inv X π σ H s)
  (h:te σ H fun x H1=>∃a C dx fs g,x = .ref a∧H1 a=some (.ins C dx fs)∧qV X.K C∧Meth X.K C m g∧fs.lookup m=none ∧
   ∀s1,Inv X π σ H1 s1→wpAny (model X.prog X.w) X.A (callWith pos (.ref g) [.ref a] (backTo pos (starEach args X.env)) (backToKw pos (keywordEach [] X.env))) Q X.xe s1)
  (ht:eval (.Call (.Attribute e m apos) args [] pos) X.env=(do
   let ov ←eval e X.env
   standAt apos.atName
   let (f,first) ←holding [ov] (getMethod ov m pl)
   callWith pos f first (backTo pos (starEach args X.env)) (backToKw pos (keywordEach [] X.env)))) :
  wpAny (model X.prog X.w) X.A (eval (.Call (.Attribute e m apos) args [] pos) X.env) Q X.xe s:=by
 refine PySem.W.methodCall_KW (pl:=pl) (bL (he π s σ H _ I h) fun u s1 ⟨x,H1,I1,rx,a,C,dx,fs,g,ex,ea,c,k,l,q⟩=>?_) ht
 subst ex
 obtain rfl:u=Value.ref a:=rx
 exact iR I1 ea c k l (q s1 I1)
variable {Q:Value→Shared→Prop}{c:Value}{b:Bool}
inductive oI (K:Frag) (H:Hp):V→Value→Prop where
 | cH:oI K H .cH (.type "NoneType")
 | bl (x:Bool):oI K H (.bl x) (.type "bool")
 | int (i:Int):oI K H (.int i) (.type "int")
 | str (x:Str):oI K H (.str x) (.type "str")
 | Ky (x:UInt64):oI K H (.Ky x) (.type "float")
 | lst {a:Addr}{xs:List V}(e:H a=some (.lst xs)):oI K H (.ref a) (.type "list")
 | ya {a:Addr}{o:Obj}{xs:List V}(e:H a=some (.ya o (.lst xs))):oI K H (.ref a) (.type "list")
 | tup {a:Addr}{xs:List V}(e:H a=some (.tup xs)):oI K H (.ref a) (.type "tuple")
 | dK {a:Addr}{aB:List (Key×V)}(e:H a=some (.dK aB)):oI K H (.ref a) (.type "dict")
 | dT {a:Addr}{aB:List (List Key×V)}(e:H a=some (.dT aB)):oI K H (.ref a) (.type "dict")
 | ins {a C dx:Addr}{fs:List (Str×V)}(e:H a=some (.ins C dx fs)) (cl:qV K C) (ha:PySem.W.findIn K (.ref C) "__class__"=some (some (.builtin "object.__class__")))
   (hn:PySem.W.specialIn K (.builtin "object.__class__") "__get__"=some (some (.builtin "getset_descriptor.__get__"))) (htk:PySem.W.takesIn K (.builtin "object.__class__")=some true)
   (hm:PySem.W.mroIn K C (.type "object")=some true):oI K H (.ref a) (.ref C)
structure bF (k:Nat) (A:Around):Prop where
 hd:A.handled=none
 gd:A.guards=some []
 dp:A.depth+3*k+5<recursionLimit
 un:A.units+16*k+200<cLine
theorem bF.mono {j k:Nat}{A:Around}(r:bF k A) (h:j≤k):bF j A:=⟨r.hd,r.gd,by have:=r.dp;omega,by have:=r.un;omega⟩
theorem bF.deeper {k:Nat}{A:Around}(r:bF (k+1) A) (env:Env):bF k (A.deeper env) :=
 ⟨r.hd,r.gd,by have:=r.dp;show A.depth+1+3*k+5<_;omega,by have:=r.un;show A.units+3+16*k+200<_;omega⟩
theorem bF.in1 {k:Nat}{A:Around}(r:bF (k+1) A):bF k A.in1 :=
 ⟨r.hd,r.gd,by have:=r.dp;show A.depth+3*k+5<_;omega,by have:=r.un;show A.units+1+16*k+200<_;omega⟩
theorem yl {A:Around}{C:Addr}{us:List Value}{kw:List (Str×Value)}:(A.under (.builtin "type.__call__" ⟨.ref C::us,kw⟩)).depth=A.depth+1:=by
 first|rfl|simp[Around.under,Code.weight,Code.isCreation,Code.isGuard,Code.isCaller,Code.frames,Code.isFrame,guardIds]
theorem yn {A:Around}{C:Addr}{us:List Value}{kw:List (Str×Value)}:(A.under (.builtin "type.__call__" ⟨.ref C::us,kw⟩)).units=A.units+1:=by
 first|rfl|simp[Around.under,Code.cUnits,Code.frames,Code.isFrame]
theorem vX {A:Around}{C:Addr}{us:List Value}{kw:List (Str×Value)}:(A.under (.builtin "type.__call__" ⟨.ref C::us,kw⟩)).guards=A.guards:=by
 cases hA:A.guards<;>simp[Around.under,hA,pushGuards,Code.guards,Code.isGuard,guardIds]
theorem bF.make {k:Nat}{A:Around}(r:bF (k+1) A) (C:Addr) (us:List Value) (kw:List (Str×Value)):bF k (A.under (.builtin "type.__call__" ⟨.ref C::us,kw⟩)) :=
 ⟨r.hd,by rw[vX];exact r.gd,by have:=r.dp;rw[yl];omega,by have:=r.un;rw[yn];omega⟩
theorem bF.depth {k:Nat}{A:Around}(r:bF k A):A.depth<recursionLimit:=by have:=r.dp;omega
theorem bF.yo {k:Nat}{A:Around}(r:bF k A):A.units<cLine:=by have:=r.un;omega
def GS:TA:=fun _ H Q=>Q [] H
def JN (ta:TE) (tr:TA):TA:=fun σ H Q=>ta σ H fun x H1=>tr σ H1 fun xs H2=>Q (x::xs) H2
variable {es:List Expr}{te:TE}{t:TA}
theorem ah:PA X [] GS:=fun _ _ _ _ H Q I h=>Calls.spliced_nil ⟨[],H,I,.nil,h⟩
theorem aa (ha:PE X e te) (hr:PA X es t) (hs:starEach (e::es) X.env=(false,eval e X.env)::starEach es X.env:=by rfl):PA X (e::es) (JN te t):=by
 intro pos π s σ H Q I h
 rw[hs]
 show wpAny _ _ (spliced ((false,eval e X.env)::backTo pos (starEach es X.env))) _ _ s
 refine Calls.spliced_cons (bL (ha π s σ H _ I h) fun u s1 ⟨x,H1,I1,r1,q1⟩=>?_)
 exact bL (hr pos π s1 σ H1 _ I1 q1) fun us s2 ⟨xs,H2,I2,r2,q2⟩=>⟨x::xs,H2,I2,.cons r1 r2,q2⟩
def Ob (t:TA):TE:=fun σ H Q=>t σ H fun xs H1=>xs.length≤sizeLine∧∀p,H1 p=none→Q (.ref p) (upd H1 p (.tup xs))
def Oc (t:TA):TE:=fun σ H Q=>t σ H fun xs H1=>xs.length≤sizeLine∧∀p,H1 p=none→Q (.ref p) (upd H1 p (.lst xs))
theorem aU {x1}(h:PA X es t):PE X (.Tuple es x1 pos) (Ob t):=by
 intro π s σ H Q I hq
 refine wpAny_Tuple_spliced (bL (h pos π s σ H _ I hq) fun us s1 ⟨xs,H1,I1,r,z,q⟩=>⟨by rw[←r.length];exact z,?_⟩)
 have hf:H1 s1.heap.objs.size=none:=I1.aV.fresh (Nat.le_refl _)
 refine⟨.ref s1.heap.objs.size,upd H1 s1.heap.objs.size (.tup xs),I1.laid (t':=s1.toks) (fun b u e=>Heap.get?_push_of_some _ e) (Nat.le_refl _) ?_,rfl,q _ hf⟩
 exact⟨z,us,r,⟨_,Heap.get?_push_size _ rfl,rfl,_,rfl⟩⟩
theorem gB (h:PA X es t):PE X (.List es pos) (Oc t):=by
 intro π s σ H Q I hq
 refine wpAny_List_spliced (bL (h pos π s σ H _ I hq) fun us s1 ⟨xs,H1,I1,r,z,q⟩=>⟨by rw[←r.length];exact z,?_⟩)
 have hf:H1 s1.heap.objs.size=none:=I1.aV.fresh (Nat.le_refl _)
 refine⟨.ref s1.heap.objs.size,upd H1 s1.heap.objs.size (.lst xs),I1.laid (t':=s1.toks) (fun b u e=>Heap.get?_push_of_some _ e) (Nat.le_refl _) ?_,rfl,q _ hf⟩
 exact⟨z,us,0,r,Heap.get?_push_size _ rfl⟩
abbrev Sp:=List V→Hp→VK→XK→Prop
abbrev Ac:=List Env→Hp→Shared→XK→Value→Shared→Prop
structure qW (P:Program) (w:World) (K:Frag) (mg:Str→Option Value) (base:Heap) (A:Around) (outer:List Env) (s:Shared) (H:Hp):Prop where
 frames:A.frames=some outer
 mod:Mod K mg base
 bs:∀b o,base.get? b=some o→s.heap.get? b=some o∧H b=none
 vN:base.objs.size≤s.heap.objs.size
 jC:s.heap.FunFrames base outer
 CJ:∀b∈nk outer,H b=none
 aV:iB P w H s.heap
 bare:AllBare s.gens
def CE (outer:List Env) (P:Program) (w:World) (H:Hp) (s:Shared) (Q:VK) (u:Value) (s':Shared):Prop :=
 ∃v H',s'.os=s.os∧AllBare s'.gens∧Un (nk outer) [] H H' s.heap s'.heap∧iB P w H' s'.heap∧RelV v u∧Q v H'
def CR (CX:Ac) (outer:List Env) (P:Program) (w:World) (H:Hp) (s:Shared) (Q:VK) (E:XK) (r:Result) (s':Shared):Prop :=
 match r with
 | .ok (.ret u)=>CE outer P w H s Q u s'
 | .ok _=>False
 | .error e=>CX outer H s E e s'
structure fj (P:Program) (w:World) (K:Frag) (mg:Str→Option Value) (base:Heap) (CX:Ac) (k:Nat) (f:Addr) (fd:FuncData) (ps:List Str) (sp:Sp):Prop where
 len:∀vs H Q E,sp vs H Q E→vs.length=ps.length
 run:∀(A:Around) (outer:List Env) (s:Shared) (H:Hp) (args:Args) (us:List Value) (vs:List V) (Q:VK) (E:XK),bF k A→qW P w K mg base A outer s H→BindsTo s fd args (ps.zip us)→Vals vs us→sp vs H Q E →
  codeAny (model P w) A (.call (.ref f) args) (CR CX outer P w H s Q E) s
theorem qW.make {P:Program}{w:World}{K:Frag}{mg:Str→Option Value}{base:Heap}{A:Around}{outer:List Env}{s:Shared}{H:Hp}(e:qW P w K mg base A outer s H) (C:Addr) (us:List Value) (kw:List (Str×Value)) :
  qW P w K mg base (A.under (.builtin "type.__call__" ⟨.ref C::us,kw⟩)) outer s H:=⟨by first|exact e.frames|(simpa[Around.under,Code.envs,Code.isFrame,pushEnvs] using e.frames),e.mod,e.bs,e.vN,e.jC,e.CJ,e.aV,e.bare⟩
theorem qW.in1 {P:Program}{w:World}{K:Frag}{mg:Str→Option Value}{base:Heap}{A:Around}{outer:List Env}{s:Shared}{H:Hp}(e:qW P w K mg base A outer s H) :
  qW P w K mg base A.in1 outer s H:=⟨e.frames,e.mod,e.bs,e.vN,e.jC,e.CJ,e.aV,e.bare⟩
variable {s':Shared}
theorem Inv.BC (I:Inv X π σ H s):qW X.prog X.w X.K X.mg X.base X.A X.stack s H :=
 ⟨I.ok.frames,I.ok.mod,I.bs,Nat.le_trans I.ok.vN I.sz,I.stack,I.oQ,I.aV,I.bare⟩
theorem Inv.after {Q:VK}{u:Value}(I:Inv X π σ H s) (h:CE X.stack X.prog X.w H s Q u s'):EP X π σ Q u s':=by
 obtain⟨v,H',os,bare,un,aV,r,q⟩:=h
 obtain⟨hh,g,d,t,os'⟩:=s'
 obtain rfl:os'=s.os:=os
 exact⟨v,H',I.call (h':=hh) (g':=g) (d':=d) (t':=t) (ch:=[]) un aV bare (fun b z=>absurd z (by simp)),r,q⟩
end
def Dy (sp:Sp) (ni:List V) (E:XK) (t:TA):TE:=fun σ H Q=>t σ H fun vs H1=>sp (vs++ni) H1 Q E
def Ad (C:Addr) (m:Str) (sp:Sp) (ni:List V) (E:XK) (ta:TE) (t:TA):TE:=fun σ H Q=>ta σ H fun x H1=>∃a dx fs,x = .ref a∧H1 a=some (.ins C dx fs)∧fs.lookup m=none ∧
 t σ H1 fun vs H2=>sp (x::(vs++ni)) H2 Q E
def JO (C:Addr) (sp:Sp) (ni:List V) (E:XK) (t:TA):TE:=fun σ H Q=>t σ H fun vs H1=>∀x dx,H1 x=none→H1 dx=none→dx≠x →
 sp (.ref x::(vs++ni)) (upd (upd H1 dx (.own x)) x (.ins C dx [])) (fun v H2=>v = .cH∧Q (.ref x) H2) E
def Binds (K:Frag) (fd:FuncData) (ps:List Str) (ds:List Value):Prop :=
 ∀(s:Shared) (us:List Value),K.In s.heap→(us++ds).length=ps.length→BindsTo s fd ⟨us,[]⟩ (ps.zip (us++ds))
theorem Binds.all {K:Frag}{fd:FuncData}{ps:List Str}(h:∀us:List Value,us.length=ps.length→bindArgs fd ⟨us,[]⟩=pure (ps.zip us)):Binds K fd ps []:=fun s us _ hl=>by
 rw[List.append_nil] at hl ⊢
 exact .of_eq (h us hl)
def Passes (CX:Ac) (X:Cx) (E:XK):Prop:=∀(π:List (Addr×Obj)) (σ:St) (H:Hp) (s:Shared) (e:Value) (s':Shared),Inv X π σ H s→CX X.stack H s E e s'→X.xe e s'
section
variable {X:Cx}{CX:Ac}{k:Nat}{f C:Addr}{fd:FuncData}{ps:List Str}{sp:Sp}{ni:List V}{ds:List Value}{E:XK}{x m:Str}{p pos apos:Pos}{e o:Expr}{es:List Expr}{ta:TE}{t:TA}
theorem yp {π:List (Addr×Obj)}{σ:St}{H:Hp}{s:Shared}{Q:VK}{us:List Value}{vs:List V}(F:fj X.prog X.w X.K X.mg X.base CX k f fd ps sp) (hr:bF k X.A) (hb:Binds X.K fd ps ds) (hd:Vals ni ds) (hx:Passes CX X E)
  (I:Inv X π σ H s) (r:Vals vs us) (h:sp (vs++ni) H Q E):wpAny (model X.prog X.w) X.A (call (.ref f) us) (EP X π σ Q) X.xe s:=by
 have r2:Vals (vs++ni) (us++ds):=r.append hd
 have hl:(us++ds).length=ps.length:=by rw[←r2.length];exact F.len _ _ _ _ h
 refine wpAny_call (codeAny_mono (F.run X.A X.stack s H ⟨us,[]⟩ (us++ds) (vs++ni) Q E hr I.BC (hb s us I.oG hl) r2 h) fun r s' hq=>?_)
 cases r with
 | error e=>exact hx π σ H s e s' I hq
 | ok fl =>
  cases fl with
  | ret u=>exact I.after hq
  | next=>exact False.elim hq
  | brk=>exact False.elim hq
  | cont=>exact False.elim hq
theorem Ae (F:fj X.prog X.w X.K X.mg X.base CX k f fd ps sp) (hr:bF k X.A) (hg:Gl X x) (hm:X.mg x=some (.ref f)) (hk:keepIn X.K (.ref f)=true) (hb:Binds X.K fd ps ds) (hd:Vals ni ds) (hx:Passes CX X E)
  (ha:PA X (e::es) t) (oJ:(x == ("__debug__":Str))=false:=by decide) (he:starEach (e::es) X.env=(false,eval e X.env)::starEach es X.env:=by rfl) (lq:(backTo pos (starEach es X.env)).any (·.1)=false:=by rfl) :
  PE X (.Call (.Name x p) (e::es) [] pos) (Dy sp ni E t):=by
 intro π s σ H Q I h
 refine wpAny_Call_Name_kw (gR I hg hm ?_ oJ)
 refine PySem.W.callWith_K (h₀:=X.base) I.ok.mod.C8 hk (bL (ha pos π s σ H _ I h) fun us s1 ⟨vs,H1,I1,r,q⟩=>⟨I1.oG,?_⟩) he lq
 exact yp F hr hb hd hx I1 r q
theorem GU {pl:Sem Bool}(he:PE X o ta) (c:qV X.K C) (hm:Meth X.K C m f) (F:fj X.prog X.w X.K X.mg X.base CX k f fd ps sp) (hr:bF k X.A) (hb:Binds X.K fd ps ds) (hd:Vals ni ds) (hx:Passes CX X E) (ha:PA X (e::es) t)
  (Dh:starEach (e::es) X.env=(false,eval e X.env)::starEach es X.env:=by rfl) (lq:(backTo pos (starEach es X.env)).any (·.1)=false:=by rfl)
  (ht:eval (.Call (.Attribute o m apos) (e::es) [] pos) X.env=(do
   let ov ←eval o X.env
   standAt apos.atName
   let (f,first) ←holding [ov] (getMethod ov m pl)
   callWith pos f first (backTo pos (starEach (e::es) X.env)) (backToKw pos (keywordEach [] X.env))):=by rfl) :
  PE X (.Call (.Attribute o m apos) (e::es) [] pos) (Ad C m sp ni E ta t):=by
 intro π s σ H Q I h
 refine PySem.W.methodCall_KW (pl:=pl) (bL (he π s σ H _ I h) fun u s1 ⟨x,H1,I1,rx,a,dx,fs,ex,ea,l,q⟩=>?_) ht
 subst ex
 obtain rfl:u=Value.ref a:=rx
 refine iR I1 ea c hm l ?_
 refine PySem.W.callWith_K (first:=[.ref a]) (h₀:=X.base) I.ok.mod.C8 hm.kp (bL (ha pos π s1 σ H1 _ I1 q) fun us s2 ⟨vs,H2,I2,r,q2⟩=>⟨I2.oG,?_⟩) Dh lq
 exact yp (us:=.ref a::us) (vs:=.ref a::vs) F hr hb hd hx I2 (.cons rfl r) q2
theorem Dz {pl:Sem Bool}(he:PE X o ta) (c:qV X.K C) (hm:Meth X.K C m f) (F:fj X.prog X.w X.K X.mg X.base CX k f fd ps sp) (hr:bF k X.A) (hb:Binds X.K fd ps ds) (hd:Vals ni ds) (hx:Passes CX X E)
  (ht:eval (.Call (.Attribute o m apos) [] [] pos) X.env=(do
   let ov ←eval o X.env
   standAt apos.atName
   let (f,first) ←holding [ov] (getMethod ov m pl)
   callWith pos f first (backTo pos (starEach [] X.env)) (backToKw pos (keywordEach [] X.env))):=by rfl) :
  PE X (.Call (.Attribute o m apos) [] [] pos) (Ad C m sp ni E ta GS):=by
 intro π s σ H Q I h
 refine PySem.W.methodCall_KW (pl:=pl) (bL (he π s σ H _ I h) fun u s1 ⟨x,H1,I1,rx,a,dx,fs,ex,ea,l,q⟩=>?_) ht
 subst ex
 obtain rfl:u=Value.ref a:=rx
 refine iR I1 ea c hm l ?_
 exact PySem.W.callWith_K0 (first:=[.ref a]) I1.oG hm.kp (yp (us:=[.ref a]) (vs:=[.ref a]) F hr hb hd hx I1 (.cons rfl .nil) q)
structure Mk (K:Frag) (C f:Addr):Prop where
 makes:PySem.W.makesIn K C=true
 init:PySem.W.findIn K (.ref C) "__init__"=some (some (.ref f))
 fn:PySem.W.isFn K (.ref f)=true
 kp:keepIn K (.ref C)=true
theorem DA {π:List (Addr×Obj)}{σ:St}{H:Hp}{s:Shared}{Q:VK}{us:List Value}{vs:List V}(M:Mk X.K C f) (F:fj X.prog X.w X.K X.mg X.base CX k f fd ps sp) (hr:bF (k+1) X.A) (hb:Binds X.K fd ps ds) (hd:Vals ni ds)
  (hx:Passes CX X E) (I:Inv X π σ H s) (r:Vals vs us)
  (h:∀x dx,H x=none→H dx=none→dx≠x→sp (.ref x::(vs++ni)) (upd (upd H dx (.own x)) x (.ins C dx [])) (fun v H2=>v = .cH∧Q (.ref x) H2) E) :
  wpAny (model X.prog X.w) X.A (call (.ref C) us) (EP X π σ Q) X.xe s:=by
 have hq:=h (s.heap.objs.size+1) s.heap.objs.size (I.aV.fresh (Nat.le_succ _)) (I.aV.fresh (Nat.le_refl _)) (Nat.ne_of_lt (Nat.lt_succ_self _))
 have I2:=Inv.made (C:=C) I
 have r2:Vals (V.ref (s.heap.objs.size+1)::(vs++ni)) (Value.ref (s.heap.objs.size+1)::(us++ds)):=.cons rfl (r.append hd)
 have hl:(Value.ref (s.heap.objs.size+1)::us++ds).length=ps.length:=by
  have e:=r2.length
  rw[F.len _ _ _ _ hq] at e
  exact e.symm
 refine wpAny_call (Dx (f:=f) I.oG M.makes M.init (beq_iff_eq.mp M.fn) (codeAny_mono (F.run _ X.stack _ _ ⟨Value.ref (s.heap.objs.size+1)::us,[]⟩ (Value.ref (s.heap.objs.size+1)::(us++ds)) _ _ E (hr.make C us [])
  (I2.BC.make C us []) (hb _ (Value.ref (s.heap.objs.size+1)::us) I2.oG hl) r2 hq) fun r s' pj=>?_))
 cases r with
 | error e=>exact hx π σ _ _ e s' I2 pj
 | ok fl =>
  cases fl with
  | ret u =>
   obtain⟨v,H',I3,rv,ev,q3⟩:=I2.after pj
   subst ev
   exact⟨rv,⟨V.ref (s.heap.objs.size+1),H',I3,rfl,q3⟩⟩
  | next=>exact False.elim pj
  | brk=>exact False.elim pj
  | cont=>exact False.elim pj
theorem GV (M:Mk X.K C f) (F:fj X.prog X.w X.K X.mg X.base CX k f fd ps sp) (hr:bF (k+1) X.A) (hg:Gl X x) (hm:X.mg x=some (.ref C)) (hb:Binds X.K fd ps ds) (hd:Vals ni ds) (hx:Passes CX X E)
  (ha:PA X (e::es) t) (oJ:(x == ("__debug__":Str))=false:=by decide) (he:starEach (e::es) X.env=(false,eval e X.env)::starEach es X.env:=by rfl) (lq:(backTo pos (starEach es X.env)).any (·.1)=false:=by rfl) :
  PE X (.Call (.Name x p) (e::es) [] pos) (JO C sp ni E t):=by
 intro π s σ H Q I h
 refine wpAny_Call_Name_kw (gR I hg hm ?_ oJ)
 refine PySem.W.callWith_K (h₀:=X.base) I.ok.mod.C8 M.kp (bL (ha pos π s σ H _ I h) fun us s1 ⟨vs,H1,I1,r,q⟩=>⟨I1.oG,?_⟩) he lq
 exact DA M F hr hb hd hx I1 r q
end
def PK (X:Cx) (kws:List Keyword) (t:TA):Prop :=
 ∀(pos:Pos) (π:List (Addr×Obj)) (s:Shared) (σ:St) (H:Hp) (Q:List V→Hp→Prop),Inv X π σ H s→t σ H Q→wpAny (model X.prog X.w) X.A (evalAll ((backToKw pos (keywordEach kws X.env)).map (·.2))) (AP X π σ Q) X.xe s
section
variable {X:Cx}{CX:Ac}{k:Nat}{f C:Addr}{fd:FuncData}{ps ks:List Str}{sp:Sp}{E:XK}{x m:Str}{p pos apos GW:Pos}{e o:Expr}{es:List Expr}{kws:List Keyword}{te ta:TE}{t tk:TA}{nm:Option Str}
structure Tc (K:Frag) (fd:FuncData) (ps ks:List Str) (g:List Value→List Value→List Value) (gV:List V→List V→List V):Prop where
 to:∀(s:Shared) (us ws:List Value),K.In s.heap→(g us ws).length=ps.length→BindsTo s fd ⟨us,ks.zip ws⟩ (ps.zip (g us ws))
 rel:∀{vs:List V}{us:List Value}{zs:List V}{ws:List Value},Vals vs us→Vals zs ws→Vals (gV vs zs) (g us ws)
def Td (sp:Sp) (gV:List V→List V→List V) (E:XK) (t tk:TA):TE:=fun σ H Q=>t σ H fun vs H1=>tk σ H1 fun zs H2=>sp (gV vs zs) H2 Q E
variable {g:List Value→List Value→List Value}{gV:List V→List V→List V}
end
structure aw (N P:List Str) (sc:Scope):Prop where
 kind:sc.kind = .function
 co:sc.isCoroutine=false
 gen:sc.isGenerator=false
 nd:N.Nodup
 pre:N.take P.length=P
 par:∀x∈P,sc.names.lookup x=some .local ∨ sc.names.lookup x=some .cell
 KR:∀y∈sc.names,y.2≠.free
theorem eX {N P:List Str}{sc:Scope}(a:sc.kind = .function:=by rfl) (b:sc.isCoroutine=false:=by rfl) (c:sc.isGenerator=false:=by rfl) (d:N.Nodup:=by decide +kernel) (e:N.take P.length=P:=by rfl) (f:∀x∈P,sc.names.lookup x=some .local ∨ sc.names.lookup x=some .cell:=by decide +kernel) (g:∀y∈sc.names,y.2≠.free:=by decide +kernel):aw N P sc:=⟨a,b,c,d,e,f,g⟩
theorem rY {kindOf:Str→Option NameKind}{x:Str}:∀{binds:List (Str×Value)}{m:Str→Option Value},(∀v,(x,v)∉binds)→bindL kindOf binds m x=m x
 | [],_,_=>rfl
 | (n,v)::r,m,h=>by
  unfold bindL
  rw[rY fun w hw=>h w (mem_cons_of_mem _ hw)]
  split
  ·have:x≠n:=by rintro rfl;exact h v mem_cons_self
   simp[this]
  ·rfl
theorem rZ {kindOf:Str→Option NameKind}{x:Str}:∀{binds:List (Str×Value)}{m:Str→Option Value},(∀v,(x,v)∉binds)→bindC kindOf binds m x=m x
 | [],_,_=>rfl
 | (n,v)::r,m,h=>by
  unfold bindC
  rw[rZ fun w hw=>h w (mem_cons_of_mem _ hw)]
  split
  ·rfl
  ·have:x≠n:=by rintro rfl;exact h v mem_cons_self
   simp[this]
theorem r6 {kindOf:Str→Option NameKind}{x:Str}{v:Value}:∀{P:List Str}{vs:List Value}{i:Nat}{m:Str→Option Value},P.Nodup→P[i]?=some x→vs[i]?=some v→kindOf x=some .local →
  bindL kindOf (P.zip vs) m x=some v
 | [],_,_,_,_,h,_,_=>by simp at h
 | _::_,[],_,_,_,_,h,_=>by simp at h
 | p::P,w::vs,0,m,nd,h1,h2,hk=>by
  simp at h1 h2;subst h1;subst h2
  show bindL kindOf ((p,w)::P.zip vs) m p=_
  unfold bindL
  rw[rY fun v hv=>(List.nodup_cons.mp nd).1 (List.of_mem_zip hv).1,if_pos hk]
  simp
 | p::P,w::vs,i+1,m,nd,h1,h2,hk=>by
  show bindL kindOf ((p,w)::P.zip vs) m x=_
  unfold bindL
  exact r6 (i:=i) (List.nodup_cons.mp nd).2 (by simpa using h1) (by simpa using h2) hk
theorem r9 {kindOf:Str→Option NameKind}{x:Str}{v:Value}:∀{P:List Str}{vs:List Value}{i:Nat}{m:Str→Option Value},P.Nodup→P[i]?=some x→vs[i]?=some v→kindOf x≠some .local →
  bindC kindOf (P.zip vs) m x=some v
 | [],_,_,_,_,h,_,_=>by simp at h
 | _::_,[],_,_,_,_,h,_=>by simp at h
 | p::P,w::vs,0,m,nd,h1,h2,hk=>by
  simp at h1 h2;subst h1;subst h2
  show bindC kindOf ((p,w)::P.zip vs) m p=_
  unfold bindC
  rw[rZ fun v hv=>(List.nodup_cons.mp nd).1 (List.of_mem_zip hv).1,if_neg hk]
  simp
 | p::P,w::vs,i+1,m,nd,h1,h2,hk=>by
  show bindC kindOf ((p,w)::P.zip vs) m x=_
  unfold bindC
  exact r9 (i:=i) (List.nodup_cons.mp nd).2 (by simpa using h1) (by simpa using h2) hk
noncomputable def start (N:List Str) (vs:List V):St:=vs.map some++List.replicate (N.length-vs.length) none
noncomputable def lr (CX:Ac) (P:Program) (w:World) (K:Frag) (mg:Str→Option Value) (base:Heap) (N:List Str) (qual:Str) (scope:Scope) (f:Addr) (cd:Value) (A:Around) (outer:List Env) (s:Shared) (H:Hp) (E:XK):Cx where
 prog:=P
 w:=w
 K:=K
 mg:=mg
 base:=base
 A:=A.deeper (envOfC qual scope s.heap.objs.size f cd)
 N:=N
 s₀:=s
 H₀:=H
 env:=envOfC qual scope s.heap.objs.size f cd
 outer:=outer
 stack:=envOfC qual scope s.heap.objs.size f cd::outer
 ex:=[]
 calm:=true
 fn:=fun _=>true
 pn:=[]
 xe:=fun e s'=>wpAny (model P w) (A.deeper (envOfC qual scope s.heap.objs.size f cd)) (leaving (envOfC qual scope s.heap.objs.size f cd) e) (fun _ KS=>CX outer H s E e KS) (fun e' KS=>CX outer H s E e' KS) s'
theorem vY {sc:Scope}{n:Nat}{x:Str}(h:sc.names.lookup x=some .cell):∃c,(cellsFrom n sc.names []).lookup x=some c:=by
 have q:=PySem.W.cellsFrom_some sc.names n [] (.inl h)
 exact Option.isSome_iff_exists.mp q
theorem BD {CX:Ac}{P:Program}{w:World}{K:Frag}{mg:Str→Option Value}{base:Heap}{N ps:List Str}{qual:Str}{scope:Scope}{f:Addr}{cd:Value}{A:Around}{outer:List Env}{s s1:Shared}{H:Hp}{E:XK}{us:List Value}{vs:List V}
  (S:aw N ps scope) (hd:A.handled=none) (e0:qW P w K mg base A outer s H) (hl:vs.length=ps.length) (r:Vals vs us)
  (x:InCallC s s.heap.objs.size (bindL (envOfC qual scope s.heap.objs.size f cd).kindOf (ps.zip us) fun _=>none) (cellsFrom (s.heap.objs.size+1) scope.names []) (bindC (envOfC qual scope s.heap.objs.size f cd).kindOf (ps.zip us) fun _=>none) s1) :
  Inv (lr CX P w K mg base N qual scope f cd A outer s H E) [] (start N vs) H s1:=by
 have lq:ps.length≤N.length:=by have:=congrArg List.length S.pre;rw[length_take] at this;omega
 obtain⟨h1,tk,rfl,hk⟩:=x.done
 have Od:∀b:Addr,b∉(lr CX P w K mg base N qual scope f cd A outer s H E).ex:=fun b z=>absurd (show b∈([]:List Addr) from z) (by simp)
 refine⟨⟨e0.mod,S.kind,rfl,rfl,Nat.le_refl _,fun y z c h1 h2=>?_,fun y hy=>?_,fun y c _ h=>?_,fun _=>hd,Around.frames_deeper e0.frames,.inr ⟨rfl,rfl⟩,fun b z=>absurd z (Od b),e0.bs,e0.vN,fun b _ _=>Od b,fun b z=>absurd z (Od b),e0.jC,e0.CJ⟩,
  rfl,e0.bare,Un.kept hk,⟨_,x.toInCall.ns,fun i y v h1 h2 h3=>?_⟩,fun y c h=>⟨_,x.cell y c h⟩,e0.aV.fresh (Nat.le_refl _),fun y c h=>?_,fun p hp=>absurd (show p∈([]:List (Addr×Obj)) from hp) (by simp),e0.aV.kept hk,?_⟩
 ·exact name_of_addr x.apart (PySem.mem_of_lookup h1) (PySem.mem_of_lookup h2)
 ·have hy:scope.names.lookup y=some .cell∨scope.names.lookup y=some .free:=hy
  rcases hy with hy|hy
  ·exact vY hy
  ·exact absurd rfl (S.KR _ (PySem.mem_of_lookup hy))
 ·exact Nat.le_of_lt (x.above y c (PySem.mem_of_lookup h))
 ·have hi:i<vs.length:=by
   unfold start at h2
   by_cases hi:i<vs.length
   ·exact hi
   ·rw[getElem?_append_right (by simpa using hi)] at h2
    rw[List.getElem?_replicate] at h2
    split at h2<;>cases h2
  have ha:vs[i]?=some v:=by
   unfold start at h2
   rw[getElem?_append_left (by simpa using hi),getElem?_map] at h2
   cases e:vs[i]? with
   | none=>rw[e] at h2;cases h2
   | some a=>rw[e] at h2;cases h2;rfl
  obtain⟨u,hu,rv⟩:=r.get ha
  have hp:ps[i]?=some y:=by
   rw[←S.pre,List.getElem?_take_of_lt (by omega)];exact h1
  have ndP:ps.Nodup:=by rw[←S.pre];exact S.nd.sublist (List.take_sublist _ _)
  refine⟨u,rv,?_⟩
  rcases S.par y (mem_of_getElem? hp) with k|k
  ·exact .inl ⟨k,r6 ndP hp hu k⟩
  ·obtain⟨c,e⟩:=vY (n:=s.heap.objs.size+1) k
   refine .inr ⟨.inl k,c,e,?_⟩
   have q:=x.cell y c e
   rw[r9 ndP hp hu (by show scope.names.lookup y≠_;rw[k];decide)] at q
   exact q
 ·exact e0.aV.fresh (Nat.le_of_lt (x.above y c (PySem.mem_of_lookup h)))
 ·unfold start
  show _=N.length
  rw[length_append,length_map,length_replicate]
  omega
theorem DB {CX:Ac}{P:Program}{w:World}{K:Frag}{mg:Str→Option Value}{base:Heap}{k:Nat}{f:Addr}{name qual:Str}{params:Arguments}{body:List Stmt}{scope:Scope}{dV kV doc pm aR ct oc:Value}{an od:Option Addr}
  {nv:Array (Option Value)}{N ps:List Str}{sp:Sp}(lk:K.lookup f=some ⟨oc,od,.func (fnOf name qual params body scope dV kV doc pm an aR ct),nv⟩) (vQ:codeIn K aR qual=true) (S:aw N ps scope)
  (len:∀vs H Q E,sp vs H Q E→vs.length=ps.length)
  (fP:∀(A:Around) (outer:List Env) (s:Shared) (H:Hp) (vs:List V) (Q:VK) (E:XK),bF k (A.deeper (envOfC qual scope s.heap.objs.size f aR))→sp vs H Q E →
   ∃t,oH (lr CX P w K mg base N qual scope f aR A outer s H E) body t∧t { nx:=fun _ H'=>Q .cH H',rt:=Q } (start N vs) H) :
  fj P w K mg base CX (k+1) f (fnOf name qual params body scope dV kV doc pm an aR ct) ps sp:=by
 refine⟨len,fun A outer s H args us vs Q E hr e0 hb r CQ=>?_⟩
 have hl:=len _ _ _ _ CQ
 have KX:K.In s.heap:=e0.mod.C8.keeps fun b o e=>(e0.bs b o e).1
 have lim:s.heap.NoLimit:=e0.mod.nolimit.keeps fun b o e=>(e0.bs b o e).1
 have Oe:∀y∈ps.zip us,scope.names.lookup y.1=some .local ∨ (scope.names.lookup y.1=some .cell∧((cellsFrom (s.heap.objs.size+1) scope.names []).lookup y.1).isSome=true):=fun⟨n,v⟩ hy=>by
  rcases S.par n (List.of_mem_zip hy).1 with q|q
  ·exact .inl q
  ·exact .inr ⟨q,PySem.W.cellsFrom_some _ _ _ (.inl q)⟩
 refine codeAny_call_function hr.depth (KX _ _ lk) rfl S.co S.gen rfl (PySem.W.codeRec_of KX vQ) (hb _ _ _ _ ?_)
 refine wpAny_newFunctionEnv_cells S.kind Oe fun env he s1 x=>?_
 subst he
 refine⟨lim.keeps x.toInCall.keep,codeAny_func ?_⟩
 obtain⟨t,ht,hq⟩:=fP A outer s H vs Q E (hr.deeper _) CQ
 have I:Inv (lr CX P w K mg base N qual scope f aR A outer s H E) [] (start N vs) H s1:=BD S hr.hd e0 hl r x
 refine wpAny_mono (ht [] s1 (start N vs) H _ I hq) (fun fl s' hs=>?_) fun e s' hs=>hs
 have fin:∀{σ':St}{H':Hp}{v:V}{u:Value},Inv (lr CX P w K mg base N qual scope f aR A outer s H E) [] σ' H' s'→RelV v u→Q v H'→CE outer P w H s Q u s' :=
  fun {σ' H' v u} J rv q=>⟨v,H',J.os,J.bare,J.base,J.aV,rv,q⟩
 cases fl with
 | ret u =>
  obtain⟨v,σ',H',J,rv,q⟩:=hs
  exact fin J rv q
 | next =>
  obtain⟨σ',H',J,q⟩:=hs
  exact fin (v:=V.cH) (u:=Value.none) J rfl q
 | brk =>
  obtain⟨_,_,_,q⟩:=hs
  exact False.elim q
 | cont =>
  obtain⟨_,_,_,q⟩:=hs
  exact False.elim q
section
variable {X:Cx}{x:Str}{p pos:Pos}{e:Expr}{es:List Expr}{t:TA}{id T:String}{r:List V→Hp→VK→Prop}
def tCB (r:List V→Hp→VK→Prop) (t:TA):TE:=fun σ H Q=>t σ H fun vs H1=>r vs H1 Q
theorem bA (hc:gS X (.builtin id) r) (hg:Gl X x) (hm:X.mg x=none) (hv:bootBuiltins x=some (.builtin id)) (ha:PA X (e::es) t) (hn:x≠"__name__":=by decide) (oJ:(x == ("__debug__":Str))=false:=by decide)
  (he:starEach (e::es) X.env=(false,eval e X.env)::starEach es X.env:=by rfl) (lq:(backTo pos (starEach es X.env)).any (·.1)=false:=by rfl):PE X (.Call (.Name x p) (e::es) [] pos) (tCB r t):=by
 intro π s σ H Q I h
 refine wpAny_Call_Name_kw (jE I hg hm hv ?_ hn oJ)
 exact PyProof.Rows.callWith_builtin1 (bL (ha pos π s σ H _ I h) fun us s1 ⟨vs,H1,I1,r1,q1⟩=>hc π s1 σ H1 vs us Q I1 r1 q1) he lq
theorem iE (hc:gS X (.type T) r) (hg:Gl X x) (hm:X.mg x=none) (hv:bootBuiltins x=some (.type T)) (ha:PA X (e::es) t) (hn:x≠"__name__":=by decide) (oJ:(x == ("__debug__":Str))=false:=by decide)
  (he:starEach (e::es) X.env=(false,eval e X.env)::starEach es X.env:=by rfl) (lq:(backTo pos (starEach es X.env)).any (·.1)=false:=by rfl):PE X (.Call (.Name x p) (e::es) [] pos) (tCB r t):=by
 intro π s σ H Q I h
 refine wpAny_Call_Name_kw (jE I hg hm hv ?_ hn oJ)
 exact PyProof.Rows.callWith_type1 (bL (ha pos π s σ H _ I h) fun us s1 ⟨vs,H1,I1,r1,q1⟩=>hc π s1 σ H1 vs us Q I1 r1 q1) he lq
end
end L2
namespace HT
open PySem PyProof.Rows
def lexLt:List Int→List Int→Bool
 | [],[]=>false
 | [],_::_=>true
 | _::_,[]=>false
 | x::xs,y::ys=>if x=y then lexLt xs ys else decide (x<y)
section
open PySem.SeqAt
open PySem.AutoSeq1 (wpAny_loadPart')
open PySem.MeetsSeq PySem.MeetsSeq2 PySem.MeetsSeq3
end
section
variable {prog:Program}{w:World}{A:Around}{E:Value→Shared→Prop}{s:Shared}
def tD (n d:Nat):Option Int→Nat
 | none=>d
 | some v=>if v<0 then (v+(n:Int)).toNat else min v.toNat n
theorem GX (n d k:Nat):tD n d (some (k:Int))=min k n:=by
 show (if (k:Int)<0 then ((k:Int)+(n:Int)).toNat else min (k:Int).toNat n)=min k n
 rw[if_neg (by omega),Int.toNat_natCast]
end
end HT
namespace L2
open PySem PySem.Spec PyProof.Rows
abbrev TO:=St→Hp→(Option Int→Hp→Prop)→Prop
def PO (X:Cx) (e:Option Expr) (t:TO):Prop :=
 ∀(π:List (Addr×Obj)) (s:Shared) (σ:St) (H:Hp) (Q:Option Int→Hp→Prop),Inv X π σ H s→t σ H Q →
  wpAny (model X.prog X.w) X.A (evalPart e X.env) (fun u s'=>∃o H',Inv X π σ H' s'∧IsPart u o∧Q o H') X.xe s
def GY:TO:=fun _ H Q=>Q none H
def Of (t:TE):TO:=fun σ H Q=>t σ H fun x H1=>∃i,x = .int i∧Q (some i) H1
section
variable {X:Cx}{e:Expr}{te:TE}{lo hi:Option Expr}{tl th:TO}{pos p2:Pos}
theorem oR:PO X none GY:=by
 intro π s σ H Q I h
 rw[evalPart_none]
 exact wpAny_pure ⟨none,H,I,.none,h⟩
theorem oS (h:PE X e te):PO X (some e) (Of te):=by
 intro π s σ H Q I hw
 rw[evalPart_some]
 refine bL (h π s σ H _ I hw) fun u s1 ⟨x,H1,I1,r1,q1⟩=>?_
 obtain⟨i,rfl,q⟩:=q1
 obtain⟨t,rfl⟩:=r1
 exact⟨some i,H1,I1,.int i t,q⟩
def Te (X:Cx) (r:V→Option Int→Option Int→Hp→VK→Prop):Prop :=
 ∀(π:List (Addr×Obj)) (s:Shared) (σ:St) (H:Hp) (x:V) (v vl vu:Value) (lo hi:Option Int) (sl:Addr) (Q:VK),Inv X π σ H s→RelV x v→s.heap.IsSliceOf sl vl vu .none→IsPart vl lo→IsPart vu hi→r x lo hi H Q →
  ∃T id,typeLookup (.type T) "__getitem__"=pure (some (.builtin id))∧s.TypeIs v T∧wpAny (model X.prog X.w) X.A (getItem v (.ref sl)) (EP X π σ Q) X.xe s
def tSl (r:V→Option Int→Option Int→Hp→VK→Prop) (te:TE) (tl th:TO):TE:=fun σ H Q=>te σ H fun x H1=>tl σ H1 fun l H2=>th σ H2 fun u H3=>r x l u H3 Q
theorem my {r:V→Option Int→Option Int→Hp→VK→Prop}(hr:Te X r) (he:PE X e te) (hl:PO X lo tl) (hu:PO X hi th):PE X (.Subscript e (.Slice lo hi none p2) pos) (tSl r te tl th):=by
 intro π s σ H Q I h
 refine Subscript_ (bL (he π s σ H _ I h) fun v s1 ⟨x,H1,I1,r1,q1⟩=>?_)
 refine wpAny_Slice (bL (hl π s1 σ H1 _ I1 q1) fun vl s2 ⟨l,H2,I2,pl,q2⟩=>bL (hu π s2 σ H2 _ I2 q2) fun vu s3 ⟨u,H3,I3,pu,q3⟩=>?_)
 rw[evalPart_none]
 refine wpAny_pure ?_
 have I4:Inv X π σ H3 { s3 with heap:=s3.heap.push { cls:=.type "slice",data:=.fields #[vl,vu,.none] } }:=I3.kept (t':=s3.toks) fun b ob q=>Heap.get?_push_of_some _ q
 obtain⟨T,id,hT,ht,hg⟩:=hr π { s3 with heap:=s3.heap.push { cls:=.type "slice",data:=.fields #[vl,vu,.none] } } σ H3 x v vl vu l u s3.heap.objs.size Q I4 r1 (Heap.IsSliceOf.new ..) pl pu q3
 show wpAny (model X.prog X.w) X.A (subscriptTail e (.Slice lo hi none p2) v (.ref s3.heap.objs.size)) (EP X π σ Q) X.xe { s3 with heap:=s3.heap.push { cls:=.type "slice",data:=.fields #[vl,vu,.none] } }
 exact tail_any (ops:=[.ref s3.heap.objs.size,v]) ht hT hg (by with_unfolding_all rfl)
def jM (xs:List V) (lo hi:Option Int):List V:=(xs.drop (HT.tD xs.length 0 lo)).take (HT.tD xs.length xs.length hi-HT.tD xs.length 0 lo)
theorem vZ (xs:List V) (lo hi:Option Int):(jM xs lo hi).length≤xs.length:=by
 unfold jM
 rw[length_take,List.length_drop]
 omega
def rSlT (K:Frag):V→Option Int→Option Int→Hp→VK→Prop:=fun x lo hi H Q=>∃a xs,x = .ref a∧eV K H a xs ∧
 ¬(HT.tD xs.length 0 lo=0∧HT.tD xs.length xs.length hi=xs.length)∧∀p,H p=none→Q (.ref p) (upd H p (.tup (jM xs lo hi)))
def rLtT (K:Frag):R2:=fun x y H Q=>∃a b ns ms,x = .ref a∧y = .ref b∧eV K H a (ns.map V.int)∧eV K H b (ms.map V.int)∧Q (.bl (HT.lexLt ns ms)) H
def rCatT (K:Frag):R2:=fun x y H Q=>∃a b xs ys,x = .ref a∧y = .ref b∧eV K H a xs∧eV K H b ys∧xs≠[]∧xs.length+ys.length≤sizeLine ∧
 (ys=[]→Q (.ref a) H)∧(ys≠[]→∀p,H p=none→Q (.ref p) (upd H p (.tup (xs++ys))))
end
noncomputable def Gh (n:Nat) (i:Int):Option Nat:=if 0≤i then (if i<n then some i.toNat else none) else if -(n:Int)≤i then some (i+n).toNat else none
def yq {α:Type}(xs:List α) (i:Int):Option α:=(Gh xs.length i).bind fun j=>xs[j]?
theorem Af {n:Nat}{i:Int}{j:Nat}(h:Gh n i=some j):seqIndex? i n=some j∧j<n∧-(n:Int)≤i∧i<n:=by
 unfold Gh at h
 by_cases h0:0≤i
 ·rw[if_pos h0] at h
  by_cases h1:i<n
  ·rw[if_pos h1] at h
   have e:i.toNat=j:=Option.some.inj h
   exact⟨by rw[seqIndex_of h0 h1,e],by omega,by omega,h1⟩
  ·rw[if_neg h1] at h;cases h
 ·rw[if_neg h0] at h
  by_cases h1:-(n:Int)≤i
  ·rw[if_pos h1] at h
   have e:(i+n).toNat=j:=Option.some.inj h
   exact⟨by rw[seqIndex_neg (by omega) h1,e],by omega,h1,by omega⟩
  ·rw[if_neg h1] at h;cases h
theorem Ag {α:Type}{xs:List α}{i:Int}{v:α}(h:yq xs i=some v):∃j,seqIndex? i xs.length=some j∧xs[j]?=some v∧j<xs.length∧-(xs.length:Int)≤i∧i<xs.length:=by
 unfold yq at h
 cases e:Gh xs.length i with
 | none=>rw[e] at h;cases h
 | some j =>
  rw[e] at h
  obtain⟨h1,h2,h3,h4⟩:=Af e
  exact⟨j,h1,h,h2,h3,h4⟩
theorem oU {α:Type}{xs:List α}{j:Nat}{v:α}(h:xs[j]?=some v):yq xs (j:Int)=some v:=by
 have hj:j<xs.length:=(List.getElem?_eq_some_iff.mp h).1
 have e:Gh xs.length (j:Int)=some j:=by
  unfold Gh
  rw[if_pos (by omega),if_pos (by omega)];simp
 unfold yq;rw[e];exact h
def GZ (b:Expr):Prop:=∀o i,subscripted b false o i=operate [o,i] (getItem o i)
def Nh (X:Cx) (r:R2):Prop :=
 ∀(value slice:Expr) (π:List (Addr×Obj)) (s:Shared) (σ:St) (H:Hp) (x y:V) (v u:Value) (Q:VK),Inv X π σ H s→RelV x v→RelV y u→r x y H Q →
  subscripted slice false v u=operate [v,u] (getItem v u)→wpAny (model X.prog X.w) X.A (subscriptTail value slice v u) (EP X π σ Q) X.xe s
def Tf (X:Cx) (id:String) (r:V→List V→Hp→VK→Prop):Prop :=
 ∀(π:List (Addr×Obj)) (s:Shared) (σ:St) (H:Hp) (x:V) (xs:List V) (v:Value) (us:List Value) (Q:VK),Inv X π σ H s→RelV x v→Vals xs us→r x xs H Q →
  wpAny (model X.prog X.w) X.A (call (.builtin id) (v::us)) (EP X π σ Q) X.xe s
section
variable {X:Cx}{a b:Expr}{ta tb:TE}{pos:Pos}
theorem aC {r:R2}(hr:Nh X r) (ha:PE X a ta) (hb:PE X b tb) (hs:GZ b):PE X (.Subscript a b pos) (N5 r ta tb):=by
 intro π s σ H Q I h
 exact Subscript_ (KN ha hb I h fun v u s2 x y H2 I2 rx ry q=>hr a b π s2 σ H2 x y v u Q I2 rx ry q (hs _ _))
def KU (K:Frag):R2:=fun x y H Q=>∃p xs i v,x = .ref p∧y = .int i∧bP K H p xs∧yq xs i=some v∧Q v H
def KW (K:Frag):R2:=fun x y H Q=>∃p xs i v,x = .ref p∧y = .int i∧eV K H p xs∧yq xs i=some v∧Q v H
def Tg:R2:=fun x y H Q=>∃z i c,x = .str z∧y = .int i∧z.length≤sizeLine∧yq z.cps.toList i=some c∧Q (.str ⟨#[c]⟩) H
theorem G4:Nh X (KU X.K):=by
 intro value slice π s σ H x y v u Q I rx ry h hs
 obtain⟨p,xs,i,z,rfl,rfl,hq,he,q⟩:=h
 cases rx
 obtain⟨t,rfl⟩:=ry
 obtain⟨its,r,pl,hz⟩:=I.list hq
 obtain⟨j,h1,h2,h3,h4,h5⟩:=Ag he
 obtain⟨w,ew,KY⟩:=r.get h2
 have hl:=r.length
 have hn:=tq
 have fin:EP X π σ Q w s:=⟨z,H,I,KY,q⟩
 by_cases h0:0≤i
 ·have hj:i.toNat=j:=by
   rw[seqIndex_of h0 h5] at h1
   exact Option.some.inj h1
  exact item_listR pl.isList h0 (by omega) (by rw[hj];simpa using ew) fin hs
 ·have hj:(i+(its.toArray.size:Int)).toNat=j:=by
   rw[seqIndex_neg (by omega) h4] at h1
   rw[List.size_toArray,←hl]
   exact Option.some.inj h1
  exact subscriptTail_builtinR (x:=w) pl.isList.typeIs slot_list_getitem.lookup
   (wpAny_getItem_list_neg (Q:=fun r s'=>r=w∧EP X π σ Q r s') pl.isList (by omega) (by rw[List.size_toArray]<;>omega) (by omega) (by rw[hj];simpa using ew) ⟨rfl,fin⟩) hs
theorem KZ:Nh X (KW X.K):=by
 intro value slice π s σ H x y v u Q I rx ry h hs
 obtain⟨p,xs,i,z,rfl,rfl,hq,he,q⟩:=h
 cases rx
 obtain⟨t,rfl⟩:=ry
 obtain⟨its,r,pl,hz⟩:=I.tuple hq
 obtain⟨j,h1,h2,h3,h4,h5⟩:=Ag he
 obtain⟨w,ew,KY⟩:=r.get h2
 have hl:=r.length
 have hn:=tq
 have fin:EP X π σ Q w s:=⟨z,H,I,KY,q⟩
 exact subscriptTail_builtinR (x:=w) pl.typeIs slot_tuple_getitem.lookup
  (getItem_tuple (j:=j) (Q:=fun r s'=>r=w∧EP X π σ Q r s') pl (by omega) (by omega) (by rw[List.size_toArray,←hl];exact h1) (by simpa using ew) ⟨rfl,fin⟩) hs
def rIx (K:Frag):R2:=fun x y H Q=>KU K x y H Q∨KW K x y H Q∨Tg x y H Q
theorem yr (its:List Value) (n j:Nat) (u:Value):Obj.mapSeq (·.setIfInBounds j u) { cls:=.type "list",data:=.seq its.toArray n }={ cls:=.type "list",data:=.seq (its.set j u).toArray n }:=by
 simp[Obj.mapSeq]
theorem Inv.lst {π:List (Addr×Obj)}{σ:St}{H:Hp}{s:Shared}{p:Addr}{xs:List V}(I:Inv X π σ H s) (h:H p=some (.lst xs)) :
  ∃(its:List Value) (n:Nat),Vals xs its∧s.heap.get? p=some { cls:=.type "list",data:=.seq its.toArray n }∧xs.length≤sizeLine:=by
 obtain⟨z,its,n,r,e⟩:=I.aV p _ h
 exact⟨its,n,r,e,z⟩
theorem Inv.K0 {π:List (Addr×Obj)}{σ:St}{H:Hp}{s:Shared}{p:Addr}{xs ys:List V}{its its':List Value}{n n':Nat}{f:Obj→Obj}(I:Inv X π σ H s) (h:H p=some (.lst xs))
  (ho:s.heap.get? p=some { cls:=.type "list",data:=.seq its.toArray n }) (hf:f { cls:=.type "list",data:=.seq its.toArray n }={ cls:=.type "list",data:=.seq its'.toArray n' }) (r:Vals ys its') (hz:ys.length≤sizeLine) (t:Nat) :
  Inv X π σ (upd H p (.lst ys)) { s with heap:=s.heap.update p f,toks:=t }:=by
 have e:(s.heap.update p f).get? p=some { cls:=.type "list",data:=.seq its'.toArray n' }:=by
  rw[Heap.get?_update_self f ho (by rw[hf]<;>rfl),hf]
 refine I.write (x:=p) (e:=p) (by rw[h];trivial) (.inl rfl) (fun b u hb q=>(Heap.get?_update_other _ _ (Ne.symm hb)).trans q) ⟨_,e⟩ ?_
 exact⟨hz,its',n',r,e⟩
def Og:V→V→V→Hp→(Hp→Prop)→Prop:=fun o i v H Q=>∃p xs k j,o = .ref p∧i = .int k∧H p=some (.lst xs)∧Gh xs.length k=some j∧Q (upd H p (.lst (xs.set j v)))
theorem set_list:KG X Og:=by
 intro π s σ H o i v ov iv u Q I ro ri rv h
 obtain⟨p,xs,k,j,rfl,rfl,hp,hj,q⟩:=h
 cases ro
 obtain⟨t,rfl⟩:=ri
 obtain⟨its,n,r,ho,hz⟩:=I.lst hp
 obtain⟨h1,h2,h3,h4⟩:=Af hj
 have hl:=r.length
 have hn:=tq
 have I':Inv X π σ (upd H p (.lst (xs.set j v))) { s with heap:=s.heap.update p (Obj.mapSeq (·.setIfInBounds j u)) } :=
  I.K0 hp ho (yr its n j u) (r.set rv j) (by rw[List.length_set];exact hz) s.toks
 by_cases h0:0≤k
 ·have hk:k.toNat=j:=by
   rw[seqIndex_of h0 h4] at h1
   exact Option.some.inj h1
  exact PySem.W.ki_setAt ho h0 (by omega) (by rw[List.size_toArray,←hl];exact h4) (by rw[hk];exact⟨_,I',q⟩)
 ·have hk:(k+(its.toArray.size:Int)).toNat=j:=by
   rw[seqIndex_neg (by omega) h3] at h1
   rw[List.size_toArray,←hl]
   exact Option.some.inj h1
  exact PySem.W.ki_setBack ho (by omega) (by rw[List.size_toArray,←hl];exact h3) (by omega) (by rw[hk];exact⟨_,I',q⟩)
theorem tE (lo hi:Option Int) (n:Nat):(sliceBounds lo hi none n).1=((HT.tD n 0 lo:Nat):Int)∧(sliceBounds lo hi none n).2.1=((HT.tD n n hi:Nat):Int)∧(sliceBounds lo hi none n).2.2=1:=by
 refine⟨?_,?_,rfl⟩
 ·cases lo with
  | none=>simp[sliceBounds,HT.tD]
  | some i =>
   simp only[sliceBounds,HT.tD,Option.getD_none,show (1:Int) > 0 by decide,if_true]
   by_cases h:i<0
   ·simp only[h,if_true]<;>omega
   ·simp only[h,if_false]<;>omega
 ·cases hi with
  | none=>simp[sliceBounds,HT.tD]
  | some i =>
   simp only[sliceBounds,HT.tD,Option.getD_none,show (1:Int) > 0 by decide,if_true]
   by_cases h:i<0
   ·simp only[h,if_true]<;>omega
   ·simp only[h,if_false]<;>omega
theorem qX (its:List Value) (lo hi:Option Int):slicePick its.toArray lo hi none=((its.drop (HT.tD its.length 0 lo)).take (HT.tD its.length its.length hi-HT.tD its.length 0 lo)).toArray:=by
 obtain⟨h1,h2,h3⟩:=tE lo hi its.toArray.size
 unfold slicePick
 rw[h1,h2,h3]
 simp only[sliceRange_one,pick_run,List.size_toArray]<;>rfl
def Oh (K:Frag):V→Option Int→Option Int→Hp→VK→Prop:=fun x lo hi H Q=>∃a xs,x = .ref a∧bP K H a xs∧∀p,H p=none→Q (.ref p) (upd H p (.lst (jM xs lo hi)))
theorem G7:Te X (Oh X.K):=by
 intro π s σ H x v vl vu lo hi sl Q I rx hs pl pu h
 obtain⟨a,xs,rfl,hx,q⟩:=h
 cases rx
 obtain⟨its,r,ht,hz⟩:=I.list hx
 have hlen:=r.length
 refine⟨"list",_,slot_list_getitem.lookup,ht.isList.typeIs,?_⟩
 refine wpAny_getItem_list_slice ht.isList hs pl pu .none (by simp) ?_ (by rw[List.size_toArray]<;>omega)
 rw[qX,←hlen]
 refine⟨.ref s.heap.objs.size,_,I.laid (t':=s.toks) (o:=.lst (jM xs lo hi)) (fun b ob q=>Heap.get?_push_of_some _ q) (Nat.le_refl _) ?_,rfl,q _ (I.aV.fresh (Nat.le_refl _))⟩
 exact⟨Nat.le_trans (vZ xs lo hi) hz,_,0,(r.drop (HT.tD xs.length 0 lo)).take (HT.tD xs.length xs.length hi-HT.tD xs.length 0 lo),Heap.get?_push_size _ rfl⟩
def e8:V→Bool
 | .cH=>true
 | .bl _=>true
 | .int _=>true
 | .str _=>true
 | _=>false
noncomputable def xW:V→V→Bool
 | .cH,.cH=>true
 | .bl a,.bl b=>a == b
 | .bl a,.int b=>(if a then 1 else 0) == b
 | .int a,.bl b=>a == (if b then 1 else 0)
 | .int a,.int b=>a == b
 | .str a,.str b=>a == b
 | _,_=>false
theorem DC {A:Around}{s:Shared}{y x:V}{u v:Value}(ry:RelV y u) (rx:RelV x v) (fy:e8 y=true) (fx:e8 x=true):SeqAt.EqAt A s u v (xW y x):=by
 cases y with
 | cH =>
  cases ry
  cases x with
  | cH=>cases rx;exact SeqAt.EqAt.same _
  | bl b=>cases rx;exact SeqAt.EqAt.none_bool b
  | int b=>obtain⟨t,rfl⟩:=rx;exact SeqAt.EqAt.none_int b t
  | str b=>obtain⟨t,rfl⟩:=rx;exact SeqAt.EqAt.none_str b t
  | _=>exact absurd (show false=true from fx) Bool.false_ne_true
 | bl a =>
  cases ry
  cases x with
  | cH=>cases rx;exact SeqAt.EqAt.bool_none a
  | bl b=>cases rx;exact SeqAt.EqAt.bool_bool a b
  | int b=>obtain⟨t,rfl⟩:=rx;exact SeqAt.EqAt.bool_int a b t
  | str b=>obtain⟨t,rfl⟩:=rx;exact SeqAt.EqAt.bool_str a b t
  | _=>exact absurd (show false=true from fx) Bool.false_ne_true
 | int a =>
  obtain⟨t',rfl⟩:=ry
  cases x with
  | cH=>cases rx;exact SeqAt.EqAt.int_none a t'
  | bl b=>cases rx;exact SeqAt.EqAt.int_bool a t' b
  | int b=>obtain⟨t,rfl⟩:=rx;exact SeqAt.EqAt.int_int a t' b t
  | str b=>obtain⟨t,rfl⟩:=rx;exact SeqAt.EqAt.int_str a t' b t
  | _=>exact absurd (show false=true from fx) Bool.false_ne_true
 | str a =>
  obtain⟨t',rfl⟩:=ry
  cases x with
  | cH=>cases rx;exact SeqAt.EqAt.str_none a t'
  | bl b=>cases rx;exact SeqAt.EqAt.str_bool a t' b
  | int b=>obtain⟨t,rfl⟩:=rx;exact SeqAt.EqAt.str_int a t' b t
  | str b=>obtain⟨t,rfl⟩:=rx;exact SeqAt.EqAt.str_str a t' b t
  | _=>exact absurd (show false=true from fx) Bool.false_ne_true
 | _=>exact absurd (show false=true from fy) Bool.false_ne_true
def yt (x:V) (u:Value):Bool:=match u with
 | .none=>xW .cH x
 | .bool b=>xW (.bl b) x
 | .int i _=>xW (.int i) x
 | .str z _=>xW (.str z) x
 | _=>false
theorem DD {x y:V}{u:Value}(r:RelV y u) (f:e8 y=true):yt x u=xW y x:=by
 cases y with
 | cH=>cases r;rfl
 | bl b=>cases r;rfl
 | int i=>obtain⟨t,rfl⟩:=r;rfl
 | str z=>obtain⟨t,rfl⟩:=r;rfl
 | _=>exact absurd (show false=true from f) Bool.false_ne_true
theorem mz {x:V}:∀{xs:List V}{us:List Value},Vals xs us→xs.all e8=true→us.any (yt x)=xs.any fun y=>xW y x
 | _,_,.nil,_=>rfl
 | y::xs,u::us,.cons r t,f=>by
  rw[List.all_cons,Bool.and_eq_true] at f
  rw[List.any_cons,List.any_cons,DD r f.1,mz t f.2]
theorem jN {A:Around}{s:Shared}{x:V}{v:Value}(rx:RelV x v) (fx:e8 x=true):∀{xs:List V}{us:List Value},Vals xs us→xs.all e8=true→∀u∈us,SeqAt.EqAt A s u v (yt x u)
 | _,_,.nil,_=>fun u hu=>by cases hu
 | y::xs,u::us,.cons r t,f=>fun u' hu=>by
  rw[List.all_cons,Bool.and_eq_true] at f
  rcases List.mem_cons.mp hu with rfl|hu
  ·rw[DD r f.1];exact DC r rx f.1 fx
  ·exact jN rx fx t f.2 u' hu
def Ni (x:V) (xs:List V):Bool:=xs.any fun y=>xW y x
def Rx (K:Frag) (neg:Bool):R2:=fun x y H Q=>∃p xs,y = .ref p∧(bP K H p xs∨eV K H p xs)∧e8 x=true∧xs.all e8=true∧Q (.bl (if neg then !Ni x xs else Ni x xs)) H
theorem BE:iP X (compareOp .In) (Rx X.K false):=by
 intro π s σ H x y v u Q I rx ry h
 obtain⟨p,xs,rfl,hq,fx,fs,q⟩:=h
 cases ry
 rcases hq with hq|hq
 ·obtain⟨its,r,pl,hz⟩:=I.list hq
  refine SeqAt.in_listAt (yt x) pl.isList (fun w hw=>jN rx fx r fs w (by simpa using hw)) ⟨.bl _,H,I,rfl,?_⟩
  rw[show its.toArray.any (yt x)=its.any (yt x) by simp,mz r fs]
  exact q
 ·obtain⟨its,r,pl,hz⟩:=I.tuple hq
  refine SeqAt.in_tupleAt (yt x) pl (fun w hw=>jN rx fx r fs w (by simpa using hw)) ⟨.bl _,H,I,rfl,?_⟩
  rw[show its.toArray.any (yt x)=its.any (yt x) by simp,mz r fs]
  exact q
theorem tF:iP X (compareOp .NotIn) (Rx X.K true):=by
 intro π s σ H x y v u Q I rx ry h
 obtain⟨p,xs,rfl,hq,fx,fs,q⟩:=h
 cases ry
 rcases hq with hq|hq
 ·obtain⟨its,r,pl,hz⟩:=I.list hq
  refine SeqAt.notIn_listAt (yt x) pl.isList (fun w hw=>jN rx fx r fs w (by simpa using hw)) ⟨.bl _,H,I,rfl,?_⟩
  rw[show its.toArray.any (yt x)=its.any (yt x) by simp,mz r fs]
  exact q
 ·obtain⟨its,r,pl,hz⟩:=I.tuple hq
  refine SeqAt.notIn_tupleAt (yt x) pl (fun w hw=>jN rx fx r fs w (by simpa using hw)) ⟨.bl _,H,I,rfl,?_⟩
  rw[show its.toArray.any (yt x)=its.any (yt x) by simp,mz r fs]
  exact q
theorem tG:gS X (.builtin "len") (fun xs H Q=>∃p ys,xs=[.ref p]∧(bP X.K H p ys∨eV X.K H p ys)∧Q (.int ys.length) H):=by
 intro π s σ H xs us Q I r h
 obtain⟨p,ys,rfl,hq,q⟩:=h
 obtain⟨u,rfl,rx⟩:=vals1 r
 cases rx
 have hn:=tq
 rcases hq with hq|hq
 ·obtain⟨its,r',pl,hz⟩:=I.list hq
  have hlen:=r'.length
  exact Calls.call_len_list pl.isList (by simp only[List.size_toArray]<;>omega) ⟨.int ys.length,H,I.tok _,⟨s.toks+1,by rw[List.size_toArray,hlen]⟩,q⟩
 ·obtain⟨its,r',pl,hz⟩:=I.tuple hq
  have hlen:=r'.length
  exact len_tuple pl (by simp only[List.size_toArray]<;>omega) ⟨.int ys.length,H,I.tok _,⟨s.toks+1,by rw[List.size_toArray,hlen]⟩,q⟩
theorem tH:gS X (.type "list") (fun xs H Q=>∃p ys,xs=[.ref p]∧(bP X.K H p ys∨eV X.K H p ys)∧∀l,H l=none→Q (.ref l) (upd H l (.lst ys))):=by
 intro π s σ H xs us Q I r h
 obtain⟨p,ys,rfl,hq,q⟩:=h
 obtain⟨u,rfl,rx⟩:=vals1 r
 cases rx
 have fin:∀(its:List Value),Vals ys its→ys.length≤sizeLine→∀(h':Heap) (c':Nat),(∀b o',s.heap.get? b=some o'→h'.get? b=some o') →
   h'.get? s.heap.objs.size=some { cls:=.type "list",dict:=none,data:=.seq its.toArray c',slots:=#[] }→EP X π σ Q (.ref s.heap.objs.size) { s with heap:=h' }:=fun its r' hz h' c' kp e =>
  ⟨.ref s.heap.objs.size,_,I.laid (t':=s.toks) kp (Nat.le_refl _) (show bI X.prog X.w _ h' _ (.lst ys) from ⟨hz,its,c',r',e⟩),rfl,q _ (I.aV.fresh (Nat.le_refl _))⟩
 rcases hq with hq|hq
 ·obtain⟨its,r',pl,hz⟩:=I.list hq
  have hlen:=r'.length
  obtain⟨o,ho,hc,n,hd⟩:=pl.isList
  exact call_list_seq p (.inl rfl) ho hc hd (fun h' c' kp e=>fin its r' hz h' c' kp e) (by simp only[List.size_toArray]<;>omega)
 ·obtain⟨its,r',pl,hz⟩:=I.tuple hq
  have hlen:=r'.length
  obtain⟨o,ho,hc,n,hd⟩:=pl
  exact call_list_seq p (.inr rfl) ho hc hd (fun h' c' kp e=>fin its r' hz h' c' kp e) (by simp only[List.size_toArray]<;>omega)
def Th (K:Frag) (T:String) (x:V) (H:Hp):Prop:=match x with
 | .str _=>T="str"
 | .int _=>T="int"
 | .ref p=>(T="list"∧∃xs,bP K H p xs)∨(T="tuple"∧∃o,K.lookup p=some o∧o.cls = .type "tuple"∧o.dict=none) ∨
   (T="dict"∧((∃aB,H p=some (.dK aB))∨∃aB,H p=some (.dT aB)))∨(T="set"∧∃S n,H p=some (.set S n))
 | _=>False
theorem DE {π:List (Addr×Obj)}{σ:St}{H:Hp}{s:Shared}{T:String}{x:V}{v:Value}(I:Inv X π σ H s) (r:RelV x v) (ty:Th X.K T x H) :
  s.TypeIs v T∧∀a,v = .ref a→∃ob,s.heap.get? a=some ob∧ob.dict=none:=by
 cases x with
 | str z =>
  obtain⟨t,rfl⟩:=r
  cases (show T="str" from ty)
  exact⟨typeIs_str s z t,fun _ e=>nomatch e⟩
 | int i =>
  obtain⟨t,rfl⟩:=r
  cases (show T="int" from ty)
  exact⟨typeIs_int s i t,fun _ e=>nomatch e⟩
 | ref p =>
  cases r
  rcases ty with⟨rfl,xs,hq⟩|⟨rfl,o,hk,hc,hd⟩|⟨rfl,hk⟩|⟨rfl,S,n,hk⟩
  ·obtain⟨its,_,pl,_⟩:=I.list hq
   refine⟨pl.isList.typeIs,fun a e=>?_⟩
   cases e
   obtain⟨o,n,e,c,hd,_⟩:=pl
   exact⟨o,e,hd⟩
  ·refine⟨⟨o,I.oG p o hk,hc⟩,fun a e=>?_⟩
   cases e
   exact⟨o,I.oG _ o hk,hd⟩
  ·have z:∃o,s.heap.get? p=some o∧o.ExactDict:=by
    rcases hk with⟨aB,hk⟩|⟨aB,hk⟩
    ·obtain⟨_,_,_,_,o,_,_,e,ex,_⟩:=I.aV p _ hk
     exact⟨o,e,ex⟩
    ·obtain⟨_,_,_,_,o,_,_,e,ex,_⟩:=I.aV p _ hk
     exact⟨o,e,ex⟩
   obtain⟨o,e,ex⟩:=z
   refine⟨⟨o,e,ex.1⟩,fun a e2=>?_⟩
   cases e2
   exact⟨o,e,ex.2.1⟩
  ·obtain⟨o,_,_,_,e,ex,_⟩:=I.aV p _ hk
   refine⟨⟨o,e,ex.1⟩,fun a e2=>?_⟩
   cases e2
   exact⟨o,e,ex.2.1⟩
 | _=>exact False.elim ty
def Ti (K:Frag) (T:String) (r:V→List V→Hp→VK→Prop) (to:TE):TE:=fun σ H Q=>to σ H fun x H1=>Th K T x H1∧r x [] H1 Q
def tBM (K:Frag) (T:String) (r:V→List V→Hp→VK→Prop) (to:TE) (t:TA):TE:=fun σ H Q=>to σ H fun x H1=>Th K T x H1∧t σ H1 fun xs H2=>r x xs H2 Q
variable {o e:Expr}{es:List Expr}{to:TE}{t:TA}{name:Str}{apos dB:Pos}{T id:String}{r:V→List V→Hp→VK→Prop}
theorem DF (pa:PlainAttrs T) (slot:Slot T name id) (Tj:typeOf (.builtin id)=pure (.type "method_descriptor")) (hm:Tf X id r) (ho:PE X o to)
  (pq:attributeBase o name X.env (eval o X.env)=eval o X.env:=by rfl) (DG:(apos.endLine == dB.line)=true:=by rfl):PE X (.Call (.Attribute o name apos) [] [] dB) (Ti X.K T r to):=by
 intro π s σ H Q I h
 refine wpAny_Call_method0_late pq DG (bL (ho π s σ H _ I h) fun v s1 ⟨x,H1,I1,r1,ty,q1⟩=>?_)
 obtain⟨h1,h2⟩:=DE I1 r1 ty
 exact⟨T,id,pa,slot,Tj,h1,h2,Calls.callWith_builtin rfl (PySem.evalArgs_none (hm π s1 σ H1 x [] v [] Q I1 r1 .nil q1))⟩
theorem Oi (pa:PlainAttrs T) (slot:Slot T name id) (Tj:typeOf (.builtin id)=pure (.type "method_descriptor")) (hm:Tf X id r) (ho:PE X o to) (ha:PA X (e::es) t)
  (pq:attributeBase o name X.env (eval o X.env)=eval o X.env:=by rfl)
  (Tn:((backTo dB (starEach (e::es) X.env)).all (fun x=>!x.1)&&(backToKw dB (keywordEach [] X.env)).all (fun x=>x.1.isSome)
   && decide ((e::es).length+([]:List Keyword).length+(if ([]:List Keyword).isEmpty then 0 else 1)<30))=true:=by rfl)
  (DG:(apos.endLine == dB.line)=true:=by rfl) (hs:starEach (e::es) X.env=(false,eval e X.env)::starEach es X.env:=by rfl) (yu:(backTo dB (starEach es X.env)).any (·.1)=false:=by rfl) :
  PE X (.Call (.Attribute o name apos) (e::es) [] dB) (tBM X.K T r to t):=by
 intro π s σ H Q I h
 refine wpAny_Call_method_late pq Tn DG rfl (bL (ho π s σ H _ I h) fun v s1 ⟨x,H1,I1,r1,ty,q1⟩=>?_)
 obtain⟨h1,h2⟩:=DE I1 r1 ty
 refine⟨T,id,pa,slot,Tj,h1,h2,?_⟩
 have hA:=ha dB π s1 σ H1 _ I1 q1
 rw[hs] at hA ⊢
 refine Calls.callWith_builtin (by show (false||(backTo dB (starEach es X.env)).any (·.1))=false;rw[yu]<;>rfl) (Calls.evalArgs_plain ?_)
 exact bL hA fun us s2 ⟨vs,H2,I2,r2,q2⟩=>hm π s2 σ H2 x vs v us Q I2 r1 r2 q2
/- xs.append(e),list.index on a module's tuple .. are MtR facts of 06m -/
end
def MtM (X:Cx) (id:String) (r:V→List V→Hp→VK→Prop):Prop :=
 ∀(π:List (Addr×Obj)) (s:Shared) (σ:St) (H:Hp) (x:V) (xs:List V) (v:Value) (us:List Value) (Q:VK),Inv X π σ H s→RelV x v→Vals xs us→r x xs H Q →
  wpAny (model X.prog X.w) X.A (call (.builtin id) (v::us)) (EP X π σ Q) X.xe s
theorem Vals.one:∀{x:V}{us:List Value},Vals [x] us→∃u,us=[u]∧RelV x u
 | _,_,.cons r .nil=>⟨_,rfl,r⟩
theorem Vals.two:∀{x y:V}{us:List Value},Vals [x,y] us→∃u v,us=[u,v]∧RelV x u∧RelV y v
 | _,_,_,.cons r (.cons q .nil)=>⟨_,_,rfl,r,q⟩
theorem Vals.zero:∀{us:List Value},Vals [] us→us=[]
 | _,.nil=>rfl
section
variable {X:Cx}{π:List (Addr×Obj)}{σ:St}{H:Hp}{s:Shared}{l b:Addr}{xs ys zs:List V}
theorem Inv.G8 {its its':List Value}{n:Nat}{f:Array Value→Array Value}{t':Nat}(I:Inv X π σ H s) (hH:H l=some (.lst xs))
  (e:s.heap.get? l=some { cls:=.type "list",data:=.seq its.toArray n }) (hf:f its.toArray=its'.toArray) (hv:Vals ys its') (hz:ys.length≤sizeLine) :
  Inv X π σ (upd H l (.lst ys)) { s with heap:=s.heap.update l (Obj.mapSeq f),toks:=t' }:=by
 have q:=PySem.IsL.update e f
 rw[hf] at q
 refine I.write (x:=l) (e:=l) (by rw[hH];exact trivial) (.inl rfl) (fun b' u hb hu=>(Heap.get?_update_other s.heap (Obj.mapSeq f) (Ne.symm hb)).trans hu) ⟨_,q⟩ ?_
 exact⟨hz,its',_,hv,q⟩
theorem Inv.Oj {its:List Value}{t':Nat}(I:Inv X π σ H s) (hv:Vals ys its) (hz:ys.length≤sizeLine) :
  Inv X π σ (upd H s.heap.objs.size (.lst ys)) { s with heap:=s.heap.push { cls:=.type "list",data:=.seq its.toArray },toks:=t' } :=
 I.laid (fun _ _ q=>Heap.get?_push_of_some _ q) (Nat.le_refl _) ⟨hz,its,0,hv,Heap.get?_push_size _ rfl⟩
theorem Inv.fresh (I:Inv X π σ H s):H s.heap.objs.size=none:=I.aV.fresh (Nat.le_refl _)
theorem Inv.yw (I:Inv X π σ H s) (hH:H l=some (.lst xs)):xs.length≤sizeLine∧∃(its:List Value) (n:Nat),Vals xs its∧xs.length=its.length∧s.heap.get? l=some { cls:=.type "list",data:=.seq its.toArray n }:=by
 obtain⟨z,its,n,r,e⟩:=I.aV l _ hH
 exact⟨z,its,n,r,r.length,e⟩
theorem pA {n:Nat}(h:n≤sizeLine):Builtin.List.listTooLong n=false:=by
 unfold Builtin.List.listTooLong
 exact decide_eq_false (by omega)
def Ha:V→List V→Hp→VK→Prop:=fun x vs H Q=>∃l xs y,x = .ref l∧vs=[y]∧H l=some (.lst xs)∧xs.length<sizeLine∧Q .cH (upd H l (.lst (xs++[y])))
theorem BF:MtM X "list.append" Ha:=by
 intro π s σ H x vs v us Q I rx rv h
 obtain⟨l,xs,y,rfl,rfl,hH,hz,q⟩:=h
 cases rx
 obtain⟨u,rfl,ru⟩:=rv.one
 obtain⟨z,its,n,r,hl,e⟩:=I.yw hH
 refine call_meets F.slot_list_append ⟨_,e,rfl⟩ F.entry_list_append (F.args_list_append_2 _ _) (PySem.list_append l its.toArray n u (by rw[List.size_toArray];omega)) ⟨e,?_⟩
 refine⟨.cH,_,I.G8 (its':=its++[u]) hH e (by simp) (r.append (.cons ru .nil)) ?_,rfl,q⟩
 rw[length_append,length_singleton]
 omega
def Hb:V→List V→Hp→VK→Prop:=fun x vs H Q=>∃l b xs zs,x = .ref l∧vs=[.ref b]∧H l=some (.lst xs)∧H b=some (.lst zs)∧xs.length+zs.length≤sizeLine∧Q .cH (upd H l (.lst (xs++zs)))
theorem Nj:MtM X "list.extend" Hb:=by
 intro π s σ H x vs v us Q I rx rv h
 obtain⟨l,b,xs,zs,rfl,rfl,hH,hB,hz,q⟩:=h
 cases rx
 obtain⟨u,rfl,ru⟩:=rv.one
 cases ru
 obtain⟨z,its,n,r,hl,e⟩:=I.yw hH
 obtain⟨z2,yx,n2,r2,vG,e2⟩:=I.yw hB
 have hsz:its.toArray.size+yx.toArray.size≤sizeLine:=by rw[List.size_toArray,List.size_toArray];omega
 have Ol:¬(!its.toArray.isEmpty&&Builtin.List.listTooLong (its.toArray.size+yx.toArray.size))=true:=by
  rw[pA hsz,Bool.and_false]
  exact Bool.false_ne_true
 refine call_meets F.slot_list_extend ⟨_,e,rfl⟩ F.entry_list_extend (F.args_list_extend_2 _ _)
  (AutoSeq1.list_extend_list_list_0 l its.toArray n b yx.toArray n2 Ol (by rw[List.size_toArray];omega) (by omega)) ⟨e,e2,?_⟩
 refine⟨.cH,_,I.G8 (its':=its++yx) hH e (by simp) (r.append r2) ?_,rfl,q⟩
 rw[length_append]
 omega
def rPop:V→List V→Hp→VK→Prop:=fun x vs H Q=>∃l xs y,x = .ref l∧vs=[]∧H l=some (.lst xs)∧xs[xs.length-1]?=some y∧Q y (upd H l (.lst xs.dropLast))
def To:V→List V→Hp→VK→Prop:=fun x vs H Q=>∃l xs i k y,x = .ref l∧vs=[.int i]∧H l=some (.lst xs)∧-(2^63)≤i∧i<2^63∧seqIndex? i xs.length=some k∧xs[k]?=some y∧Q y (upd H l (.lst (xs.eraseIdx k)))
def Om:V→List V→Hp→VK→Prop:=fun x vs H Q=>∃l xs,x = .ref l∧vs=[]∧H l=some (.lst xs)∧Q .cH (upd H l (.lst xs.reverse))
def Tp:V→List V→Hp→VK→Prop:=fun x vs H Q=>∃l xs,x = .ref l∧vs=[]∧H l=some (.lst xs)∧Q .cH (upd H l (.lst []))
def Tq:R2:=fun x y H Q=>∃l b xs zs,x = .ref l∧y = .ref b∧H l=some (.lst xs)∧H b=some (.lst zs)∧xs.length+zs.length≤sizeLine∧∀p,H p=none→Q (.ref p) (upd H p (.lst (xs++zs)))
theorem yz:iP X (binaryOp .Add) Tq:=by
 intro π s σ H x y v u Q I rx ry h
 obtain⟨l,b,xs,zs,rfl,rfl,hH,hB,hz,q⟩:=h
 cases rx
 cases ry
 obtain⟨z,its,n,r,hl,e⟩:=I.yw hH
 obtain⟨z2,yx,n2,r2,vG,e2⟩:=I.yw hB
 refine PySem.P.add_list e e2 ?_ (by rw[List.size_toArray,List.size_toArray];omega)
 have ea:its.toArray++yx.toArray=(its++yx).toArray:=by simp
 rw[ea]
 exact⟨.ref _,_,I.Oj (t':=s.toks) (r.append r2) (by rw[length_append];omega),rfl,q _ I.fresh⟩
def rRep:R2:=fun x y H Q=>∃l k xs,x = .ref l∧y = .int k∧H l=some (.lst xs)∧-(2^63)≤k∧k<2^63∧xs.length*k.toNat≤sizeLine ∧
 ∀p,H p=none→Q (.ref p) (upd H p (.lst (List.replicate k.toNat xs).flatten))
variable {prog:Program}{w:World}{A:Around}{E:Value→Shared→Prop}
theorem yA {a c n:Nat}(Ry:a≤c) (hc:c≤n):sliceBounds (some (a:Int)) (some (c:Int)) none n=((a:Int),(c:Int),1):=by
 simp only[sliceBounds,Option.getD_none]
 have h1:¬((a:Int)<0):=by omega
 have h2:¬((c:Int)<0):=by omega
 simp only[h1,h2,if_false,show (1:Int) > 0 by decide,if_true]
 congr 1
 ·omega
 ·congr 1;omega
set_option maxRecDepth 100000 in
theorem Gi {l b sl:Addr}{items new:Array Value}{n n2:Nat}{vl vu:Value}{a c:Nat}{Q:Unit→Shared→Prop}
  (e:s.heap.get? l=some { cls:=.type "list",data:=.seq items n }) (e2:s.heap.get? b=some { cls:=.type "list",data:=.seq new n2 }) (eY:l≠b)
  (hs:s.heap.IsSliceOf sl vl vu .none) (pl:IsPart vl (some (a:Int))) (pu:IsPart vu (some (c:Int))) (Ry:a≤c) (hc:c≤items.size)
  (hsz:items.size+new.size≤sizeLine) (h:Q () { s with heap:=s.heap.update l (Obj.mapSeq fun xs=>xs.extract 0 a++new++xs.extract c xs.size) }) :
  wpAny (model prog w) A (setItem (.ref l) (.ref sl) (.ref b)) Q E s:=by
 have hl:s.heap.IsList l items:=PySem.IsL.isList e
 have hb:s.heap.IsList b new:=PySem.IsL.isList e2
 obtain⟨os,Rz,se,Tr⟩:=id hs
 have K1:s.TypeIs (.ref sl) "slice":=⟨os,Rz,se⟩
 have pB:¬((rawPart none == rawInt 0)=true):=Bool.false_ne_true
 have DH:Builtin.List.listSameRef (.ref l) (.ref b)=false:=by
  unfold Builtin.List.listSameRef
  exact beq_eq_false_iff_ne.mpr eY
 have Ts:(max (a:Int) (c:Int)).toNat=c:=by omega
 have yB:((fun xs:Array Value=>xs.extract 0 a++new++xs.extract c xs.size) items).size≤sizeLine+1:=by
  simp only[Array.size_append,Array.size_extract]
  omega
 unfold setItem
 try with_reducible refine wpAny_holding ?_
 first|refine wpAny_bind (wpAny_pure ?_)|skip
 refine wpAny_bind (wpAny_sequenceKey hl.typeIs (by decide) ?_)
 refine wpAny_bind (wpAny_callSpecial?_slot (name:=Str.ofString "__setitem__") hl.typeIs slot_list_setitem
  (wpAny_call_entry slot_list_setitem hl.typeIs entry_list_setitem ?_ (args_list_setitem _ _ _)))
 show wpAny _ _ (Builtin.List.listSubscript? (.ref sl) >>= _) _ _ s
 refine wpAny_bind ?_
 unfold Builtin.List.listSubscript?
 refine wpAny_bind (wpAny_specialOf K1 slice_no_index ?_)
 simp only[Option.isNone_none,if_true]
 refine wpAny_pure ?_
 show wpAny _ _ (typeOf (.ref sl) >>= _) _ _ s
 refine wpAny_bind (wpAny_typeOf K1 ?_)
 first
  | rw[if_neg (by decide)]
  | refine PySem.W.KFB.if_not (by decide) ?_
 rw[listSliceParts_eq]
 refine wpAny_bind (wpAny_bind (wpAny_field Rz Tr (x:=.none) rfl (wpAny_bind (wpAny_listPart .none ?_))))
 rw[if_neg pB]
 refine wpAny_bind (wpAny_field Rz Tr (x:=vl) rfl (wpAny_bind (wpAny_listPart pl ?_)))
 refine wpAny_bind (wpAny_field Rz Tr (x:=vu) rfl (wpAny_bind (wpAny_listPart pu (wpAny_pure ?_))))
 first
  | simp only[DH,Bool.false_eq_true,if_false]
  | refine PySem.W.KFB.if_not DH ?_
  | (dsimp only
     rw[if_neg (by rw[DH];exact Bool.false_ne_true)])
 refine wpAny_bind (m:=Builtin.List.listAllItems (.ref b) "must assign iterable to extended slice") ?_
 unfold Builtin.List.listAllItems
 refine wpAny_bind (wpAny_typeOf hb.typeIs ?_)
 first
  | refine PySem.W.KFB.if_so (by decide) ?_
  | rw[if_pos (by decide)]
  | simp only[beq_self_eq_true,Bool.true_or,if_true]
 unfold Builtin.List.listItems
 refine wpAny_bind (wpAny_seqItems e2 rfl (wpAny_pure ?_))
 refine wpAny_bind (wpAny_bind (wpAny_seqItems e rfl (wpAny_pure ?_)))
 refine wpAny_bind (wpAny_of_eq ((sliceIndices_raw (some (a:Int)) (some (c:Int)) none items.size (by simp)).trans (congrArg (pure:Int×Int×Int→Sem (Int×Int×Int)) (yA Ry hc))) ?_)
 show wpAny _ _ (if ((1:Int) == 1)=true then _ else _) _ _ s
 rw[if_pos (by decide)]
 refine wpAny_bind (wpAny_rule ?_)
 first
  | simp only[pA hsz,Bool.false_eq_true,if_false]
  | refine PySem.W.KFB.if_not (pA hsz) ?_
 first|refine wpAny_bind (wpAny_pure ?_)|skip
 show wpAny _ _ (updateSeq l (fun xs=>xs.extract 0 ((a:Int)).toNat++new++xs.extract (max (a:Int) (c:Int)).toNat xs.size) >>= _) _ _ s
 rw[Ts,Int.toNat_natCast]
 refine wpAny_bind (wpAny_updateSeq (hz:=Nat.le_trans (Nat.le_add_right _ _) hsz) (_hz':=yB) e rfl ?_)
 refine wpAny_bind (wpAny_letGo ?_)
 first
  | exact wpAny_bind (wpAny_pure (wpAny_pure ⟨.none,rfl,wpAny_pure h⟩))
  | exact wpAny_pure ⟨.none,rfl,wpAny_pure h⟩
end
end L2
namespace Att
open PySem PySem.W PySem.Calls PyProof.Rows
theorem oK {P:Params}{h:Heap}:∀(ns:List Int) (vs:List Value),WellAll P h vs (ns.map WData.int)→IntsAre vs ns:=by
 intro ns
 induction ns with
 | nil =>
  intro vs w
  rw[List.map_nil] at w
  cases w
  exact .nil
 | cons n ns ih =>
  intro vs w
  rw[List.map_cons] at w
  cases w with
  | cons a b =>
   cases a
   exact .cons _ _ (ih _ b)
theorem BG {l:OpenLaw}{n:Nat}(hn:l.most=some n) {P:Params}{h:Heap}{args:List WData}{vals:List Value}
  (Hc:l.row.toRowW.claim.pre args=true) (K2:WellAll P h vals args) :
  ∃a vs ns,vals=[Value.ref a]∧args=[WData.list (ns.map WData.int)]∧h.get? a=some { cls:=.type "list",data:=.seq vs.toArray }∧IntsAre vs ns∧ns.length≤n:=by
 have hsh:WShape.hasAll [] args [.list .int]=true:=(pre_splitW Hc).1
 have hc:l.pre.holds [] { args:=args }=true:=(pre_splitW Hc).2
 obtain⟨d,r,rfl,h1,h2⟩:=hasAllW_cons hsh
 obtain rfl:=hasAllW_nil h2
 obtain⟨xs,rfl,h3⟩:=hasW_list h1
 obtain⟨ns,rfl⟩:=items_int h3
 have hlen:ns.length≤n:=by
  unfold OpenLaw.pre at hc
  have h4:(WTm.not (.lt (.lit (.int (n:Int))) (.len (.arg 0)))).holds [] { args:=[.list (ns.map .int)] }=true:=by
   have h4:=(holds_andW hc).1
   rw[hn] at h4
   exact h4
  have h5:=condW_of h4 (w_not (w_lt w_lit (w_len_list (w_arg rfl))))
  rw[length_map] at h5
  refine Nat.le_of_not_lt fun q=>?_
  have q':(n:Int)<((ns.length:Nat):Int):=by omega
  first
   | (rw[decide_eq_true q'] at h5;exact absurd h5 (by decide))
   | (simp at h5;omega)
 cases K2 with
 | cons w1 w2 =>
  cases w2
  cases w1 with
  | list ho Tt=>exact⟨_,_,ns,rfl,rfl,ho,oK ns _ Tt,hlen⟩
theorem BH (l:OpenLaw) (args:List WData):l.row.toRowW.claim.post args (.bool true) args=true :=
 postW_of (r:=l.row.toRowW) (X:=(true == true))
  (show WShape.has [] (.bool true) .bool=true by first|rfl|decide|simp[WShape.has,WShape.arms,WShape.armsAll])
  (show (WTm.eq .res (.lit (.bool true))).value [] { args:=args,res:=some (.bool true),after:=args }=some (.bool (true == true)) from w_eq_bool (w_res rfl) w_lit) rfl
theorem wa {l:OpenLaw}{n:Nat}{q:Program}{loose:List Str}{XP:(Str→Option Value)→Heap→Prop}{YP:World→Heap→Prop}{d:DefRec}
  (hn:l.most=some n) (Oo:d.params.defaults=[])
  (call:∀(w:World) (s₀ s₁:Shared) (mg mb:Str→Option Value) (fa:Addr) (o:Obj) (pm cd doc:Value) (a:Addr) (vs:List Value) (ns:List Int),
   Ground q loose [] XP w s₀ mg mb s₁.heap→YP w s₁.heap →
   s₁.heap.get? fa=some o→o.data = .func (docDef d.name d.params d.body d.scope pm cd doc)→s₁.heap.CodeRec cd d.name→mg d.name=some (.ref fa) →
   s₁.heap.get? a=some { cls:=.type "list",data:=.seq vs.toArray }→IntsAre vs ns→ns.length≤n→s₁.gens=#[] →
   codeAny (model l.prog w) callerA (.call (.ref fa) ⟨[.ref a],[]⟩) (fun r s'=>r = .ok (.ret (.bool true))∧OldK s₁.heap s'.heap∧s'.os=s₁.os∧AllBare s'.gens) s₁) :
  WalkO q loose XP YP l.row.toRowW d [] (fun f vs=>PySem.call f vs):=by
 intro w s₀ s₁ mg mb G Y fa o pm cd doc dV kV ho hd vQ hD Oq hg args vals as Hc hlay hrd K2 tI
 obtain rfl:dV = .none:=Dflts.none hD Oo
 obtain rfl:kV = .none:=Dflts.noKw hD
 obtain⟨a,vs,ns,rfl,rfl,K3,hints,hlen⟩:=BG hn Hc K2
 refine enter_call (codeAny_mono (call w s₀ s₁ mg mb fa o pm cd doc a vs ns G Y ho (fd_plain hd) vQ Oq K3 hints hlen hg) fun r s' hq=>?_)
 obtain⟨rfl,h2,h3,h4⟩:=hq
 exact⟨.inl ⟨.bool true,.bool true,[],rfl,fun _=>rfl,.bool true,BH l _,fun _=>⟨List.Pairwise.nil,fun _ hm=>(nomatch hm)⟩⟩,h2,h3,h4⟩
section
variable {prog:Program}{w:World}{A:Around}{E:Value→Shared→Prop}{s:Shared}{K:Frag}
def Tu (h:Heap):Heap:={ h with objs:=#[] }
def ledger (h:Heap) (L d:Addr):List (Addr×Obj):=(List.range h.objs.size).filterMap fun a=>if a=L∨a=d then none else (h.get? a).map fun o=>(a,o)
end
end Att
namespace L2
open PySem PySem.Spec PyProof.Rows
theorem sf:∀{vs:List Value}{ns:List Int},IntsAre vs ns→Vals (ns.map V.int) vs
 | _,_,.nil=>.nil
 | _,_,.cons n t h=>.cons ⟨t,rfl⟩ (sf h)
def K4 (H:Hp):Prop:=∀b,H b=none∨∃o xs,H b=some (.ya o (.lst xs))
theorem DI {P:Program}{w:World}{K:Frag}{mg mb:Str→Option Value}{CX:Ac}{k:Nat}{fa a:Addr}{fd:FuncData}{x:Str}{sp:Sp}{s₁:Shared}{vs:List Value}{ns:List Int}
  (KX:K.In s₁.heap) (RA:s₁.heap.Ns mainGlobals mg) (hb:s₁.heap.Ns builtinsNs mb) (hbb:∀x:Str,x≠"__name__"→mb x=bootBuiltins x) (Tv:s₁.heap.NoLimit) (hg:s₁.gens=#[])
  (ha:s₁.heap.get? a=some { cls:=.type "list",data:=.seq vs.toArray }) (hi:IntsAre vs ns) (hl:ns.length≤sizeLine) (hr:bF k callerA)
  (F:∀base:Heap,K.In base→base.Ns mainGlobals mg→fj P w K mg base CX k fa fd [x] sp) (Ot:∀(s:Shared) (u:Value),BindsTo s fd ⟨[u],[]⟩ [(x,u)])
  (CQ:∀H:Hp,K4 H→bP K H a (ns.map V.int)→sp [.ref a] H (fun v _=>v = .bl true) fun _ _ _=>False)
  (Tw:∀H e s',CX [] H s₁ (fun _ _ _=>False) e s'→False) :
  codeAny (model P w) callerA (.call (.ref fa) ⟨[.ref a],[]⟩) (fun r s'=>r = .ok (.ret (.bool true))∧OldK s₁.heap s'.heap∧s'.os=s₁.os∧AllBare s'.gens) s₁:=by
 have rv:=sf hi
 have Tx:=hi.length
 have core:∀H:Hp,K4 H→bP K H a (ns.map V.int)→iB P w H s₁.heap→(∀b,H b≠none→b=a)→(H a≠none→K.lookup a=none) →
   codeAny (model P w) callerA (.call (.ref fa) ⟨[.ref a],[]⟩) (fun r s'=>r = .ok (.ret (.bool true))∧OldK s₁.heap s'.heap∧s'.os=s₁.os∧AllBare s'.gens) s₁:=by
  intro H hO hS aV hA hK
  have Ah:∀{b:Addr}{o:Obj},s₁.heap.get? b=some o→H b=none→(tj s₁.heap H).get? b=some o:=fun e n=>C7 e n
  have Od:∀{b:Addr}{o:Obj}{es:Array DictEntry}{ep:Nat},s₁.heap.get? b=some o→o.data = .dict es ep→H b=none:=fun {b o es ep} e d=>by
   cases q:H b with
   | none=>rfl
   | some u =>
    have e':b=a:=hA b (by rw[q];simp)
    subst e'
    rw[ha] at e;cases e
    have d':Data.seq vs.toArray _=Data.dict es ep:=d
    cases d'
  have RB:∀{b:Addr}{m:Str→Option Value},s₁.heap.Ns b m→(tj s₁.heap H).Ns b m:=fun {b m} ⟨o,es,ep,e,d,r⟩=>⟨o,es,ep,Ah e (Od e d),d,r⟩
  have hKb:K.In (tj s₁.heap H):=fun b o e=>Ah (KX b o e) (by
   cases q:H b with
   | none=>rfl
   | some u =>
    have e':b=a:=hA b (by rw[q];simp)
    subst e'
    rw[hK (by rw[q];simp)] at e;cases e)
  have hM:Mod K mg (tj s₁.heap H):=⟨hKb,RB RA,⟨mb,RB hb,hbb⟩,let ⟨mc,h1,h2⟩:=Tv;⟨mc,RB h1,h2⟩⟩
  have e0:qW P w K mg (tj s₁.heap H) callerA [] s₁ H:=⟨rfl,hM,fun b o e=>GH e,Nat.le_of_eq (Bo _ _),trivial,fun b hb=>absurd (show b∈([]:List Addr) from hb) (by simp),aV,.of_eq hg⟩
  refine codeAny_mono ((F _ hKb (RB RA)).run callerA [] s₁ H ⟨[.ref a],[]⟩ [.ref a] [.ref a] _ _ hr e0 (Ot s₁ (.ref a)) (.cons rfl .nil) (CQ H hO hS)) fun r s' h=>?_
  cases r with
  | error e=>exact(Tw H e s' h).elim
  | ok fl =>
   cases fl with
   | next=>exact False.elim h
   | brk=>exact False.elim h
   | cont=>exact False.elim h
   | ret u =>
    obtain⟨v,H',os,bare,un,DJ,r',q⟩:=h
    have q':v = .bl true:=q
    subst q'
    obtain rfl:u=Value.bool true:=r'
    refine⟨rfl,OldK.of_keep fun b o e=>?_,os,bare⟩
    cases q:H b with
    | none=>exact un.keep b o e q (by intro z;exact absurd (show b∈([]:List Addr) from z) (by simp)) (by simp)
    | some u =>
     rcases hO b with z|⟨ob,xs,z⟩
     ·rw[q] at z;cases z
     ·have z2:=un.lp b ob _ z
      obtain⟨e1,_⟩:=aV b _ z
      obtain⟨e2,_⟩:=DJ b _ z2
      rw[e] at e1;cases e1
      exact e2
 cases hk:K.lookup a with
 | some o =>
  have e:=KX a o hk
  rw[ha] at e
  cases e
  refine core (fun _=>none) (fun _=>.inl rfl) (.inr ⟨_,vs.toArray,_,hk,rfl,rfl,rfl,by rw[List.size_toArray,Tx];exact hl,by simpa using rv⟩) (fun b u z=>by have z':(none:Option HO)=some u:=z;cases z') (fun b z=>absurd rfl z) fun z=>absurd rfl z
 | none =>
  refine core (fun b=>if b=a then some (.ya { cls:=.type "list",data:=.seq vs.toArray } (.lst (ns.map V.int))) else none) (fun b=>?_) (.inl (.inr ⟨{ cls:=.type "list",data:=.seq vs.toArray },if_pos rfl⟩)) (fun b u z=>?_) (fun b z=>?_) fun _=>hk
  ·by_cases hb:b=a
   ·exact .inr ⟨_,_,if_pos hb⟩
   ·exact .inl (if_neg hb)
  ·by_cases hb:b=a
   ·have z':=(if_pos hb).symm.trans z
    cases z'
    subst hb
    exact⟨ha,by rw[length_map];exact hl,vs,_,rv,ha⟩
   ·have z':=(if_neg hb).symm.trans z
    cases z'
  ·by_cases hb:b=a
   ·exact hb
   ·exact absurd (if_neg hb) z
abbrev KOf {K:Frag}{h:Heap}(_:K.In h):Frag:=K
theorem Hd {l:PySem.W.OpenLaw}{n k:Nat}{q:Program}{loose:List Str}{XP:(Str→Option Value)→Heap→Prop}{YP:World→Heap→Prop}{d:DefRec}{K:Params→Frag}{CX:World→Ac}{sp:World→Sp}{x:Str}
  (hn:l.most=some n) (Ru:n≤sizeLine) (Oo:d.params.defaults=[]) (hr:bF k callerA)
  (hY:∀(w:World) (h:Heap),YP w h→(K w.params).In h)
  (F:∀(w:World) (mg:Str→Option Value) (fa:Addr) (h:Heap),(K w.params).In h→h.Ns mainGlobals mg→mg d.name=some (.ref fa) →
   ∃fd:FuncData,(∀(s:Shared) (u:Value),BindsTo s fd ⟨[u],[]⟩ [(x,u)]) ∧
    ∀base:Heap,(K w.params).In base→base.Ns mainGlobals mg→fj l.prog w (K w.params) mg base (CX w) k fa fd [x] (sp w))
  (CQ:∀(w:World) (H:Hp) (a:Addr) (ns:List Int),ns.length≤n→K4 H→bP (K w.params) H a (ns.map V.int)→sp w [.ref a] H (fun v _=>v = .bl true) fun _ _ _=>False)
  (Tw:∀(w:World) (H:Hp) (s:Shared) (e:Value) (s':Shared),CX w [] H s (fun _ _ _=>False) e s'→False) :
  PySem.W.WalkO q loose XP YP l.row.toRowW d [] (fun f vs=>PySem.call f vs):=by
 refine Att.wa hn Oo fun w s₀ s₁ mg mb fa o pm cd doc a vs ns G Y ho hd vQ Oq K3 hints hlen hg=>?_
 have KX:=hY w _ Y
 obtain⟨fd,hb,hF⟩:=F w mg fa _ KX G.T.g Oq
 exact DI KX G.T.g G.T.b G.T.builtins G.T.nolimit hg K3 hints (Nat.le_trans hlen Ru) hr hF hb (fun H hO hS=>CQ w H a ns hlen hO hS) fun H e s'=>Tw w H s₁ e s'
end L2
/- THE LAST THEOREM (shape;LID,My.* are yours):
  My.Adr: a structure of the addresses that your layer names (classes,functions);My.Txt K t: a structure (Prop) of the equations over K;
  My.txt_mk:{K}{implicit addresses ..}(e1:nsIn K mainGlobals "law"=some (some (.ref f))) (e2:K.lookup f=some ⟨oc,od,.func (fnOf "law" "law" params body scope dV kV doc pm an cdv ct),sl⟩) (e3:codeIn K cdv "law"=true) ..:∃t,My.Txt K t
set_option maxRecDepth 100000 in
set_option maxHeartbeats 0 in
theorem PySem.Challenge.cw_LID_holds : PySem.Challenge.rw_LID.Holds := by
 w_on;o_law;k_head;(case hw=>w_witness2)
 k_fill
 refine L2.walk_of (l:=PySem.Challenge.rw_LID) (n:=63) (k:=40) (x:="script") (CX:=fun w=>..) (sp:=fun _=>My.sp_law) rfl (by decide) rfl ⟨rfl,by decide,by decide⟩ (fun w h Y=>PySem.W.kIn_of Y) ?F ?S ?C
 case F =>
  intro w mg fa h KX G hmg
  have T:∃t,My.Txt (L2.KOf KX) t:=by
   dsimp only [L2.KOf]                          -- K must stand as «<heap const> w.params» for k_is
   refine' My.txt_mk ?e1 ?e2 ?e3 ..
   (case e1=>PySem.W.k_is)                    -- in the order: a name -> its address -> its object -> its parts
   (case e2=>PySem.W.k_is)
   ..
  obtain⟨t,T⟩:=T
  have e0:=hmg.symm.trans (PySem.W.mg_of KX G T.law)
  cases e0                                       -- fa is the law's own address
  exact⟨_,fun s u=>.of_eq rfl,fun base kb nb=>My.law_fn T kb nb⟩     -- if «.of_eq rfl» comes too early: refine' ⟨_,?b,fun base kb nb=>My.law_fn T kb nb⟩;exact fun s u=>.of_eq rfl
 case S=>exact fun w H a ns hl hO hS=>..
 case C=>exact ..
(the tactic k_is has no namespace: write k_is) -/
namespace L2
open PySem PySem.Spec PyProof.Rows
def inClass (s:Stmt) (j:Nat):Stmt:=match s with
 | .ClassDef _ _ _ body _ _ _ _ _ _ _=>body.getD j (.Pass ⟨0,0,0,0⟩)
 | _=>.Pass ⟨0,0,0,0⟩
def av (s:Stmt):Arguments:=match s with
 | .FunctionDef _ a _ _ _ _ _ _ _ _=>a
 | _=>{ posonlyargs:=[],args:=[],vararg:=none,kwonlyargs:=[],kw_defaults:=[],kwarg:=none,defaults:=[] }
def ar (s:Stmt):List Stmt:=match s with
 | .FunctionDef _ _ b _ _ _ _ _ _ _=>b
 | _=>[]
def ae (s:Stmt):Scope:=match s with
 | .FunctionDef _ _ _ _ _ _ sc _ _ _=>sc
 | _=>{ kind:=.function,names:=[],isGenerator:=false,isCoroutine:=false }
abbrev aS:Ac:=fun _ _ _ _ _ _=>False
abbrev E0:XK:=fun _ _ _=>False
theorem wb {X:Cx}:Passes aS X E0:=fun _ _ _ _ _ _ _ h=>h.elim
structure CT (K:Frag) (x qual:Str) (st:Stmt) (f:Addr) (fd:FuncData):Prop where
 ex:∃(oc:Value) (od:Option Addr) (kV doc pm:Value) (an:Option Addr) (aR ct:Value) (nv:Array (Option Value)),
  fd=fnOf x qual (av st) (ar st) (ae st) .none kV doc pm an aR ct∧K.lookup f=some ⟨oc,od,.func fd,nv⟩∧codeIn K aR qual=true
 kp:keepIn K (.ref f)=true
section
variable {P:Program}{w:World}{K:Frag}{mg:Str→Option Value}{base:Heap}
theorem CT.ok {x qual:Str}{st:Stmt}{f:Addr}{fd:FuncData}{N ps:List Str}{k:Nat}{sp:Sp}(F:CT K x qual st f fd) (S:aw N ps (ae st)) (len:∀vs H Q E,sp vs H Q E→vs.length=ps.length)
  (fP:∀(aR:Value) (A:Around) (outer:List Env) (s:Shared) (H:Hp) (vs:List V) (Q:VK) (E:XK),bF k (A.deeper (envOfC qual (ae st) s.heap.objs.size f aR))→sp vs H Q E →
   ∃t,oH (lr aS P w K mg base N qual (ae st) f aR A outer s H E).vR (ar st) t∧t { nx:=fun _ H'=>Q .cH H',rt:=Q } (start N vs) H):fj P w K mg base aS (k+1) f fd ps sp:=by
 obtain⟨oc,od,kV,doc,pm,an,aR,ct,nv,rfl,lk,vQ⟩:=F.ex
 refine DB lk vQ S len fun A outer s H vs Q E hr CQ=>?_
 obtain⟨t,h,q⟩:=fP aR A outer s H vs Q E hr CQ
 exact⟨t,h.vR,q⟩
theorem CT.binds {x qual:Str}{st:Stmt}{f:Addr}{fd:FuncData}{ps:List Str}(F:CT K x qual st f fd)
  (h:∀(kV doc pm:Value) (an:Option Addr) (aR ct:Value) (us:List Value),us.length=ps.length→bindArgs (fnOf x qual (av st) (ar st) (ae st) .none kV doc pm an aR ct) ⟨us,[]⟩=pure (ps.zip us)):Binds K fd ps []:=by
 obtain⟨oc,od,kV,doc,pm,an,aR,ct,nv,rfl,lk,vQ⟩:=F.ex
 exact .all (h kV doc pm an aR ct)
theorem pC {x qual:Str}{st:Stmt}{f:Addr}{oc:Value}{od an:Option Addr}{nv:Array (Option Value)}{kV doc pm aR ct:Value}(l:K.lookup f=some ⟨oc,od,.func (fnOf x qual (av st) (ar st) (ae st) .none kV doc pm an aR ct),nv⟩)
  (c:codeIn K aR qual=true) (k:keepIn K (.ref f)=true):CT K x qual st f (fnOf x qual (av st) (ar st) (ae st) .none kV doc pm an aR ct):=⟨⟨oc,od,kV,doc,pm,an,aR,ct,nv,rfl,l,c⟩,k⟩
variable {X:Cx}
theorem pv (i:Nat) {x:Str}{pos:Pos}(hN:X.N[i]?=some x:=by rfl) (hv:SH X.env.scope x:=by first|exact Or.inl rfl|exact Or.inr (Or.inl rfl)|exact Or.inr (Or.inr rfl)) (hd:(x == ("__debug__":Str))=false:=by decide)
  (vQ:(x == ("__classdict__":Str))=false:=by decide):PE X (.Name x pos) (Dd i):=KA hN hv hd vQ
theorem js {A B:Prop}(h:B):if false=true then A else B:=by
 rw[if_neg Bool.false_ne_true]
 exact h
theorem qY {A B:Prop}(h:A):if true=true then A else B:=by
 rw[if_pos rfl]
 exact h
theorem wc {c A B:Prop}[Decidable c] (h1:c→A) (h2:¬c→B):if c then A else B:=by
 by_cases h:c
 ·rw[if_pos h]
  exact h1 h
 ·rw[if_neg h]
  exact h2 h
theorem Ou {c A B:Prop}[Decidable c] (hc:c) (h:B):if (!decide c)=true then A else B:=by
 rw[decide_eq_true hc]
 exact js h
def aq (H H':Hp):Prop:=∀b o,H b=some o→H' b=some o
theorem aq.refl (H:Hp):aq H H:=fun _ _ h=>h
theorem aq.trans {H H1 H2:Hp}(a:aq H H1) (b:aq H1 H2):aq H H2:=fun c o h=>b c o (a c o h)
theorem aq.free {H H':Hp}(e:aq H H') {l:Addr}(h:H' l=Option.none):H l=Option.none:=by
 cases q:H l with
 | none=>rfl
 | some o =>
  rw[e l o q] at h
  cases h
theorem aq.seq {K:Frag}{H H':Hp}{a:Addr}{xs:List V}(e:aq H H') (h:bP K H a xs):bP K H' a xs:=by
 rcases h with(h|⟨o,h⟩)|h
 ·exact .inl (.inl (e _ _ h))
 ·exact .inl (.inr ⟨o,e _ _ h⟩)
 ·exact .inr h
noncomputable def bp (names:List (Str×NameKind)) (cells:List (Str×Addr)):List (Str×Addr)→List (Str×Addr) :=
 fun acc=>names.foldl (fun a y=>if y.2 == NameKind.free then (match cells.lookup y.1 with|some c=>(y.1,c)::a|none=>a) else a) acc
theorem pE (env:Env):∀(names:List (Str×NameKind)) (acc:List (Str×Addr)),(∀y∈names,y.2 = .free→∃c,env.cells.lookup y.1=some c) →
  (forIn names acc fun(x:Str×NameKind) (r:List (Str×Addr))=>(match x with
   | (name,kind)=>if (kind == NameKind.free)=true then (do let c ←cellOf env name;pure (ForInStep.yield ((name,c)::r))) else pure (ForInStep.yield r):Sem (ForInStep (List (Str×Addr)))))=(pure (bp names env.cells acc):Sem _)
 | [],acc,_=>rfl
 | (n,k)::r,acc,h=>by
  have ih:=fun a=>pE env r a fun y hy=>h y (mem_cons_of_mem _ hy)
  rw[List.forIn_cons]
  by_cases hk:(k == NameKind.free)=true
  ·obtain⟨c,hc⟩:=h (n,k) mem_cons_self (by simpa using hk)
   have e1:cellOf env n=pure c:=by unfold cellOf;simp only at hc;rw[hc]
   simp only[hk,if_true,e1]
   have e2:bp ((n,k)::r) env.cells acc=bp r env.cells ((n,c)::acc):=by
    unfold bp;rw[List.foldl_cons];simp only[hk,if_true];simp only at hc;rw[hc]
   rw[e2,←ih];rfl
  ·have e2:bp ((n,k)::r) env.cells acc=bp r env.cells acc:=by
    unfold bp;rw[List.foldl_cons];simp only[hk];rfl
   simp only[hk]
   rw[e2,←ih];rfl
theorem iS {scope:Scope}{env:Env}(h:∀y∈scope.names,y.2 = .free→∃c,env.cells.lookup y.1=some c):closureFor scope env=pure (bp scope.names env.cells []):=by
 unfold closureFor
 have e:=pE env scope.names [] h
 first
  | (rw[e];rfl)
  | (simp only[e];rfl)
  | (show (forIn _ _ _ >>= _)=_;erw [e];rfl)
theorem gC {cells:List (Str×Addr)}:∀(names:List (Str×NameKind)) (acc:List (Str×Addr)) {p:Str×Addr},p∈bp names cells acc→p∈acc∨(cells.lookup p.1=some p.2∧(p.1,NameKind.free)∈names)
 | [],_,_,h=>.inl h
 | (n,k)::r,acc,p,h=>by
  unfold bp at h
  rw[List.foldl_cons] at h
  by_cases hk:(k == NameKind.free)=true
  ·simp only[hk,if_true] at h
   have Gj:k = .free:=by simpa using hk
   cases hc:cells.lookup n with
   | none =>
    rw[hc] at h
    rcases gC r acc h with z|⟨z,z'⟩
    ·exact .inl z
    ·exact .inr ⟨z,mem_cons_of_mem _ z'⟩
   | some c =>
    rw[hc] at h
    rcases gC r ((n,c)::acc) h with z|⟨z,z'⟩
    ·rcases List.mem_cons.mp z with z|z
     ·subst z;exact .inr ⟨hc,by rw[Gj];exact mem_cons_self⟩
     ·exact .inl z
    ·exact .inr ⟨z,mem_cons_of_mem _ z'⟩
  ·simp only[hk] at h
   rcases gC r acc h with z|⟨z,z'⟩
   ·exact .inl z
   ·exact .inr ⟨z,mem_cons_of_mem _ z'⟩
theorem gT {cells:List (Str×Addr)}:∀(names:List (Str×NameKind)) (acc:List (Str×Addr)) {p:Str×Addr},p∈acc→p∈bp names cells acc
 | [],_,_,h=>h
 | (n,k)::r,acc,p,h=>by
  unfold bp
  rw[List.foldl_cons]
  by_cases hk:(k == NameKind.free)=true
  ·simp only[hk,if_true]
   cases hc:cells.lookup n with
   | none=>exact gT r acc h
   | some c=>exact gT r ((n,c)::acc) (mem_cons_of_mem _ h)
  ·simp only[hk];exact gT r acc h
theorem d7 {cells:List (Str×Addr)}:∀(names:List (Str×NameKind)) (acc:List (Str×Addr)) {y:Str}{c:Addr},(y,NameKind.free)∈names→cells.lookup y=some c→(y,c)∈bp names cells acc
 | (n,k)::r,acc,y,c,h,hc=>by
  unfold bp
  rw[List.foldl_cons]
  rcases List.mem_cons.mp h with z|z
  ·cases z
   simp only[beq_self_eq_true,if_true,hc]
   exact gT r _ mem_cons_self
  ·by_cases hk:(k == NameKind.free)=true
   ·simp only[hk,if_true]
    cases hn:cells.lookup n with
    | none=>exact d7 r acc z hc
    | some d=>exact d7 r _ z hc
   ·simp only[hk];exact d7 r acc z hc
theorem aM {α:Type}:∀{l:List (Str×α)}{x:Str}{c:α},l.lookup x=some c→(x,c)∈l
 | [],_,_,h=>by simp at h
 | (n,d)::r,x,c,h=>by
  rw[List.lookup_cons] at h
  cases hx:x == n with
  | true =>
   rw[hx] at h
   have e:x=n:=by simpa using hx
   have e2:d=c:=by simpa using h
   rw[e,e2];exact mem_cons_self
  | false=>rw[hx] at h;exact mem_cons_of_mem _ (aM h)
theorem dm {α:Type}:∀{l:List (Str×α)}{x:Str}{c:α},(x,c)∈l→∃d,l.lookup x=some d
 | (n,d)::r,x,c,h=>by
  rw[List.lookup_cons]
  cases hx:x == n with
  | true=>exact⟨d,rfl⟩
  | false =>
   rcases List.mem_cons.mp h with z|z
   ·have:x=n:=congrArg Prod.fst z
    rw[this] at hx;simp at hx
   ·exact dm z
theorem bT {env:Env}:∀{names:List (Str×NameKind)}{x:Str}{k:NameKind},(∀y∈names,y.2≠.cell) →
  (names.map fun(n,k)=>if (k == NameKind.free&&env.scope.kind == .function&&env.kindOf n == some .cell) then (n,NameKind.cell) else (n,k)).lookup x=some k →
  names.lookup x=some k∨(names.lookup x=some .free∧k = .cell)
 | [],_,_,_,h=>by simp at h
 | (n,k')::r,x,k,hc,h=>by
  have ih:=@bT env r x k fun y hy=>hc y (mem_cons_of_mem _ hy)
  rw[List.map_cons] at h
  by_cases yC:(k' == NameKind.free&&env.scope.kind == .function&&env.kindOf n == some .cell)=true
  ·simp only[yC,if_true] at h
   rw[List.lookup_cons] at h ⊢
   cases hx:x == n with
   | true =>
    rw[hx] at h
    have Gj:k' = .free:=by
     have:=(Bool.and_eq_true_iff.mp (Bool.and_eq_true_iff.mp yC).1).1
     simpa using this
    have:NameKind.cell=k:=by simpa using h
    exact .inr ⟨by rw[Gj],this.symm⟩
   | false=>rw[hx] at h;exact ih h
  ·simp only[yC] at h
   rw[show (if false=true then (n,NameKind.cell) else (n,k'))=(n,k') from rfl] at h
   rw[List.lookup_cons] at h ⊢
   cases hx:x == n with
   | true=>rw[hx] at h;exact .inl h
   | false=>rw[hx] at h;exact ih h
structure jO (N N':List Str) (x:Str) (sc osc:Scope):Prop where
 kind:sc.kind = .function
 d8:∀y∈sc.names,y.2≠.cell
 own:∀y∈sc.names,y.2 = .local→y.1=x∨y.1=".0"
 has:sc.names.lookup x=some .local
 names:∀y∈sc.names,y.2 = .local→sc.names.lookup y.1=some .local
 vR:x∉N'
 RC:(".0":Str)∉N'
 nd:N'.Nodup
 len:N'.length=N.length
 sub:∀p∈N.zip N',p.1=p.2∨sc.names.lookup p.2=none
 free:∀y∈sc.names,y.2 = .free→osc.names.lookup y.1=some .cell∨osc.names.lookup y.1=some .free
noncomputable def K5 (N N':List Str) (x:Str) (sc osc:Scope):Bool :=
 decide (sc.kind = .function)&&decide (∀y∈sc.names,y.2≠.cell)&&decide (∀y∈sc.names,y.2 = .local→y.1=x∨y.1=".0")&&decide (sc.names.lookup x=some .local) &&
  decide (∀y∈sc.names,y.2 = .local→sc.names.lookup y.1=some .local)&&decide (x∉N')&&decide ((".0":Str)∉N')&&decide N'.Nodup&&decide (N'.length=N.length)&&decide (∀p∈N.zip N',p.1=p.2∨sc.names.lookup p.2=none)&&decide (∀y∈sc.names,y.2 = .free→osc.names.lookup y.1=some .cell∨osc.names.lookup y.1=some .free)
theorem csH {N N':List Str}{x:Str}{sc osc:Scope}(h:K5 N N' x sc osc=true):jO N N' x sc osc:=by
 unfold K5 at h
 simp only[Bool.and_eq_true,decide_eq_true_eq] at h
 obtain⟨⟨⟨⟨⟨⟨⟨⟨⟨⟨h1,h2⟩,h3⟩,h4⟩,h5⟩,h6⟩,h7⟩,h9⟩,Tz⟩,TB⟩,h8⟩:=h
 exact⟨h1,h2,h3,h4,h5,h6,h7,h9,Tz,TB,h8⟩
theorem cs {N:List Str}{x:Str}{sc osc:Scope}(h:K5 N N x sc osc=true):jO N N x sc osc:=csH h
def oM (X:Cx) (N':List Str) (x:Str) (sc:Scope) (C:Addr) (s2:Shared) (H2:Hp) (fp:List Addr):Cx :=
 { X with N:=x::N',s₀:=s2,H₀:=H2,env:=compEnvC sc (bp sc.names X.env.cells []) C X.env,outer:=X.stack,stack:=X.stack,ex:=fp,fn:=fun _=>false,pn:=[],xe:=fun _ _=>False }
variable {π:List (Addr×Obj)}{σ:St}{H:Hp}{H2:Hp}{s:Shared}{s2:Shared}{x:Str}{sc:Scope}{C:Addr}{fp:List Addr}{N':List Str}
theorem et (S:jO X.N N' x sc X.env.scope) {y:Str}{c:Addr}(h:(bp sc.names X.env.cells []).lookup y=some c):X.env.cells.lookup y=some c∧(y,NameKind.free)∈sc.names:=by
 rcases gC _ _ (aM h) with z|z
 ·simp at z
 ·exact z
theorem K6 (I:Inv X π σ H2 s2) (S:jO X.N N' x sc X.env.scope) (hC:s2.heap.objs.size≤C) (hf:∀b∈fp,gA X π H2 b) (qZ:∀b∈fp,∃o,s2.heap.get? b=some o∧∀v,o.data≠.cell v):(oM X N' x sc C s2 H2 fp).Ok where
 mod:=I.ok.mod
 kind:=S.kind
 glob:=I.ok.glob
 blt:=I.ok.blt
 above:=hC
 inj:=fun y z c h1 h2=>I.ok.inj y z c (et S h1).1 (et S h2).1
 has:=fun y h=>by
  have key:∀k,(relabel sc X.env).names.lookup y=some k→(k = .cell∨k = .free)→∃c,(bp sc.names X.env.cells []).lookup y=some c:=fun k hk DK=>by
   have jr:sc.names.lookup y=some .free:=by
    rcases bT (env:=X.env) S.d8 hk with z|⟨z,_⟩
    ·rcases DK with e|e
     ·rw[e] at z;exact absurd rfl (S.d8 _ (aM z))
     ·rw[e] at z;exact z
    ·exact z
   have hm:=aM jr
   obtain⟨c,hc⟩:=I.ok.has y (S.free _ hm rfl)
   exact dm (d7 sc.names [] hm hc)
  rcases h with h|h
  ·exact key _ h (.inl rfl)
  ·exact key _ h (.inr rfl)
 GJ:=fun y c h=>by cases h
 hd:=fun h=>I.ok.hd h
 frames:=I.ok.frames
 JE:=.inl rfl
 Nc:=fun b hb=>by
  obtain⟨o,ho,hd⟩:=qZ b hb
  refine⟨Nat.ne_of_lt (Nat.lt_of_lt_of_le (Heap.lt_size ho) hC),fun y c h=>(hf b hb).2.2.2.2.1 y c (et S h).1⟩
 bs:=I.bs
 vN:=Nat.le_trans I.ok.vN I.sz
 qT:=fun b o h hb=>by
  have h1:=(hf b hb).2.2.2.1
  rcases h1 with z|z
  ·exact I.ok.qT b o h z
  ·exact absurd (Nat.lt_of_lt_of_le (Heap.lt_size h) (Nat.le_trans I.ok.vN z)) (Nat.lt_irrefl _)
 vO:=fun b hb h=>by
  rcases List.mem_cons.mp (I.jD b h) with e|z
  ·exact(hf b hb).2.1 e
  ·exact(hf b hb).2.2.1 z
 jC:=I.stack
 CJ:=I.oQ
theorem BI {h4:Heap}{t4:Nat}(I:Inv X π σ H2 s2) (S:jO X.N N' x sc X.env.scope) (hf:∀b∈fp,gA X π H2 b) (qZ:∀b∈fp,∃o,s2.heap.get? b=some o∧∀v,o.data≠.cell v)
  (hC:s2.heap.objs.size≤C) (hn:h4.Ns C fun _=>none) (hk:∀b o,s2.heap.get? b=some o→h4.get? b=some o) {q:List (Addr×Obj)}(hq:∀p∈q,h4.get? p.1=some p.2∧H2 p.1=none∧p.1≠C∧p.1∉nk X.stack∧∀v,p.2.data≠.cell v) :
  Inv (oM X N' x sc C s2 H2 fp) q (none::σ) H2 { s2 with heap:=h4,toks:=t4 } where
 ok:=K6 I S hC hf qZ
 os:=rfl
 bare:=I.bare
 base:=Un.kept hk
 loc:=by
  refine⟨fun _=>none,hn,fun i y v e1 e2 e3=>?_⟩
  cases i with
  | zero=>simp at e2
  | succ i =>
   have K7:N'[i]?=some y:=by simpa[oM] using e1
   have TF:σ[i]?=some (some v):=by simpa using e2
   have hm:y∈N':=mem_of_getElem? K7
   have TH:X.N[i]?=some y:=by
    have hi:i<X.N.length:=by rw[←S.len];exact(List.getElem?_eq_some_iff.mp K7).1
    have hz:(X.N[i],y)∈X.N.zip N':=by
     refine mem_of_getElem? (i:=i) ?_
     rw[List.getElem?_zip_eq_some]
     exact⟨getElem?_eq_getElem hi,K7⟩
    rcases S.sub _ hz with z|z
    ·rw[getElem?_eq_getElem hi];exact congrArg some z
    ·exfalso
     have no:∀k,(relabel sc X.env).names.lookup y≠some k:=fun k hk=>by
      rcases bT (env:=X.env) S.d8 hk with w|⟨w,_⟩
      ·rw[show sc.names.lookup y=none from z] at w;cases w
      ·rw[show sc.names.lookup y=none from z] at w;cases w
     rcases e3 with w|w|w
     ·exact no _ w
     ·exact no _ w
     ·exact no _ w
   have jr:sc.names.lookup y=some .free:=by
    have case:∀k,(relabel sc X.env).names.lookup y=some k→(k = .local ∨ k = .cell∨k = .free)→sc.names.lookup y=some .free:=fun k hk DK=>by
     rcases bT (env:=X.env) S.d8 hk with z|⟨z,_⟩
     ·rcases DK with e|e|e
      ·rw[e] at z
       rcases S.own _ (aM z) rfl with w|w
       ·exact absurd (w▸hm) S.vR
       ·exact absurd (w▸hm) S.RC
      ·rw[e] at z;exact absurd rfl (S.d8 _ (aM z))
      ·rw[e] at z;exact z
     ·exact z
    rcases e3 with z|z|z
    ·exact case _ z (.inl rfl)
    ·exact case _ z (.inr (.inl rfl))
    ·exact case _ z (.inr (.inr rfl))
   have pF:=aM jr
   have kd:X.env.kindOf y=some .cell∨X.env.kindOf y=some .free:=S.free _ pF rfl
   obtain⟨m,CU,hl⟩:=I.loc
   obtain⟨u,r,lk⟩:=hl i y v TH TF (by rcases kd with z|z;exact .inr (.inl z);exact .inr (.inr z))
   obtain⟨c,hc,rT⟩:∃c,X.env.cells.lookup y=some c∧s2.heap.IsCell c (some u):=by
    rcases lk with⟨z,_⟩|⟨_,z⟩
    ·rcases kd with w|w
     ·rw[w] at z;cases z
     ·rw[w] at z;cases z
    ·exact z
   refine⟨u,r,.inr ⟨?_,c,?_,?_⟩⟩
   ·rcases e3 with z|z|z
    ·exfalso
     rcases bT (env:=X.env) S.d8 z with q|⟨_,q⟩
     ·rw[jr] at q;cases q
     ·cases q
    ·exact .inl z
    ·exact .inr z
   ·obtain⟨d,hd⟩:=dm (d7 sc.names [] pF hc)
    have:=(et S hd).1
    rw[hc] at this;cases this
    exact hd
   ·obtain⟨o,ho,hd⟩:=rT
    exact⟨o,hk _ _ ho,hd⟩
 cell:=fun y c e=>by
  obtain⟨v,o,ho,hd⟩:=I.cell y c (et S e).1
  exact⟨v,o,hk _ _ ho,hd⟩
 free:=I.aV.fresh hC
 dP:=fun y c e=>I.dP y c (et S e).1
 pin:=fun p hp=>by
  have JP:p∈q:=by simpa[oM] using hp
  exact hq p JP
 aV:=I.aV.kept hk
 len:=by show (none::σ).length=(x::N').length;simp[I.len,S.len]
theorem mB {prog:Program}{w:World}{A:Around}{R:Result→Shared→Prop}{s:Shared}{elt target iter:Expr}{ifs:List Expr}{scope:Scope}{pos:Pos}{it acc:Value}{env:Env}(I:Nat→Shared→Prop)
  (turn:∀n s,I n s→wpAny (model prog w) A (pyNext it) (fun r s₁=>match r with
   | none=>R (.ok .next) s₁
   | some v=>wpAny (model prog w) A (letOwnedTupleGo target it v) (fun _ s₁'=>wpAny (model prog w) A (assign target env v) (fun _ s₂ =>
     wpAny (model prog w) A (forIn ifs true fun c r=>if r=true then do let ok ←isTrue c env (eval c env);pure (ForInStep.yield ok) else pure (ForInStep.yield r)) (fun ok s₃ =>
      if ok=true then wpAny (model prog w) A (eval elt env) (fun x s₄ =>
       wpAny (model prog w) A (call (.builtin "list.append") [acc,x]) (fun _ s₅=>∃m,m<n∧I m s₅) (fun _ _=>False) s₄) (fun _ _=>False) s₃
      else ∃m,m<n∧I m s₃) (fun _ _=>False) s₂) (fun _ _=>False) s₁') (fun _ _=>False) s₁) (fun _ _=>False) s)
  (n:Nat) (h:I n s) :
  codeAny (model prog w) A (.compLoop (.ListComp elt [⟨target,iter,ifs,0⟩] scope pos) 0 it acc env) R s:=by
 refine codeAny_loop rfl I (fun n s hI=>?_) n h
 show wpAny _ A ((compTurn (.ListComp elt [⟨target,iter,ifs,0⟩] scope pos) 0 it acc env).onRaise (fun x=>do noteFrame x env;theTreesLotGoes x)) _ _ s
 refine wpAny_noted ?_
 rw[compTurn_list]
 refine wpAny_bind (wpAny_standAt (wpAny_bind (wpAny_mono (turn n s hI) (fun r s₁ h₁=>?_) fun _ _ h'=>h'.elim)))
 cases r with
 | none=>exact wpAny_pure h₁
 | some v =>
  refine wpAny_bind (wpAny_mono h₁ (fun _ s₁' h₁'=>?_) fun _ _ h'=>h'.elim)
  refine wpAny_bind (wpAny_mono h₁' (fun _ s₂ h₂=>wpAny_bind (wpAny_mono h₂ (fun ok s₃ h₃=>?_) fun _ _ h'=>h'.elim)) fun _ _ h'=>h'.elim)
  cases ok with
  | false=>exact wpAny_pure ⟨rfl,h₃⟩
  | true =>
   exact wpAny_bind (wpAny_bind (wpAny_mono h₃ (fun x s₄ h₄=>wpAny_bind (wpAny_mono h₄ (fun _ s₅ h₅=>wpAny_pure (wpAny_pure ⟨rfl,h₅⟩)) fun _ _ h'=>h'.elim)) fun _ _ h'=>h'.elim))
def q8 (X:Cx) (ifs:List Expr) (t:TT):Prop :=
 ∀(π:List (Addr×Obj)) (s:Shared) (σ:St) (H:Hp) (Q:Bool→Hp→Prop),Inv X π σ H s→t σ H Q →
  wpAny (model X.prog X.w) X.A (forIn ifs true fun c r=>if r=true then do let ok ←isTrue c X.env (eval c X.env);pure (ForInStep.yield ok) else pure (ForInStep.yield r)) (TP X π σ Q) X.xe s
def oN:TT:=fun _ H Q=>Q true H
theorem b9 {X:Cx}:q8 X [] oN:=fun _ _ _ H _ I h=>wpAny_tests_nil ⟨H,I,h⟩
theorem jP {X:Cx}{c:Expr}{t:TT}(hc:PT X c t):q8 X [c] t:=fun π s σ H Q I h=>wpAny_tests_one (hc π s σ H Q I h)
theorem iB.lD {P:Program}{w:World}{H:Hp}{h:Heap}{a:Addr}{o:HO}(x:iB P w H h) (hn:H a=none) (new:bI P w (upd H a o) h a o):iB P w (upd H a o) h:=fun b u e=>by
 by_cases hb:b=a
 ·subst hb;rw[aj] at e;cases e;exact new
 ·rw[aA hb] at e
  exact(x b u e).lN (fun c v _ q=>q) (fun c q=>by rw[aA (aF q hn)];exact q) fun c xs q=>by rw[aA (aF q hn)];exact q
theorem Un.lD {fs ex:List Addr}{H H1:Hp}{h h1:Heap}{a:Addr}{o:HO}(u:Un fs ex H H1 h h1) (hn:H1 a=none) (hf:h.get? a=none):Un fs ex H (upd H1 a o) h h1 where
 keep:=u.keep
 slot:=u.slot
 free:=fun b ob q n hx=>by
  rw[aA (by rintro rfl;rw[hf] at q;cases q)]
  exact u.free b ob q n hx
 there:=u.there
 lO:=fun b xs q=>by have:=u.lO b xs q;rw[aA (aF this hn)];exact this
 lp:=fun b ob y q=>by have:=u.lp b ob y q;rw[aA (aF this hn)];exact this
 lP:=fun b ps q=>by
  obtain⟨m,e⟩:=u.lP b ps q
  exact⟨m,by rw[aA (aF e hn)];exact e⟩
def oo (J:It) (tt:TT) (te:TE) (σ:St) (Q:VK) (W:Nat→Nat→List V→Hp→Prop):Prop:=∀i m ys H,W i m ys H →
 (J.stop i H∧ys.length≤sizeLine∧∀p,H p=none→Q (.ref p) (upd H p (.lst ys))) ∨
 (J.go i H∧ys.length<sizeLine∧∀x H',J.JH i H x H'→tt (some x::σ) H' fun b H3=>if b=true then te (some x::σ) H3 fun y H4=>∃m',m'<m∧W (i+1) m' (ys++[y]) H4 else ∃m',m'<m∧W (i+1) m' ys H3)
def DL (wi:TI) (tt:TT) (te:TE):TE:=fun σ H Q=>wi σ H fun J H1=>∃W:Nat→Nat→List V→Hp→Prop,(∃m,W 0 m [] H1)∧oo J tt te σ Q W
theorem sh {s2:Shared}{H2:Hp}{elt iter:Expr}{ifs:List Expr}{px pos:Pos}{tt:TT}{te:TE}{Q:VK}{RR:Value→Addr→Result→Shared→Prop}{E:Value→Shared→Prop}
  (hc:X.calm=true) (hN:X.N.Nodup) (S:jO X.N N' x sc X.env.scope)
  (ht:∀C s2 H2 fp,q8 (oM X N' x sc C s2 H2 fp) ifs tt) (he:∀C s2 H2 fp,PE (oM X N' x sc C s2 H2 fp) elt te)
  (I2:Inv X π σ H2 s2) {it:Addr}{fp:List Addr}{tn:Nat→Heap→Prop}{J:It}(T:Turn X.prog X.w X.K (.Name x px) J fp it tn) (vU:tn 0 s2.heap) (f2:∀b∈fp,gA X π H2 b)
  (W:Nat→Nat→List V→Hp→Prop) (w0:∃m,W 0 m [] H2)
  (turn:oo J tt te σ Q W)
  (TJ:∀D C s' H',Inv X π σ H' s'→gA X π H' C→(∃m,s'.heap.Ns C m)→Q (.ref D) H'→RR (.ref D) C (.ok .next) s') :
  wpAny (model X.prog X.w) X.A (newList []) (fun acc s₃=>wpAny (model X.prog X.w) X.A (newFunctionEnv sc X.env.globals (bp sc.names X.env.cells []) [] X.env.qual none .none (some X.env)) (fun DM s₄ =>
   codeAny (model X.prog X.w) X.A (.compStart (.ListComp elt [⟨.Name x px,iter,ifs,0⟩] sc pos) 0 (.ref it) acc { DM with scope:=relabel sc X.env }) (RR acc DM.locals) s₄) E s₃) E s2:=by
 have qZ:=T.obj _ _ vU
 refine wpAny_newObj_type (wpAny_newFunctionEnv S.d8 (by intro y hy;simp at hy) (fun h₁ hns₁ hsb₁=>?_) S.kind)
 dsimp only at hns₁ hsb₁ ⊢
 generalize K8:s2.heap.push { cls:=.type "list",dict:=none,data:=.seq ([]:List Value).toArray }=HP at hns₁ hsb₁ ⊢
 have hC:HP.objs.size=s2.heap.objs.size+1:=by rw[←K8,Heap.size_push]
 have DN:s2.heap.objs.size≠HP.objs.size:=by rw[hC];exact Nat.ne_of_lt (Nat.lt_succ_self _)
 have yD:s2.heap.objs.size≤HP.objs.size:=by rw[hC];exact Nat.le_succ _
 have below:∀b,b<s2.heap.objs.size→b≠HP.objs.size∧b≠s2.heap.objs.size:=fun b hb=>⟨by rw[hC];exact Nat.ne_of_lt (Nat.lt_succ_of_lt hb),Nat.ne_of_lt hb⟩
 have old:∀b o,s2.heap.get? b=some o→h₁.get? b=some o:=fun b o e=>hsb₁.extBut b o (below b (Heap.lt_size e)).1 (Heap.get?_push_of_some _ (K8▸Heap.get?_push_of_some _ e))
 have K9:h₁.get? s2.heap.objs.size=some { cls:=.type "list",dict:=none,data:=.seq ([]:List Value).toArray }:=hsb₁.extBut _ _ DN (Heap.get?_push_of_some _ (K8▸Heap.get?_push_size _ rfl))
 have TK:H2 s2.heap.objs.size=none:=I2.aV.fresh (Nat.le_refl _)
 have DO:s2.heap.objs.size∉nk X.stack:=fun hb=>by
  obtain⟨_,o,ho,_⟩:=I2.stack.mem hb
  exact absurd (Heap.lt_size ho) (Nat.lt_irrefl _)
 have DP:s2.heap.objs.size∉fp:=fun hb=>by
  obtain⟨o,ho,_⟩:=qZ _ hb
  exact absurd (Heap.lt_size ho) (Nat.lt_irrefl _)
 have La:HP.objs.size∉fp:=fun hb=>by
  obtain⟨o,ho,_⟩:=qZ _ hb
  exact absurd (Nat.lt_of_lt_of_le (Heap.lt_size ho) yD) (Nat.lt_irrefl _)
 obtain⟨m0,w0⟩:=w0
 have ph:∀{H':Hp}{o:Obj},(∀b∈fp,H' b=none)→∀b∈fp,gA (oM X N' x sc HP.objs.size s2 H2 fp) [(s2.heap.objs.size,o)] H' b:=fun {H' o} hn b hb=>by
  obtain⟨f0,f1,TL,f3,f4,f5⟩:=f2 b hb
  refine⟨hn b hb,fun e=>La (by rw[←show b=HP.objs.size from e];exact hb),fun z=>?_,.inl hb,fun y c e=>f4 y c (et S e).1,fun p hp=>?_⟩
  ·rcases List.mem_cons.mp (I2.jD b z) with e|z
   ·exact f1 e
   ·exact TL z
  ·have:p=(s2.heap.objs.size,o):=by simpa[oM] using hp
   subst this
   rintro rfl
   exact DP hb
 let Iv:Nat→Shared→Prop:=fun n s'=>∃i ys its k σx H',Inv (oM X N' x sc HP.objs.size s2 H2 fp) [(s2.heap.objs.size,{ cls:=.type "list",data:=.seq (List.toArray its) k })] (σx::σ) H' s' ∧
  Vals ys its∧tn i s'.heap∧(∀b∈fp,H' b=none)∧W i n ys H'
 have I4:Inv (oM X N' x sc HP.objs.size s2 H2 fp) [(s2.heap.objs.size,{ cls:=.type "list",data:=.seq (List.toArray []) 0 })] (none::σ) H2 { s2 with heap:=h₁,toks:=s2.toks+([]:List (Str×Value)).length }:=by
  refine BI I2 S f2 qZ yD (by simpa using hns₁) old fun p hp=>?_
  have e:p=(s2.heap.objs.size,{ cls:=.type "list",data:=.seq (List.toArray []) 0 }):=by simpa using hp
  subst e
  exact⟨K9,TK,DN,DO,fun v=>by intro z;cases z⟩
 have loop:∀s₃:Shared,s₃={ s2 with heap:=h₁,toks:=s2.toks+([]:List (Str×Value)).length } →
   codeAny (model X.prog X.w) X.A (.compLoop (.ListComp elt [⟨.Name x px,iter,ifs,0⟩] sc pos) 0 (.ref it) (.ref s2.heap.objs.size) (compEnvC sc (bp sc.names X.env.cells []) HP.objs.size X.env))
    (RR (.ref s2.heap.objs.size) HP.objs.size) s₃:=by
  rintro s₃ rfl
  refine mB Iv ?_ m0 ⟨0,[],[],0,none,H2,I4,.nil,T.keep _ _ _ vU fun b _ o e=>old b o e,fun b hb=>(f2 b hb).1,w0⟩
  rintro n s3 ⟨i,ys,its,k,σx,H3,I3,rv,JJ,JK,w3⟩
  have hy:=rv.length
  rcases turn i n ys H3 w3 with⟨stop,hz,q⟩|⟨go,hz,step⟩
  ·refine bL (T.done (oM X N' x sc HP.objs.size s2 H2 fp) rfl rfl rfl hc i _ s3 _ H3 _ I3 (ph JK) JJ stop) fun r s4 ⟨hr,I4⟩=>?_
   subst hr
   have pD:=I4.pin (s2.heap.objs.size,{ cls:=.type "list",data:=.seq (List.toArray its) k }) (by simp[oM])
   have new:bI X.prog X.w (upd H3 s2.heap.objs.size (.lst ys)) s4.heap s2.heap.objs.size (.lst ys):=⟨hz,its,k,rv,pD.1⟩
   have DJ:=I4.aV.lD (o:=.lst ys) pD.2.1 new
   have TM:Un (nk X.stack) fp H2 (upd H3 s2.heap.objs.size (.lst ys)) s2.heap s4.heap:=I4.base.lD pD.2.1 (Heap.get?_none_of_le (Nat.le_refl _))
   have IX:Inv X π σ (upd H3 s2.heap.objs.size (.lst ys)) s4:=I2.Dc I4.os TM DJ I4.bare fun b hb=>⟨(f2 b hb).2.2.2.1,(f2 b hb).2.1,(f2 b hb).2.2.2.2.1,(f2 b hb).2.2.2.2.2⟩
   obtain⟨m,CU,_⟩:=I4.loc
   refine TJ _ _ s4 _ IX ?_ ⟨m,CU⟩ (q _ pD.2.1)
   exact I2.vS yD (by rw[aA (Ne.symm DN)];exact I4.free)
  ·refine bL (T.item (oM X N' x sc HP.objs.size s2 H2 fp) rfl rfl rfl hc i _ s3 _ H3 _ I3 (ph JK) JJ go) fun r s4 ⟨u,hr,h4⟩=>?_
   subst hr
   refine bL h4 fun _ s5 ⟨y,H5,I5,r5,y5,Dk,N3⟩=>?_
   have N4:=I5.pinned (ph N3) (T.obj _ _ Dk)
   have DQ:=step y H5 y5
   have Lb:Inv (oM X N' x sc HP.objs.size s2 H2 fp) ([(s2.heap.objs.size,{ cls:=.type "list",data:=.seq (List.toArray its) k })]++jH fp s5.heap) (none::σ) H5 s5:=N4.weak rfl fun j v e=>by
    cases j with
    | zero=>simp at e
    | succ j=>simpa using e
   have lx:(relabel sc X.env).names.lookup x=some .local:=lookup_relabel_local S.has
   have TN:PG (oM X N' x sc HP.objs.size s2 H2 fp) (.Name x px) (aP 0):=aK (i:=0) (List.nodup_cons.mpr ⟨S.vR,S.nd⟩) rfl (Or.inl lx) (Or.inr lx)
   refine bL (TN _ s5 (none::σ) H5 y u (fun σ6 H6=>σ6=some y::σ∧tt (some y::σ) H6 fun b H3=>if b=true then te (some y::σ) H3 fun y H4=>∃m',m'<n∧W (i+1) m' (ys++[y]) H4 else ∃m',m'<n∧W (i+1) m' ys H3) Lb r5 ⟨rfl,DQ⟩) fun _ s6 ⟨σ6,H6,I6,e6,q6⟩=>?_
   subst e6
   refine bL (ht _ s2 H2 fp _ s6 _ H6 _ I6 q6) fun b s7 ⟨H7,I7,q7⟩=>?_
   have wd:∀{H8:Hp}{s8:Shared},Inv (oM X N' x sc HP.objs.size s2 H2 fp) ([(s2.heap.objs.size,{ cls:=.type "list",data:=.seq (List.toArray its) k })]++jH fp s5.heap) (some y::σ) H8 s8 →
     tn (i+1) s8.heap∧(∀b∈fp,H8 b=none):=fun {H8 s8} I8=>by
    refine⟨T.keep _ _ _ Dk fun b hb o e=>(I8.pin (b,o) (mem_append_right _ (mem_append_right _ (fh hb e)))).1,fun b hb=>?_⟩
    obtain⟨o,e,d⟩:=T.obj _ _ Dk b hb
    exact(I8.pin (b,o) (mem_append_right _ (mem_append_right _ (fh hb e)))).2.1
   cases b with
   | false =>
    obtain⟨m',hm,w7⟩:=q7
    obtain⟨t7,f7⟩:=wd I7
    exact⟨m',hm,i+1,ys,its,k,some y,H7,I7.jI,rv,t7,f7,w7⟩
   | true =>
    refine bL (he _ s2 H2 fp _ s7 _ H7 _ I7 q7) fun z s8 ⟨yv,H8,I8,r8,m',hm,w8⟩=>?_
    obtain⟨t8,f8⟩:=wd I8
    have pD:=I8.pin (s2.heap.objs.size,{ cls:=.type "list",data:=.seq (List.toArray its) k }) (by simp[oM])
    refine call_meets F.slot_list_append ⟨_,pD.1,rfl⟩ F.entry_list_append (F.args_list_append_2 _ _) (PySem.list_append s2.heap.objs.size its.toArray k z (by rw[List.size_toArray];omega)) ⟨pD.1,?_⟩
    have e9:=PySem.IsL.update pD.1 (fun a=>a.push z)
    rw[show its.toArray.push z=(its++[z]).toArray by simp] at e9
    obtain⟨k',e9⟩:∃k',(s8.heap.update s2.heap.objs.size (Obj.mapSeq fun a=>a.push z)).get? s2.heap.objs.size=some { cls:=.type "list",data:=.seq (its++[z]).toArray k' }:=⟨_,e9⟩
    have other:∀b,b≠s2.heap.objs.size→(s8.heap.update s2.heap.objs.size (Obj.mapSeq fun a=>a.push z)).get? b=s8.heap.get? b:=fun b hb=>Heap.get?_update_other _ _ (Ne.symm hb)
    have TQ:Inv (oM X N' x sc HP.objs.size s2 H2 fp) [] (some y::σ) H8 s8:=I8.kK fun p hp=>nomatch hp
    have I9:Inv (oM X N' x sc HP.objs.size s2 H2 fp) [] (some y::σ) H8 { s8 with heap:=s8.heap.update s2.heap.objs.size (Obj.mapSeq fun a=>a.push z) }:=by
     refine TQ.turned (it:=s2.heap.objs.size) (fun b o hb e=>(other b hb).trans e) pD.2.1 DN (.inr (Nat.le_refl _)) (fun y c e=>?_) fun p hp=>?_
     ·intro Nd
      obtain⟨v,o,ho,_⟩:=I2.cell y c (et S e).1
      exact absurd (Heap.lt_size ho) (by rw[Nd];exact Nat.lt_irrefl _)
     ·simp[oM] at hp
    have TR:Inv (oM X N' x sc HP.objs.size s2 H2 fp) [(s2.heap.objs.size,{ cls:=.type "list",data:=.seq (List.toArray (its++[z])) k' })] (some y::σ) H8 { s8 with heap:=s8.heap.update s2.heap.objs.size (Obj.mapSeq fun a=>a.push z) }:=I9.kK fun p hp=>by
     have e:=mem_singleton.mp hp
     subst e
     exact⟨e9,pD.2.1,DN,DO,fun v=>by intro z;cases z⟩
    have t9:tn (i+1) (s8.heap.update s2.heap.objs.size (Obj.mapSeq fun a=>a.push z)):=T.keep _ _ _ t8 fun b hb o e=>by
     rw[other b (by rintro rfl;exact DP hb)];exact e
    exact⟨m',hm,i+1,ys++[yv],its++[z],k',some y,H8,TR,rv.append (.cons r8 .nil),t9,f8,w8⟩
 exact codeAny_compStart_list (loop _ rfl) (T.self X.A 0 _ _ _ (T.keep _ _ _ vU fun b _ o e=>old b o e) (loop _ rfl))
theorem eJ {iter elt:Expr}{ifs:List Expr}{px pos:Pos}{wi:TI}{tt:TT}{te:TE}(hc:X.calm=true) (hN:X.N.Nodup) (S:jO X.N N' x sc X.env.scope) (hi:PI X (.Name x px) iter wi)
  (ht:∀C s2 H2 fp,q8 (oM X N' x sc C s2 H2 fp) ifs tt) (he:∀C s2 H2 fp,PE (oM X N' x sc C s2 H2 fp) elt te) (hs:∀v,foldedSetIterable iter X.env v=pure v:=by intro _;rfl) :
  PE X (.ListComp elt [⟨.Name x px,iter,ifs,0⟩] sc pos) (DL wi tt te):=by
 intro π s σ H Q I h
 have pG:closureFor sc X.env=pure (bp sc.names X.env.cells []):=iS fun y hy hk=>I.ok.has _ (S.free y hy hk)
 rw[eval_ListComp]
 refine wpAny_comprehension_free (use:=none) rfl hs pG S.kind S.names (bL (hi π s σ H _ I h) fun v s1 h1=>bL h1 fun Nf s2 h2=>?_)
 obtain⟨it,fp,tn,J,H2,e,I2,T,vU,f2,W,w0,turn⟩:=h2
 subst e
 refine sh (RR:=fun acc C=>compPost (model X.prog X.w) X.A X.xe none (EP X π σ Q) acc C) hc hN S ht he I2 T vU f2 W w0 turn fun D C s' H' I' fC hn q=>?_
 obtain⟨m,hn⟩:=hn
 refine⟨m,hn,fun h' DR=>⟨.ref D,H',?_,rfl,q⟩⟩
 exact I'.turned (t':=s'.toks) (fun b o hb e=>(DR.2 b hb).trans e) fC.1 fC.2.1 fC.2.2.2.1 fC.2.2.2.2.1 fC.2.2.2.2.2
theorem mC {i:Nat}{y:Str}{py we:Pos}{iter elt:Expr}{ifs:List Expr}{px pos:Pos}{wi:TI}{tt:TT}{te:TE}(hc:X.calm=true) (hN:X.N.Nodup) (Ov:X.N[i]?=some y) (hy:X.env.scope.names.lookup y=some .local)
  (S:jO X.N N' x sc X.env.scope) (hi:PI X (.Name x px) iter wi)
  (ht:∀C s2 H2 fp,q8 (oM X N' x sc C s2 H2 fp) ifs tt) (he:∀C s2 H2 fp,PE (oM X N' x sc C s2 H2 fp) elt te) (hs:∀v,foldedSetIterable iter X.env v=pure v:=by intro _;rfl)
  (Ow:swapsWith (.ListComp elt [⟨.Name x px,iter,ifs,0⟩] sc pos) (some (.Name y py)) we.line X.env=pure true:=by rfl) :
  PS X (.Assign [.Name y py] (.ListComp elt [⟨.Name x px,iter,ifs,0⟩] sc pos) we) (Bt (DL wi tt te) (aP i)):=by
 intro π s σ H D I h
 have pG:closureFor sc X.env=pure (bp sc.names X.env.cells []):=iS fun y hy hk=>I.ok.has _ (S.free y hy hk)
 rw[exec_Assign_Name_used _ _ _ _ Ow]
 refine wpAny_bind (wpAny_standAt (wpAny_bind ?_))
 show wpAny _ X.A (do let _ ←comprehension (.ListComp elt [⟨.Name x px,iter,ifs,0⟩] sc pos) sc X.env _ (newList []) false (eval iter X.env) (some (assign (.Name y py) X.env))) _ _ s
 refine wpAny_bind (wpAny_mono (wpAny_comprehension_free (use:=some (assign (.Name y py) X.env)) (Q:=fun _ s'=>SP X π D .next s') rfl hs pG S.kind S.names
  (bL (hi π s σ H _ I h) fun v s1 h1=>bL h1 fun Nf s2 h2=>?_)) (fun _ s' hq=>wpAny_pure (wpAny_pure hq)) fun _ _ e=>e)
 obtain⟨it,fp,tn,J,H2,e,I2,T,vU,f2,W,w0,turn⟩:=h2
 subst e
 refine sh (RR:=fun acc C=>compPost (model X.prog X.w) X.A X.xe (some (assign (.Name y py) X.env)) (fun _ s'=>SP X π D .next s') acc C) hc hN S ht he I2 T vU f2 W w0 turn fun Da C s' H' I' fC hn q=>?_
 obtain⟨m,hn⟩:=hn
 show wpAny _ X.A (assign (.Name y py) X.env (.ref Da)) _ _ _
 refine wpAny_assign_Name (nr I' hN Ov (Or.inl hy) (v:=.ref Da) rfl (fun KS TU ⟨a,TV,ha⟩=>?_) (Or.inr hy))
 have TX:C≠a:=by
  rintro rfl
  rcases ha with z|z
  ·exact fC.2.1 z
  ·exact fC.2.2.2.2.1 _ _ z rfl
 refine⟨m,hn.sameBut TV TX,fun h' DR=>⟨_,H',?_,q⟩⟩
 exact TU.turned (t':=KS.toks) (fun b o hb e=>(DR.2 b hb).trans e) fC.1 fC.2.1 fC.2.2.2.1 fC.2.2.2.2.1 fC.2.2.2.2.2
theorem tJ (o:Obj) (f:Array Value→Array Value):(o.mapFields f).dict=o.dict:=by unfold Obj.mapFields;split<;>rfl
def tK (ap:Addr→Prop) (H:Hp) (h:Heap) (e:Addr) (cls:Value) (od:Option Addr):Prop :=
 H e=none∧ap e∧∃oe vs,h.get? e=some oe∧oe.cls=cls∧oe.dict=od∧oe.data = .fields vs∧1<vs.size∧vs[2]?=some .none ∧
  (vs[1]?=some .none∨∃T oT ts,vs[1]?=some (.ref T)∧T≠e∧H T=none∧ap T∧h.get? T=some oT∧oT.data = .fields ts∧ts[3]?=some .none)
theorem tK.weak {ap ap':Addr→Prop}{H:Hp}{h:Heap}{e:Addr}{cls:Value}{od:Option Addr}(x:tK ap H h e cls od) (ha:∀b,ap b→ap' b):tK ap' H h e cls od:=by
 obtain⟨x2,x3,oe,vs,x4,x5,xd,x6,x7,x9,x8⟩:=x
 refine⟨x2,ha e x3,oe,vs,x4,x5,xd,x6,x7,x9,?_⟩
 rcases x8 with z|⟨T,oT,ts,z1,z3,z4,z5,z6⟩
 ·exact .inl z
 ·exact .inr ⟨T,oT,ts,z1,z3,z4,ha T z5,z6⟩
theorem bI.there {P:Program}{w:World}{H:Hp}{h:Heap}{a:Addr}{o:HO}(x:bI P w H h a o):∃ob,h.get? a=some ob:=by
 cases o with
 | lst xs=>obtain⟨_,_,_,_,e⟩:=x;exact⟨_,e⟩
 | tup xs=>obtain⟨_,_,_,⟨o,e,_⟩⟩:=x;exact⟨_,e⟩
 | dK aB=>obtain⟨_,_,_,_,o,_,_,e,_⟩:=x;exact⟨_,e⟩
 | dT aB=>obtain⟨_,_,_,_,o,_,_,e,_⟩:=x;exact⟨_,e⟩
 | set S n=>obtain⟨o,_,_,_,e,_⟩:=x;exact⟨_,e⟩
 | ins C dx fs=>obtain⟨_,_,_,e,_⟩:=x;exact⟨_,e⟩
 | own y=>exact x
 | xd fs=>obtain⟨_,⟨_,_,_,e,_⟩,_⟩:=x;exact⟨_,e⟩
 | Rl lo hi=>obtain⟨_,_,_,e⟩:=x;exact⟨_,e⟩
 | ya ob u=>obtain⟨e,_⟩:=x;exact⟨_,e⟩
 | Ge ps=>exact⟨_,x⟩
 | met f y=>exact⟨_,x⟩
 | ext φ=>obtain⟨_,e,_⟩:=x;exact e
variable {M:Model}{A:Around}{E:Value→Shared→Prop}
theorem Ai {base:Heap}{env:Env}{outer:List Env}{L e:Addr}{oe:Obj}{vs:Array Value}{head:Value}{He:Bool}{Q:Unit→Shared→Prop}
  (yE:A.frames=some (env::outer)) (hl:s.heap.FunFrames base (env::outer)) (hf:env.frame=some L) (he:s.heap.get? e=some oe) (hd:oe.data = .fields vs) (hsz:1<vs.size)
  (h:∀h' T oT ts,(∀b o,b≠e→b∉nk (env::outer)→s.heap.get? b=some o→h'.get? b=some o)→(∀b o,b≠e→s.heap.get? b=some o→∃sl,h'.get? b=some { o with slots:=sl }) →
   h'.get? e=some (oe.mapFields (·.setIfInBounds 1 (.ref T)))→s.heap.objs.size≤T→h'.get? T=some oT→oT.data = .fields ts→ts[3]?=some .none→Q () { s with heap:=h' }) :
  wpAny M A (do let a ←frameOf env;let pl ←entryPlaceOf L He;let b ←EntryCells.newEntry head a .none (rawInt L) .none pl;setField (.ref e) 1 b) (fun _ s'=>wpAny M A (setFlight (.ref e) none) Q E s') E s:=by
 have TY:e∉(env::outer).filterMap (·.frame):=fun hm=>by
  obtain⟨_,o,ho,Lc⟩:=hl.mem hm
  rw[he] at ho;injection ho with ho;subst ho;exact Lc vs hd
 refine wpAny_bind (wpAny_frameOf_fun yE hl hf fun h1 CV=>?_)
 refine wpAny_bind (wpAny_entryPlaceOf fun pl lq=>?_)
 unfold EntryCells.newEntry newFields
 refine wpAny_bind (wpAny_newObj_type ?_ (lq.sizeOk5 _ _ _ _ _))
 generalize RD:({ cls:=.type "traceback",dict:=none,data:=.fields ([head,.ref L,.none,rawInt L,.none]++(if pl.isEmpty then List.replicate 6 Value.none else pl)).toArray }:Obj)=ob
 have Hf:ob.data = .fields ([head,.ref L,.none,rawInt L,.none]++(if pl.isEmpty then List.replicate 6 Value.none else pl)).toArray:=by rw[←RD]
 have TZ:ob.isFreed=false:=Obj.isFreed_of_fields Hf
 have T3:h1.get? e=some oe:=(CV.2.1 e TY).trans he
 have RE:=Heap.get?_push_of_some (h:=h1) ob T3
 refine wpAny_setField RE hd hsz ?_
 have hTe:h1.objs.size≠e:=Nat.ne_of_gt (Heap.lt_size T3)
 have hd3:=Obj.data_mapFields hd (·.setIfInBounds 1 (Value.ref h1.objs.size))
 have he3:=Heap.get?_update_self (Obj.mapFields (·.setIfInBounds 1 (Value.ref h1.objs.size))) RE (Obj.isFreed_of_fields hd3)
 have hT3:=(Heap.get?_update_other (h1.push ob) (Obj.mapFields (·.setIfInBounds 1 (Value.ref h1.objs.size))) (Ne.symm hTe)).trans (Heap.get?_push_size h1 TZ)
 unfold setFlight
 refine wpAny_bind (wpAny_field he3 hd3 (x:=.ref h1.objs.size) (by simp[hsz]) ?_)
 rw[if_pos (show (Value.ref h1.objs.size != Value.none)=true from by simp)]
 have Ox:3<([head,.ref L,.none,rawInt L,.none]++(if pl.isEmpty then List.replicate 6 Value.none else pl)).toArray.size:=by
  simp only[List.size_toArray,length_append,List.length_cons,List.length_nil];omega
 refine wpAny_setField hT3 Hf Ox ?_
 have keep:∀b o,b≠e→h1.get? b=some o→((((h1.push ob).update e (Obj.mapFields (·.setIfInBounds 1 (Value.ref h1.objs.size)))).update h1.objs.size
   (Obj.mapFields (·.setIfInBounds 3 ((none:Option Addr).elim Value.none fun f=>rawInt f)))).get? b=some o):=fun b o Bm hb=>by
  have JQ:h1.objs.size≠b:=Nat.ne_of_gt (Heap.lt_size hb)
  rw[Heap.get?_update_other _ _ JQ,Heap.get?_update_other _ _ (Ne.symm Bm)]
  exact Heap.get?_push_of_some _ hb
 refine h _ h1.objs.size _ _ (fun b o Bm hbf hb=>keep b o Bm ((CV.2.1 b hbf).trans hb)) (fun b o Bm hb=>?_) ?_ (Nat.le_of_eq CV.1.symm)
  (Heap.get?_update_self _ hT3 (Obj.isFreed_of_fields (Obj.data_mapFields Hf _))) (Obj.data_mapFields Hf _) ?_
 ·obtain⟨sl,q⟩:=CV.2.2 b o hb
  exact⟨sl,keep b _ Bm q⟩
 ·rw[Heap.get?_update_other _ _ hTe];exact he3
 ·rw[Array.getElem?_setIfInBounds_self_of_lt Ox];rfl
theorem Aj {base:Heap}{env:Env}{outer:List Env}{L e:Addr}{cls:Value}{od:Option Addr}{ap:Addr→Prop}{H:Hp}{Q:Unit→Shared→Prop}
  (yE:A.frames=some (env::outer)) (hl:s.heap.FunFrames base (env::outer)) (hf:env.frame=some L) (x:tK ap H s.heap e cls od) (tL:∀b,s.heap.objs.size≤b→H b=none∧ap b)
  (h:∀h',(∀b o,¬(H b=none∧ap b∧∃vs,o.data = .fields vs)→b∉nk (env::outer)→s.heap.get? b=some o→h'.get? b=some o) →
   (∀b o,b∈nk (env::outer)→s.heap.get? b=some o→∃sl,h'.get? b=some { o with slots:=sl })→(∀b o,s.heap.get? b=some o→∃o',h'.get? b=some o')→tK ap H h' e cls od→Q () { s with heap:=h' }) :
  wpAny M A (noteFrame (.ref e) env) (fun _ s'=>wpAny M A (setFlight (.ref e) none) Q E s') E s:=by
 obtain⟨x2,x3,oe,vs,x4,x5,xd,x6,x7,x9,x8⟩:=x
 have Le:∀b o vs,s.heap.get? b=some o→o.data = .fields vs→b∉nk (env::outer):=fun b o vs ho hd hb=>by
  obtain⟨_,o',jq,Lc⟩:=hl.mem hb
  rw[ho] at jq;cases jq;exact Lc vs hd
 unfold noteFrame
 simp only[hf]
 rcases x8 with z|⟨T,oT,ts,z1,z3,z4,z5,z6,z7,z8⟩
 ·refine wpAny_bind (wpAny_field x4 x6 z ?_)
  rw[if_neg (by decide)]
  refine Ai yE hl hf x4 x6 x7 fun h' T oT ts k1 k2 k3 k4 k5 k6 k7=>h h' (fun b o n hb e=>?_) (fun b o hb e=>k2 b o (fun q=>Le _ _ _ x4 x6 (q▸hb)) e) (fun b o q=>?_) ?_
  ·refine k1 b o (fun q=>n ?_) hb e
   subst q
   rw[x4] at e;cases e
   exact⟨x2,x3,vs,x6⟩
  ·by_cases hb:b=e
   ·subst hb;exact⟨_,k3⟩
   ·obtain⟨sl,q'⟩:=k2 b o hb q;exact⟨_,q'⟩
  ·refine⟨x2,x3,_,_,k3,(Obj.cls_mapFields _ _).trans x5,(tJ _ _).trans xd,Obj.data_mapFields x6 _,by simpa using x7,by rw[Array.getElem?_setIfInBounds_ne (by decide)];exact x9,.inr ⟨T,oT,ts,by simp[x7],?_,(tL T k4).1,(tL T k4).2,k5,k6,k7⟩⟩
   exact Nat.ne_of_gt (Nat.lt_of_lt_of_le (Heap.lt_size x4) k4)
 ·refine wpAny_bind (wpAny_field x4 x6 z1 ?_)
  rw[if_pos (show (Value.ref T != Value.none)=true from by simp)]
  refine wpAny_bind (wpAny_field z6 z7 z8 ?_)
  rw[if_neg (show ¬((Value.none == rawInt L)=true) from by simp[rawInt])]
  refine wpAny_bind (wpAny_setField z6 z7 (Array.getElem?_eq_some_iff.mp z8).1 ?_)
  have other:∀b,b≠T→(s.heap.update T (Obj.mapFields (·.setIfInBounds 3 Value.none))).get? b=s.heap.get? b:=fun b hb=>Heap.get?_update_other _ _ (Ne.symm hb)
  have K1:=Heap.get?_update_self (Obj.mapFields (·.setIfInBounds 3 Value.none)) z6 (Obj.isFreed_of_fields (Obj.data_mapFields z7 _))
  have hTd:=Obj.data_mapFields z7 (·.setIfInBounds 3 Value.none)
  have hsz:(s.heap.update T (Obj.mapFields (·.setIfInBounds 3 Value.none))).objs.size=s.heap.objs.size:=Heap.size_after_update ..
  refine Ai (s:={ s with heap:=s.heap.update T (Obj.mapFields (·.setIfInBounds 3 Value.none)) }) yE (hl.of_keeps fun b o hb Lc=>⟨o,(other b fun q=>Lc ts (by rw[q,z6] at hb;cases hb;exact z7)).trans hb,rfl⟩) hf ((other e (Ne.symm z3)).trans x4) x6 x7
   fun h' T' oT' ts' k1 k2 k3 k4 k5 k6 k7=>h h' (fun b o n hb e=>?_) (fun b o hb q=>?_) (fun b o q=>?_) ?_
  ·have JQ:b≠T:=fun q=>n (by subst q;rw[z6] at e;cases e;exact⟨z4,z5,ts,z7⟩)
   refine k1 b o (fun q=>n ?_) hb ((other b JQ).trans e)
   subst q
   rw[x4] at e;cases e
   exact⟨x2,x3,vs,x6⟩
  ·have JQ:b≠T:=fun q'=>Le _ _ _ z6 z7 (q'▸hb)
   exact k2 b o (fun q'=>Le _ _ _ x4 x6 (q'▸hb)) ((other b JQ).trans q)
  ·by_cases hb:b=e
   ·subst hb;exact⟨_,k3⟩
   ·by_cases JQ:b=T
    ·subst JQ
     obtain⟨sl,q'⟩:=k2 b _ hb K1;exact⟨_,q'⟩
    ·obtain⟨sl,q'⟩:=k2 b o hb ((other b JQ).trans q);exact⟨_,q'⟩
  ·have T4:s.heap.objs.size≤T':=by rw[←hsz];exact k4
   refine⟨x2,x3,_,_,k3,(Obj.cls_mapFields _ _).trans x5,(tJ _ _).trans xd,Obj.data_mapFields x6 _,by simpa using x7,by rw[Array.getElem?_setIfInBounds_ne (by decide)];exact x9,.inr ⟨T',oT',ts',by simp[x7],?_,(tL T' T4).1,(tL T' T4).2,k5,k6,k7⟩⟩
   exact Nat.ne_of_gt (Nat.lt_of_lt_of_le (Heap.lt_size x4) T4)
abbrev XS:=Value→Option Addr→St→Hp→Prop
def apart (X:Cx) (π:List (Addr×Obj)) (b:Addr):Prop:=X.s₀.heap.get? b=none∧∀p∈X.pn++π,p.1≠b
def Rs (X:Cx) (E:XS):Prop:=∀(π:List (Addr×Obj)) (σ:St) (H:Hp) (s:Shared) (e:Addr) (cls:Value) (od:Option Addr),Inv X π σ H s→tK (apart X π) H s.heap e cls od→E cls od σ H→X.xe (.ref e) s
def Hg (P:Program) (w:World):Ac:=fun outer H s E e s'=>∃a cls od H',e = .ref a∧s'.os=s.os∧AllBare s'.gens∧Un (nk outer) [] H H' s.heap s'.heap∧iB P w H' s'.heap∧tK (fun b=>s.heap.get? b=none) H' s'.heap a cls od∧E cls od H'
variable {H':Hp}{s':Shared}{h':Heap}{e:Addr}{cls:Value}{od:Option Addr}
theorem Inv.young (I:Inv X π σ H s):∀b,s.heap.objs.size≤b→H b=none∧apart X π b:=fun b hb=>⟨I.aV.fresh hb,Heap.get?_none_of_le (Nat.le_trans I.sz hb),fun p hp z=>absurd (Nat.lt_of_lt_of_le (Heap.lt_size (I.pin p hp).1) (by rw[z];exact hb)) (Nat.lt_irrefl _)⟩
theorem Inv.si {g':Array GenState}{t':Nat}{d':Drawn}{ch:List Addr}(I:Inv X π σ H s)
  (xU:∀b∈ch,(b∈X.ex∨X.s₀.heap.get? b=none)∧b≠X.env.locals∧(∀x c,X.env.cells.lookup x=some c→c≠b)∧∀p∈X.pn++π,p.1≠b)
  (keep:∀b o,b≠X.env.locals→b∉X.fs→b∉ch→s.heap.get? b=some o→H b=none→h'.get? b=some o)
  (slot:∀b o,b≠X.env.locals→b∈X.fs→b∉ch→s.heap.get? b=some o→H b=none→∃sl,h'.get? b=some { o with slots:=sl }) (free:∀b o,b∉ch→s.heap.get? b=some o→H b=none→H' b=none)
  (there:∀b o,b∉ch→s.heap.get? b=some o→∃o',h'.get? b=some o')
  (lO:∀b xs,H b=some (.tup xs)→H' b=some (.tup xs)) (lp:∀b o u,H b=some (.ya o u)→H' b=some (.ya o u)) (lP:∀b ps,H b=some (.Ge ps)→∃more,H' b=some (.Ge (ps++more)))
  (ns:∀m,s.heap.Ns X.env.locals m→h'.Ns X.env.locals m) (aV:iB X.prog X.w H' h') (hg:AllBare g') :
  Inv X π σ H' { s with heap:=h',gens:=g',drawn:=d',toks:=t' }:=by
 have NO:∀b o,X.s₀.heap.get? b=some o→b≠X.env.locals:=fun b o e=>Nat.ne_of_lt (Nat.lt_of_lt_of_le (Heap.lt_size e) I.ok.above)
 have GK:∀b o,X.s₀.heap.get? b=some o→b∉X.ex→b∉ch:=fun b o e hx hb=>by
  rcases(xU b hb).1 with z|z
  ·exact hx z
  ·rw[z] at e;cases e
 have cellK:∀x c,X.env.cells.lookup x=some c→∀v,s.heap.IsCell c v→h'.IsCell c v:=fun x c e v ⟨o,ho,hd⟩=>by
  have C9:c∉ch:=fun z=>(xU c z).2.2.1 x c e rfl
  by_cases hc:c∈X.fs
  ·obtain⟨sl,q⟩:=slot c o (I.Bp x c e) hc C9 ho (I.dP x c e)
   exact⟨_,q,hd⟩
  ·exact⟨o,keep c o (I.Bp x c e) hc C9 ho (I.dP x c e),hd⟩
 have bs:Un X.fs X.ex X.H₀ H' X.s₀.heap h':=by
  refine⟨fun b o e n hb hx=>?_,fun b o e n hb hx=>?_,fun b o e n hx=>?_,fun b o e hx=>?_,fun b xs e=>lO b xs (I.base.lO b xs e),fun b o xs e=>lp b o xs (I.base.lp b o xs e),fun b ps e=>?_⟩
  ·exact keep b o (NO b o e) hb (GK b o e hx) (I.base.keep b o e n hb hx) (I.base.free b o e n hx)
  ·obtain⟨sl,e1⟩:=I.base.slot b o e n hb hx
   exact(slot b _ (NO b o e) hb (GK b o e hx) e1 (I.base.free b o e n hx)).elim fun NP e2=>⟨NP,e2⟩
  ·obtain⟨o',e1⟩:=I.base.there b o e hx
   exact free b o' (GK b o e hx) e1 (I.base.free b o e n hx)
  ·obtain⟨o',e1⟩:=I.base.there b o e hx
   exact there b o' (GK b o e hx) e1
  ·obtain⟨m1,e1⟩:=I.base.lP b ps e
   obtain⟨m2,e2⟩:=lP b _ e1
   exact⟨m1++m2,by rw[e2,Array.append_assoc]⟩
 refine⟨I.ok,I.os,hg,bs,?_,fun x c e=>?_,?_,fun x c e=>?_,fun p hp=>?_,aV,I.len⟩
 ·obtain⟨m,hn,hl⟩:=I.loc
  refine⟨m,ns m hn,fun i x v e1 e2 e3=>?_⟩
  obtain⟨u,r,l⟩:=hl i x v e1 e2 e3
  refine⟨u,r,?_⟩
  rcases l with l|⟨k,c,e,z⟩
  ·exact .inl l
  ·exact .inr ⟨k,c,e,cellK x c e _ z⟩
 ·obtain⟨v,z⟩:=I.cell x c e
  exact⟨v,cellK x c e v z⟩
 ·obtain⟨m,⟨o,_,_,ho,_⟩,_⟩:=I.loc
  exact free _ o (fun z=>(xU _ z).2.1 rfl) ho I.free
 ·obtain⟨v,o,ho,hd⟩:=I.cell x c e
  exact free c o (fun z=>(xU c z).2.2.1 x c e rfl) ho (I.dP x c e)
 ·obtain⟨e,n,ne,nf,d⟩:=I.pin p hp
  have C9:p.1∉ch:=fun z=>(xU p.1 z).2.2.2 p hp rfl
  exact⟨keep p.1 p.2 ne nf C9 e n,free p.1 p.2 C9 e n,ne,nf,d⟩
theorem Hh {E:XS}{v:Value}(R:Rs X E) (hex:X.ex=[]) (I:Inv X π σ H s) (h:Hg X.prog X.w X.stack H s (fun c od H'=>E c od σ H') v s'):X.xe v s':=by
 obtain⟨a,cls,od,H',rfl,os,bare,un,aV,x,q⟩:=h
 have I':Inv X π σ H' s':=I.Dc (ch:=[]) os un aV bare (fun b z=>absurd z (by simp))
 refine R π σ H' s' a cls od I' (x.weak fun b hb=>⟨?_,fun p hp z=>?_⟩) q
 ·cases g:X.s₀.heap.get? b with
  | none=>rfl
  | some o =>
   obtain⟨o',e⟩:=I.base.there b o g (by rw[hex];simp)
   rw[hb] at e;cases e
 ·have e:=(I.pin p hp).1
  rw[z,hb] at e;cases e
theorem iB.pH (I:Inv X π σ H s) (k1:∀b o,¬(H b=none∧apart X π b∧∃vs,o.data = .fields vs)→b∉nk X.stack→s.heap.get? b=some o→h'.get? b=some o):iB X.prog X.w H h':=fun a o q=>by
 refine(I.aV a o q).lN (fun b u hb e=>k1 b u ?_ (fun z=>?_) e) (fun _ z=>z) fun _ _ z=>z
 ·rintro⟨n,_⟩
  rcases hb with rfl|hb
  ·rw[q] at n;cases n
  ·rw[hb] at n;cases n
 ·have n:=I.oQ b z
  rcases hb with rfl|hb
  ·rw[q] at n;cases n
  ·rw[hb] at n;cases n
theorem Oy {P:Program}{w:World}{K:Frag}{mg:Str→Option Value}{base:Heap}{N:List Str}{qual:Str}{scope:Scope}{f:Addr}{cd:Value}{A:Around}{outer:List Env}{s0:Shared}{H0:Hp}{E:XK} :
  Rs (lr (Hg P w) P w K mg base N qual scope f cd A outer s0 H0 E) (fun c od _ H'=>E c od H'):=by
 intro π σ H s e cls od I x q
 show wpAny _ _ (leaving _ (.ref e)) _ _ s
 unfold leaving
 refine wpAny_bind (Aj (L:=s0.heap.objs.size) I.ok.frames I.stack rfl x I.young fun h' k1 k2 k3 x'=>?_)
 refine⟨e,cls,od,H,rfl,I.os,I.bare,⟨fun b o e1 n hb hx=>?_,fun b o e1 n hb hx=>?_,I.base.free,fun b o e1 hx=>?_,I.base.lO,I.base.lp,I.base.lP⟩,iB.pH I k1,x'.weak fun b hb=>hb.1,q⟩
 ·refine k1 b o (fun z=>by have q0:=z.2.1.1;exact absurd (q0.symm.trans (show s0.heap.get? b=some o from e1)) (by simp)) (fun z=>?_) (I.base.keep b o e1 n hb hx)
  rcases List.mem_cons.mp (I.jD b z) with y|y
  ·exact absurd (Nat.lt_of_lt_of_le (Heap.lt_size e1) (by rw[y];exact I.ok.above)) (Nat.lt_irrefl _)
  ·exact hb y
 ·obtain⟨sl,e2⟩:=I.base.slot b o e1 n hb hx
  obtain⟨NP,e3⟩:=k2 b _ (mem_cons_of_mem _ hb) e2
  exact⟨NP,e3⟩
 ·obtain⟨o',e2⟩:=I.base.there b o e1 hx
  exact k3 b o' e2
theorem Inv.pH (I:Inv X π σ H s) (yE:X.stack=X.env::X.outer∧X.env.frame=some X.env.locals)
  (k1:∀b o,¬(H b=none∧apart X π b∧∃vs,o.data = .fields vs)→b∉nk X.stack→s.heap.get? b=some o→h'.get? b=some o)
  (k2:∀b o,b∈nk X.stack→s.heap.get? b=some o→∃sl,h'.get? b=some { o with slots:=sl }) (k3:∀b o,s.heap.get? b=some o→∃o',h'.get? b=some o') {t':Nat}:Inv X π σ H { s with heap:=h',toks:=t' }:=by
 classical
 have inL:∀b,b=X.env.locals∨b∈X.fs→b∈nk X.stack:=fun b hb=>by
  rw[yE.1];unfold nk;rw[List.filterMap_cons,yE.2]
  exact List.mem_cons.mpr hb
 let ch:List Addr:=(List.range s.heap.objs.size).filter fun b=>decide (H b=none∧apart X π b∧∃o vs,s.heap.get? b=some o∧o.data = .fields vs)
 have T5:∀b o,b∉ch→s.heap.get? b=some o→¬(H b=none∧apart X π b∧∃vs,o.data = .fields vs):=fun b o hb e z =>
  hb (mem_filter.mpr ⟨mem_range.mpr (Heap.lt_size e),decide_eq_true ⟨z.1,z.2.1,o,z.2.2.choose,e,z.2.2.choose_spec⟩⟩)
 have Oz:∀b∈ch,H b=none∧apart X π b∧∃o vs,s.heap.get? b=some o∧o.data = .fields vs:=fun b hb=>of_decide_eq_true (mem_filter.mp hb).2
 have fdata:∀b∈ch,∀o,s.heap.get? b=some o→∃vs,o.data = .fields vs:=fun b hb o e=>by
  obtain⟨_,_,o',vs,e',d⟩:=Oz b hb
  rw[e] at e';cases e';exact⟨vs,d⟩
 refine I.si (g':=s.gens) (d':=s.drawn) (ch:=ch) (fun b hb=>?_) (fun b o hL hb hc e n=>?_) (fun b o hL hb hc e n=>?_) (fun b o hc e n=>n) (fun b o hc e=>k3 b o e) (fun _ _ e=>e) (fun _ _ _ e=>e) (fun b ps e=>⟨#[],by rw[e];simp⟩) (fun m hm=>?_) (iB.pH I k1) I.bare
 ·obtain⟨z2,z3,o,vs,e,d⟩:=Oz b hb
  refine⟨.inr z3.1,fun z=>?_,fun x c hc z=>?_,z3.2⟩
  ·obtain⟨m,⟨o',es,ep,jq,kJ,_⟩,_⟩:=I.loc
   rw[z,jq] at e;cases e;rw[kJ] at d;cases d
  ·obtain⟨v,o',jq,kJ⟩:=I.cell x c hc
   rw[z,e] at jq;cases jq;rw[kJ] at d;cases d
 ·refine k1 b o (T5 b o hc e) (fun z=>?_) e
  rcases List.mem_cons.mp (I.jD b z) with y|y
  ·exact hL y
  ·exact hb y
 ·exact k2 b o (inL b (.inr hb)) e
 ·obtain⟨o,es,ep,ho,r⟩:=hm
  obtain⟨sl,e⟩:=k2 _ o (inL _ (.inl rfl)) ho
  exact⟨_,es,ep,e,r⟩
theorem Lf {M:Model}{A:Around}{E:Value→Shared→Prop}{ap:Addr→Prop}{Q:Unit→Shared→Prop}(x:tK ap H s.heap e cls od)
  (h:∀h',(∀b o,¬(H b=none∧ap b∧∃vs,o.data = .fields vs)→s.heap.get? b=some o→h'.get? b=some o)→(∀b o,s.heap.get? b=some o→∃sl,(¬∃vs,o.data = .fields vs)→h'.get? b=some { o with slots:=sl }) →
   (∀b o,s.heap.get? b=some o→∃o',h'.get? b=some o')→tK ap H h' e cls od→Q () { s with heap:=h' }):wpAny M A (setFlight (.ref e) none) Q E s:=by
 have x':=x
 obtain⟨x2,x3,oe,vs,x4,x5,xd,x6,x7,x9,x8⟩:=x
 unfold setFlight
 rcases x8 with z|⟨T,oT,ts,z1,z3,z4,z5,z6,z7,z8⟩
 ·refine wpAny_bind (wpAny_field x4 x6 z ?_)
  rw[if_neg (by decide)]
  exact wpAny_pure (h s.heap (fun _ _ _ q=>q) (fun b o q=>⟨o.slots,fun _=>q⟩) (fun b o q=>⟨o,q⟩) x')
 ·refine wpAny_bind (wpAny_field x4 x6 z1 ?_)
  rw[if_pos (show (Value.ref T != Value.none)=true from by simp)]
  have h3:3<ts.size:=(Array.getElem?_eq_some_iff.mp z8).1
  refine wpAny_setField z6 z7 h3 ?_
  have other:∀b,b≠T→(s.heap.update T (Obj.mapFields (·.setIfInBounds 3 ((none:Option Addr).elim Value.none fun f=>rawInt f)))).get? b=s.heap.get? b:=fun b hb=>Heap.get?_update_other _ _ (Ne.symm hb)
  have K1:=Heap.get?_update_self (Obj.mapFields (·.setIfInBounds 3 ((none:Option Addr).elim Value.none fun f=>rawInt f))) z6 (Obj.isFreed_of_fields (Obj.data_mapFields z7 _))
  refine h _ (fun b o n q=>(other b fun y=>n ?_).trans q) (fun b o q=>⟨o.slots,fun n=>(other b fun y=>n ?_).trans q⟩) (fun b o q=>?_) ?_
  ·subst y;rw[z6] at q;cases q;exact⟨z4,z5,ts,z7⟩
  ·subst y;rw[z6] at q;cases q;exact⟨ts,z7⟩
  ·by_cases hb:b=T
   ·subst hb;exact⟨_,K1⟩
   ·exact⟨o,(other b hb).trans q⟩
  ·exact⟨x2,x3,oe,vs,(other e (Ne.symm z3)).trans x4,x5,xd,x6,x7,x9,.inr ⟨T,_,_,z1,z3,z4,z5,K1,Obj.data_mapFields z7 _,by rw[Array.getElem?_setIfInBounds_self_of_lt h3];rfl⟩⟩
end
def T6 (sp:Sp) (ni:List V) (E:XS) (t:TA):TE:=fun σ H Q=>t σ H fun vs H1=>sp (vs++ni) H1 Q (fun c od H'=>E c od σ H')
section
variable {X:Cx}{k:Nat}{f C:Addr}{fd:FuncData}{ps:List Str}{sp:Sp}{ni:List V}{ds:List Value}{E:XS}{x m:Str}{p pos apos:Pos}{e o:Expr}{es:List Expr}{ta:TE}{t:TA}
theorem Hi {π:List (Addr×Obj)}{σ:St}{H:Hp}{s:Shared}{Q:VK}{us:List Value}{vs:List V}(F:fj X.prog X.w X.K X.mg X.base (Hg X.prog X.w) k f fd ps sp) (hr:bF k X.A) (hb:Binds X.K fd ps ds) (hd:Vals ni ds) (hx:Rs X E) (hex:X.ex=[])
  (I:Inv X π σ H s) (r:Vals vs us) (h:sp (vs++ni) H Q (fun c od H'=>E c od σ H')):wpAny (model X.prog X.w) X.A (call (.ref f) us) (EP X π σ Q) X.xe s:=by
 have r2:Vals (vs++ni) (us++ds):=r.append hd
 have hl:(us++ds).length=ps.length:=by rw[←r2.length];exact F.len _ _ _ _ h
 refine wpAny_call (codeAny_mono (F.run X.A X.stack s H ⟨us,[]⟩ (us++ds) (vs++ni) Q _ hr I.BC (hb s us I.oG hl) r2 h) fun r s' hq=>?_)
 cases r with
 | error v=>exact Hh hx hex I hq
 | ok fl =>
  cases fl with
  | ret u=>exact I.after hq
  | next=>exact False.elim hq
  | brk=>exact False.elim hq
  | cont=>exact False.elim hq
variable {P:Program}{w:World}{K:Frag}{mg:Str→Option Value}{base:Heap}
theorem CT.T7 {x qual:Str}{st:Stmt}{f:Addr}{fd:FuncData}{N ps:List Str}{k:Nat}{sp:Sp}(F:CT K x qual st f fd) (S:aw N ps (ae st)) (len:∀vs H Q E,sp vs H Q E→vs.length=ps.length)
  (fP:∀(aR:Value) (A:Around) (outer:List Env) (s:Shared) (H:Hp) (vs:List V) (Q:VK) (E:XK),bF k (A.deeper (envOfC qual (ae st) s.heap.objs.size f aR))→sp vs H Q E →
   Rs (lr (Hg P w) P w K mg base N qual (ae st) f aR A outer s H E) (fun c od _ H'=>E c od H') →
   ∃t,oH (lr (Hg P w) P w K mg base N qual (ae st) f aR A outer s H E) (ar st) t∧t { nx:=fun _ H'=>Q .cH H',rt:=Q } (start N vs) H):fj P w K mg base (Hg P w) (k+1) f fd ps sp:=by
 obtain⟨oc,od,kV,doc,pm,an,aR,ct,nv,rfl,lk,vQ⟩:=F.ex
 exact DB lk vQ S len fun A outer s H vs Q E hr CQ=>fP aR A outer s H vs Q E hr CQ Oy
noncomputable abbrev Hj:List Value:=[.type "ValueError",.type "Exception",.type "BaseException",.type "object"]
def T8 (C:Addr) (E:XS) (t:TA):TS:=fun _ σ H=>t σ H fun vs H1=>vs.length≤sizeLine∧E (.ref C) none σ H1
variable {np:Pos}{dB:Pos}
theorem Inv.wg {π:List (Addr×Obj)}{σ:St}{H:Hp}{s:Shared}(I:Inv X π σ H s) (hex:X.ex=[]) {b:Addr}(hb:s.heap.get? b=none):H b=none∧apart X π b:=by
 refine⟨?_,?_,fun p hp z=>?_⟩
 ·cases hH:H b with
  | none=>rfl
  | some o =>
   obtain⟨ob,e⟩:=(I.aV b o hH).there
   rw[hb] at e;cases e
 ·cases g:X.s₀.heap.get? b with
  | none=>rfl
  | some o =>
   obtain⟨o',e⟩:=I.base.there b o g (by rw[hex];simp)
   rw[hb] at e;cases e
 ·have e:=(I.pin p hp).1
  rw[z,hb] at e;cases e
def nB (a:Addr) (cls:Value) (od:Option Addr:=none):HO:=.ext fun h=>∃o vs,h.get? a=some o∧o.cls=cls∧o.dict=od∧o.data = .fields vs∧vs[2]?=some .none
def T9 (K:Frag) (C:Addr) (i:Nat) (tb:XS→TS) (th:Addr→TS):TS:=fun D σ H =>
 tb (fun cls od σ' H'=>PySem.W.exmOne K cls (.ref C)=some true∧∀a,H' a=none→th a { nx:=fun σ2 H2=>D.nx (σ2.set i none) H2,rt:=D.rt,bk:=fun σ2 H2=>D.bk (σ2.set i none) H2,ct:=fun σ2 H2=>D.ct (σ2.set i none) H2 } (σ'.set i (some (.ref a))) (upd H' a (nB a cls od))) D σ H
noncomputable def vH (X:Cx) (e:Addr):Cx:={ X with A:=X.A.mark (some (.ref e)),calm:=false,xe:=fun _ _=>False }
variable {π:List (Addr×Obj)}{σ:St}{H:Hp}{s:Shared}
theorem Inv.vH (I:Inv X π σ H s) (e:Addr):Inv (L2.vH X e) π σ H s :=
 ⟨⟨I.ok.mod,I.ok.kind,I.ok.glob,I.ok.blt,I.ok.above,I.ok.inj,I.ok.has,I.ok.GJ,fun h=>(by cases h),I.ok.frames,I.ok.JE,I.ok.Nc,I.ok.bs,I.ok.vN,I.ok.qT,I.ok.vO,I.ok.jC,I.ok.CJ⟩,I.os,I.bare,I.base,I.loc,I.cell,I.free,I.dP,I.pin,I.aV,I.len⟩
theorem Inv.OA {X0:Cx}(aV:X0.Ok) {e:Addr}(I:Inv (L2.vH X0 e) π σ H s):Inv X0 π σ H s:=⟨aV,I.os,I.bare,I.base,I.loc,I.cell,I.free,I.dP,I.pin,I.aV,I.len⟩
noncomputable abbrev Cx.gc (X:Cx) (pn:List (Addr×Obj)) (E:Value→Shared→Prop):Cx:={ X with pn:=pn,xe:=E }
theorem Inv.gc (I:Inv X π σ H s) (E:Value→Shared→Prop):Inv (X.gc (X.pn++π) E) [] σ H s :=
 ⟨⟨I.ok.mod,I.ok.kind,I.ok.glob,I.ok.blt,I.ok.above,I.ok.inj,I.ok.has,I.ok.GJ,I.ok.hd,I.ok.frames,I.ok.JE,I.ok.Nc,I.ok.bs,I.ok.vN,I.ok.qT,I.ok.vO,I.ok.jC,I.ok.CJ⟩,I.os,I.bare,I.base,I.loc,I.cell,I.free,I.dP,fun p hp=>I.pin p (by simpa using hp),I.aV,I.len⟩
theorem Inv.gm {E:Value→Shared→Prop}{q:List (Addr×Obj)}(ok:X.Ok) (I:Inv (X.gc (X.pn++π) E) q σ H s):Inv X π σ H s :=
 ⟨ok,I.os,I.bare,I.base,I.loc,I.cell,I.free,I.dP,fun p hp=>I.pin p (mem_append_left _ hp),I.aV,I.len⟩
theorem Inv.drop {i:Nat}{n:Str}{h':Heap}{t':Nat}{v:Option Value}(I:Inv X π σ H s) (hN:X.N.Nodup) (hi:X.N[i]?=some n) (hk:X.env.scope.names.lookup n=some .local)
  (hn:∀m,s.heap.Ns X.env.locals m→∃v,h'.Ns X.env.locals fun x=>if x=n then v else m x) (hs:Heap.SameBut X.env.locals s.heap h'):Inv X π (σ.set i none) H { s with heap:=h',toks:=t' }:=by
 obtain⟨m,hm,hl⟩:=id I.loc
 obtain⟨v,xV⟩:=hn m hm
 have Bp:=I.Bp
 have up:∀b o,X.s₀.heap.get? b=some o→b≠X.env.locals:=fun b o e=>Nat.ne_of_lt (Nat.lt_of_lt_of_le (Heap.lt_size e) I.ok.above)
 refine⟨I.ok,I.os,I.bare,⟨fun b o e n hb hx=>(hs.2 b (up b o e)).trans (I.base.keep b o e n hb hx),fun b o e n hb hx=>?_,I.base.free,fun b o e hx=>?_,I.base.lO,I.base.lp,I.base.lP⟩,⟨_,xV,fun j y v' e1 e2 e3=>?_⟩,fun y c e=>?_,I.free,I.dP,fun p hp=>?_,fun b ob e=>?_,by simpa using I.len⟩
 ·obtain⟨sl,e1⟩:=I.base.slot b o e n hb hx
  exact⟨sl,(hs.2 b (up b o e)).trans e1⟩
 ·obtain⟨o',e1⟩:=I.base.there b o e hx
  exact⟨o',(hs.2 b (up b o e)).trans e1⟩
 ·by_cases hj:j=i
  ·subst hj
   rw[List.getElem?_set_self' ] at e2
   cases hq:σ[j]? with
   | none=>rw[hq] at e2;cases e2
   | some w'=>rw[hq] at e2;cases e2
  ·rw[List.getElem?_set_ne (Ne.symm hj)] at e2
   obtain⟨u',r',q⟩:=hl j y v' e1 e2 e3
   refine⟨u',r',?_⟩
   rcases q with⟨k,e⟩|⟨k,c,e,z⟩
   ·refine .inl ⟨k,?_⟩
    have:y≠n:=fun e=>hj (pb hN e1 (e▸hi))
    simp[this,e]
   ·exact .inr ⟨k,c,e,z.sameBut hs (Bp y c e)⟩
 ·obtain⟨w',z⟩:=I.cell y c e
  exact⟨w',z.sameBut hs (Bp y c e)⟩
 ·obtain⟨e,n,ne,nf,d⟩:=I.pin p hp
  exact⟨(hs.2 p.1 ne).trans e,n,ne,nf,d⟩
 ·refine(I.aV b ob e).lN (fun c w' hc q=>(hs.2 c ?_).trans q) (fun _ q=>q) fun _ _ q=>q
  rintro rfl
  have f:=I.free
  rcases hc with rfl|hc
  ·rw[f] at e;cases e
  ·rw[f] at hc;cases hc
theorem Lg {C:Addr}{x n:Str}{i:Nat}{np DS pos:Pos}{body:List Stmt}{b₀:Stmt}{DT:List Stmt}{tb:XS→TS}{th:Addr→TS}(hex:X.ex=[]) (yE:X.stack=X.env::X.outer∧X.env.frame=some X.env.locals) (hN:X.N.Nodup)
  (hi:X.N[i]?=some n) (hk:X.env.scope.names.lookup n=some .local) (hg:Gl X x) (hm:X.mg x=some (.ref C)) (hb:∀pn xe E,Rs (X.gc pn xe) E→oH (X.gc pn xe) body (tb E)) (hh:∀e,oH (vH X e) (b₀::DT) (th e))
  (oJ:(x == ("__debug__":Str))=false:=by decide):PS X (.Try body [.ExceptHandler (some (.Name x np)) (some n) (b₀::DT) DS] [] [] pos) (T9 X.K C i tb th):=by
 intro π s σ H D I h
 have ok:=I.ok
 have hkc:(X.env.scope.kind == .class||(X.env.scope.kind == .module&&X.env.locals != X.env.globals))=false:=by rw[I.ok.kind];rfl
 have Hk:∀{σ2:St}{H2:Hp}{s2:Shared}{Q:Unit→Shared→Prop}{A:Around}{E:Value→Shared→Prop}{e:Addr},Inv (vH X e) π σ2 H2 s2→(∀s3,Inv X π (σ2.set i none) H2 s3→Q () s3) →
   wpAny (model X.prog X.w) A (do bindName X.env n .none;unbindBehindTheSuite X.env n DS) Q E s2:=fun {σ2 H2 s2 Q A E e} I2 q=>by
  have I2':=I2.OA ok
  obtain⟨m,CU,_⟩:=I2'.loc
  refine wpAny_nameGoes_keeps hk CU hkc fun h' v xV DR=>?_
  refine q _ (I2'.drop (v:=v) hN hi hk (fun m' Nk=>⟨v,?_⟩) DR)
  obtain⟨o,es,ep,ho,hd,DK,hmm⟩:=xV
  obtain⟨o1,es1,ep1,Lh,Nl,Ua,hm1⟩:=CU
  obtain⟨o2,es2,ep2,ho2,hd2,Ub,Uc⟩:=Nk
  rw[Lh] at ho2;cases ho2
  rw[Nl] at hd2;cases hd2
  exact⟨o,es,ep,ho,hd,DK,fun y=>by rw[hmm y];by_cases hy:y=n<;>simp[hy,←hm1,←Uc]⟩
 let OB:Value→Shared→Prop:=fun e s₁=>wpAny (model X.prog X.w) X.A (noteFrame e X.env) (fun _ s₂=>wpAny (model X.prog X.w) X.A (setFlight e none) (fun _ s₃=>wpAny (model X.prog X.w) X.A (handleBy e X.env [.ExceptHandler (some (.Name x np)) (some n) (b₀::DT) DS]) (SP X π D) X.xe s₃) X.xe s₂) X.xe s₁
 have R:Rs (X.gc (X.pn++π) OB) (fun cls od σ' H'=>PySem.W.exmOne X.K cls (.ref C)=some true∧∀a,H' a=none→th a { nx:=fun σ2 H2=>D.nx (σ2.set i none) H2,rt:=D.rt,bk:=fun σ2 H2=>D.bk (σ2.set i none) H2,ct:=fun σ2 H2=>D.ct (σ2.set i none) H2 } (σ'.set i (some (.ref a))) (upd H' a (nB a cls od))):=by
  intro vP σ' H' s' e cls od I' x' ⟨q1,q2⟩
  show wpAny _ _ _ _ _ s'
  refine Aj (L:=X.env.locals) (env:=X.env) (outer:=X.outer) (by rw[←yE.1];exact I.ok.frames) (by rw[←yE.1];exact I'.stack) yE.2 x' I'.young fun h1 k1 k2 k3 x1=>?_
  have I1:Inv (X.gc (X.pn++π) OB) vP σ' H' { s' with heap:=h1 }:=I'.pH (t':=s'.toks) yE (fun b o n nb=>k1 b o n (by rw[←yE.1];exact nb)) (fun b o hb=>k2 b o (by rw[←yE.1];exact hb)) k3
  have J1:Inv X π σ' H' { s' with heap:=h1 }:=I1.gm ok
  refine wpAny_handleBy_cons (codeAny_handlers_test ?_) (by intro z;cases z)
  refine gR (X:=vH X e) (J1.vH e) hg hm ?_ oJ
  have LT:PySem.W.Looks (model X.prog X.w) h1 (typeOf (.ref e)) cls:=by
   obtain⟨_,_,oe,_,y4,y5,_⟩:=x1
   exact y5▸(PySem.W.Looks.ld y4).andThen .now
  refine(PySem.W.exm_one (M:=model X.prog X.w) J1.oG LT q1).here ?_
  refine codeAny_handlers_suite_as ?_
  refine Lf x1 fun h2 m1 m2 m3 x2=>?_
  have I2:Inv (X.gc (X.pn++π) OB) vP σ' H' { s' with heap:=h2 }:=I1.pH (s:={ s' with heap:=h1 }) (t':=s'.toks) yE (fun b o n nb e=>m1 b o n e) (fun b o hb e=>by
   obtain⟨sl,z⟩:=m2 b o e
   refine⟨sl,z ?_⟩
   rintro⟨vs,hv⟩
   obtain⟨_,o',jq,Lc⟩:=I1.stack.mem hb
   rw[e] at jq;cases jq;exact Lc vs hv) m3
  have J2:Inv X π σ' H' { s' with heap:=h2 }:=I2.gm ok
  have new:bI X.prog X.w (upd H' e (nB e cls od)) h2 e (nB e cls od):=by
   obtain⟨_,_,oe,vs,y4,y5,yd,y6,_,y7,_⟩:=x2
   exact⟨⟨oe,vs,y4,y5,yd,y6,y7⟩,⟨oe,y4⟩,fun ha hb ⟨o,vs,z1,z2,zd,z3,z4⟩ k=>⟨o,vs,k o z1,z2,zd,z3,z4⟩⟩
  have J3:Inv X π σ' (upd H' e (nB e cls od)) { s' with heap:=h2 }:=J2.si (s:={ s' with heap:=h2 }) (h':=h2) (g':=s'.gens) (d':=s'.drawn) (t':=s'.toks) (ch:=[e]) (fun b hb=>?_) (fun b o _ _ _ q _=>q) (fun b o _ _ _ q _=>⟨o.slots,q⟩) (fun b o hb q n=>?_)
   (fun b o _ q=>⟨o,q⟩) (fun b xs q=>by rw[aA (aF q x2.1)];exact q) (fun b o u q=>by rw[aA (aF q x2.1)];exact q) (fun b ps q=>⟨#[],by rw[aA (aF q x2.1),q];simp⟩) (fun m hm=>hm) (J2.aV.lD x2.1 new) J2.bare
  ·refine pd (X:=vH X e) (i:=i) (J3.vH e) hN hi (Or.inl hk) (v:=.ref e) rfl (fun s4 I4=>?_) (Or.inr hk)
   refine wpAny_mono (hh e π s4 _ _ _ I4 (q2 e x2.1)) (fun f s5 q5=>?_) fun _ _ z=>z.elim
   cases f with
   | next=>obtain⟨σ5,H5,I5,q5⟩:=q5;exact Hk I5 fun s6 I6=>⟨_,H5,I6,q5⟩
   | brk=>obtain⟨σ5,H5,I5,q5⟩:=q5;exact Hk I5 fun s6 I6=>⟨_,H5,I6,q5⟩
   | cont=>obtain⟨σ5,H5,I5,q5⟩:=q5;exact Hk I5 fun s6 I6=>⟨_,H5,I6,q5⟩
   | ret u=>obtain⟨v,σ5,H5,I5,r5,q5⟩:=q5;exact Hk I5 fun s6 I6=>⟨v,_,H5,I6,r5,q5⟩
  ·have z:=mem_singleton.mp hb
   subst z
   obtain⟨y1,y2,oe,vs,y4,y5,_,y6,_⟩:=x2
   refine⟨.inr y2.1,fun z=>?_,fun y c hc z=>?_,fun p hp=>y2.2 p ?_⟩
   ·obtain⟨m,⟨o',es,ep,jq,kJ,_⟩,_⟩:=J2.loc
    rw[z] at y4
    rw[show h2.get? X.env.locals=some o' from jq] at y4;cases y4;rw[kJ] at y6;cases y6
   ·obtain⟨v,o',jq,kJ⟩:=J2.cell y c hc
    rw[z] at jq
    rw[show h2.get? _=some o' from jq] at y4;cases y4;rw[kJ] at y6;cases y6
   ·exact mem_append_left _ hp
  ·rw[aA (by intro z;exact hb (by simp[z]))];exact n
 refine wpAny_Try_except (wpAny_mono (hb (X.pn++π) OB _ R [] s σ H D (I.gc OB) h) (fun f s1 q=>?_) fun _ _ q=>q)
 cases f with
 | next=>obtain⟨σ5,H5,I5,q5⟩:=q;exact wpAny_execs_nil ⟨σ5,H5,I5.gm ok,q5⟩
 | brk=>obtain⟨σ5,H5,I5,q5⟩:=q;exact⟨σ5,H5,I5.gm ok,q5⟩
 | cont=>obtain⟨σ5,H5,I5,q5⟩:=q;exact⟨σ5,H5,I5.gm ok,q5⟩
 | ret u=>obtain⟨v,σ5,H5,I5,r5,q5⟩:=q;exact⟨v,σ5,H5,I5.gm ok,r5,q5⟩
end
section
variable {prog:Program}{w:World}{A:Around}{E:Value→Shared→Prop}{h:Heap}{g:Array GenState}{d:Drawn}{t:Nat}{os:OsState}{a C:Addr}{o:Obj}{K:Frag}
structure yF (K:Frag) (C:Addr):Prop where
 ga:PySem.W.findIn K (.ref C) "__getattribute__"=some (some (.builtin "BaseException.__getattribute__"))
 gt:PySem.W.findIn K (.ref C) "__getattr__"=some none
 cl:PySem.W.findIn K (.ref C) "__class__"=some (some (.builtin "object.__class__"))
 be:PySem.W.subIn K (.ref C) (.type "BaseException")=some true
 ob:PySem.W.subIn K (.ref C) (.type "object")=some true
 is:(PySem.W.clsIn K C).isSome=true
theorem DU {M:Model}{JR:Value}{Q:Unit→Shared→Prop}(X:K.In h) (c:yF K C) (hx:h.get? a=some o) (hc:o.cls = .ref C) (hq:Q () ⟨h,g,d,t,os⟩) :
  wpAny M A (checkBuiltinCall "BaseException.__getattribute__" ⟨[.ref a,JR],[]⟩) Q E ⟨h,g,d,t,os⟩:=by
 have hk:builtinKind "BaseException.__getattribute__"=some .slot:=by decide +kernel
 have Li:splitId "BaseException.__getattribute__"=some ("BaseException","__getattribute__"):=by decide +kernel
 have hs:PySem.W.Looks M h (isSubtype (.ref C) (.type "BaseException")) true:=PySem.W.looks_subIn X c.be
 have ha:=F.args_bexc_ga (.ref a) JR
 simp only[checkBuiltinCall,hk,Li]
 refine wpAny_bind ?_
 unfold isInstance
 repeat (first|(with_reducible refine wpAny_loadPart_at hx ?_;rw[hc])|with_reducible refine hs.at ?_|wp_step)
 exact hq
variable {X:Cx}
inductive Ud (K:Frag) (H:Hp):V→Value→Prop where
 | of {x:V}{t:Value}(h:oI K H x t):Ud K H x t
 | exc {a C:Addr}{od:Option Addr}(e:H a=some (nB a (.ref C) od)) (c:yF K C):Ud K H (.ref a) (.ref C)
noncomputable def Ue:V→Option Value
 | .ref a=>some (.ref a)
 | .ty n=>some (.type n)
 | _=>none
def rIsi (K:Frag):List V→Hp→VK→Prop:=fun xs H Q=>∃x c t cv b,xs=[x,c]∧Ue c=some cv∧Ud K H x t∧PySem.W.kitOne K t cv=some b∧Q (.bl b) H
noncomputable def hZ:List V→List V→Bool
 | [],[]=>true
 | x::xs,y::ys=>xW x y&&hZ xs ys
 | _,_=>false
theorem fk:∀(xs ys:List V),hZ xs ys=(xs.length == ys.length&&(List.range xs.length).all fun j=>match xs[j]?,ys[j]? with|some x,some y=>xW x y|_,_=>true)
 | [],[]=>rfl
 | [],_::_=>rfl
 | _::_,[]=>rfl
 | x::xs,y::ys=>by
  rw[hZ,fk xs ys]
  simp only[List.length_cons,List.range_succ_eq_map,List.all_cons,List.all_map]
  have h1:(xs.length+1 == ys.length+1)=(xs.length == ys.length):=by
   by_cases h:xs.length=ys.length
   ·simp[h]
   ·have:¬xs.length+1=ys.length+1:=by omega
    simp[h]
  rw[h1]
  simp only[List.getElem?_cons_zero,Function.comp_def,List.getElem?_cons_succ]
  cases xW x y<;>cases (xs.length == ys.length)<;>simp
theorem nC:∀(a b:List Int),hZ (a.map V.int) (b.map V.int)=decide (a=b)
 | [],[]=>rfl
 | [],_::_=>rfl
 | _::_,[]=>rfl
 | x::xs,y::ys=>by
  rw[List.map_cons,List.map_cons,hZ,nC xs ys]
  show (x == y&&_)=_
  by_cases h:x=y<;>by_cases h':xs=ys<;>simp[h,h']
def Ak (K:Frag) (neg:Bool):R2:=fun x y H Q=>∃p q xs ys,x = .ref p∧y = .ref q∧((bP K H p xs∧bP K H q ys)∨(eV K H p xs∧eV K H q ys))∧xs.all e8=true∧ys.all e8=true∧Q (.bl (if neg then !hZ xs ys else hZ xs ys)) H
theorem Al {A:Around}{s:Shared}{xs ys:List V}{us ws:List Value}(r:Vals xs us) (r':Vals ys ws) (fx:xs.all e8=true) (fy:ys.all e8=true) :
  ∀j (h1:j<us.toArray.size) (h2:j<ws.toArray.size),SeqAt.EqAt A s us.toArray[j] ws.toArray[j] (match xs[j]?,ys[j]? with|some x,some y=>xW x y|_,_=>true):=by
 intro j h1 h2
 have l1:=r.length
 have l2:=r'.length
 have RF:j<us.length:=by simpa using h1
 have Lj:j<ws.length:=by simpa using h2
 have e1:xs[j]?=some xs[j]:=getElem?_eq_getElem (by omega)
 have e2:ys[j]?=some ys[j]:=getElem?_eq_getElem (by omega)
 obtain⟨u,hu,ru⟩:=r.get e1
 obtain⟨u',mD,ru'⟩:=r'.get e2
 rw[e1,e2]
 have g1:us.toArray[j]=u:=by
  have:=List.getElem?_eq_some_iff.mp hu
  simpa using this.2
 have g2:ws.toArray[j]=u':=by
  have:=List.getElem?_eq_some_iff.mp mD
  simpa using this.2
 rw[g1,g2]
 exact DC ru ru' (all_eq_true.mp fx _ (List.getElem_mem _)) (all_eq_true.mp fy _ (List.getElem_mem _))
theorem Hl (hu:X.A.units<cLine):iP X (compareOp .Eq) (Ak X.K false):=by
 intro π s σ H x y v u Q I rx ry h
 obtain⟨p,q,xs,ys,rfl,rfl,hq,fx,fy,hQ⟩:=h
 cases rx
 cases ry
 rcases hq with⟨h1,h2⟩|⟨h1,h2⟩
 ·obtain⟨its,r,pl,hz⟩:=I.list h1
  obtain⟨its',r',CW,yB⟩:=I.list h2
  have l1:=r.length
  have l2:=r'.length
  by_cases hs:its.length=its'.length
  ·refine SeqAt.eq_listAt pl.isList CW.isList (by simpa using hs) hu (Al r r' fx fy) ⟨.bl _,H,I,rfl,?_⟩
   have e:(List.range its.toArray.size).all (fun j=>match xs[j]?,ys[j]? with|some x,some y=>xW x y|_,_=>true)=hZ xs ys:=by
    rw[fk,List.size_toArray,←l1]
    have:(xs.length == ys.length)=true:=by simp;omega
    rw[this,Bool.true_and]
   rw[e];exact hQ
  ·refine SeqAt.eq_list_lengthsAt pl.isList CW.isList (by simpa using hs) hu ⟨.bl _,H,I,rfl,?_⟩
   have e:hZ xs ys=false:=by
    rw[fk]
    have:(xs.length == ys.length)=false:=by simp;omega
    rw[this,Bool.false_and]
   have OC:Q (.bl (hZ xs ys)) H:=hQ
   rw[e] at OC;exact OC
 ·obtain⟨its,r,pl,hz⟩:=I.tuple h1
  obtain⟨its',r',CW,yB⟩:=I.tuple h2
  have l1:=r.length
  have l2:=r'.length
  refine SeqAt.eq_tupleAt pl CW hu (Al r r' fx fy) ⟨.bl _,H,I,rfl,?_⟩
  have e:((List.range (min its.toArray.size its'.toArray.size)).all (fun j=>match xs[j]?,ys[j]? with|some x,some y=>xW x y|_,_=>true)&&its.toArray.size == its'.toArray.size)=hZ xs ys:=by
   rw[fk,List.size_toArray,List.size_toArray,←l1,←l2]
   by_cases hs:xs.length=ys.length
   ·rw[hs,Nat.min_self,Bool.and_comm]
   ·have:(xs.length == ys.length)=false:=by simp;omega
    rw[this,Bool.and_false,Bool.false_and]
  rw[e];exact hQ
theorem Hm (hu:X.A.units<cLine):iP X (compareOp .NotEq) (Ak X.K true):=by
 intro π s σ H x y v u Q I rx ry h
 obtain⟨p,q,xs,ys,rfl,rfl,hq,fx,fy,hQ⟩:=h
 cases rx
 cases ry
 rcases hq with⟨h1,h2⟩|⟨h1,h2⟩
 ·obtain⟨its,r,pl,hz⟩:=I.list h1
  obtain⟨its',r',CW,yB⟩:=I.list h2
  have l1:=r.length
  have l2:=r'.length
  by_cases hs:its.length=its'.length
  ·refine SeqAt.RcNeAt.lists pl.isList CW.isList (by simpa using hs) hu (Al r r' fx fy) _ _ _ _ ⟨.bl _,H,I,rfl,?_⟩
   have e:(List.range its.toArray.size).all (fun j=>match xs[j]?,ys[j]? with|some x,some y=>xW x y|_,_=>true)=hZ xs ys:=by
    rw[fk,List.size_toArray,←l1]
    have:(xs.length == ys.length)=true:=by simp;omega
    rw[this,Bool.true_and]
   rw[e];exact hQ
  ·refine SeqAt.RcNeAt.lists_lengths pl.isList CW.isList (by simpa using hs) hu _ _ _ _ ⟨.bl _,H,I,rfl,?_⟩
   have e:hZ xs ys=false:=by
    rw[fk]
    have:(xs.length == ys.length)=false:=by simp;omega
    rw[this,Bool.false_and]
   have OC:Q (.bl (!hZ xs ys)) H:=hQ
   rw[e] at OC;exact OC
 ·obtain⟨its,r,pl,hz⟩:=I.tuple h1
  obtain⟨its',r',CW,yB⟩:=I.tuple h2
  have l1:=r.length
  have l2:=r'.length
  refine SeqAt.RcNeAt.tuples pl CW hu (Al r r' fx fy) _ _ _ _ ⟨.bl _,H,I,rfl,?_⟩
  have e:((List.range (min its.toArray.size its'.toArray.size)).all (fun j=>match xs[j]?,ys[j]? with|some x,some y=>xW x y|_,_=>true)&&its.toArray.size == its'.toArray.size)=hZ xs ys:=by
   rw[fk,List.size_toArray,List.size_toArray,←l1,←l2]
   by_cases hs:xs.length=ys.length
   ·rw[hs,Nat.min_self,Bool.and_comm]
   ·have:(xs.length == ys.length)=false:=by simp;omega
    rw[this,Bool.and_false,Bool.false_and]
  rw[e];exact hQ
def wj (i j:Int):Prop:=j≠0∧j.natAbs<2^4000
theorem log2_small {n:Nat}(h:n<2^4000):n.log2<9000:=by
 by_cases hn:n=0
 ·subst hn;decide
 ·have:=(Nat.log2_lt hn).mpr h
  omega
theorem bK:iP X (binaryOp .FloorDiv) (rI wj fun i j=>.int (i.fdiv j)):=Ng fun _ _ _ _ _ _ _ hc q=>floordiv_int hc.1 q (.inl (PyProof.noPylong_of_log2 (log2_small hc.2)))
def OD (i j:Int):Prop:=i.natAbs<2^4000∧j.natAbs<2^4000
theorem aQ:iP X (binaryOp .Mult) (rI OD fun i j=>.int (i*j)):=Ng fun _ _ _ _ _ _ _ hc q=>mul_int q (IntMulOk.of_le (PySem.intBits_le_iff.mpr hc.1) (PySem.intBits_le_iff.mpr hc.2) (by decide))
structure Def (K:Frag) (mg:Str→Option Value) (x:Str) (st:Stmt) (ps:List Str):Prop where
 ex:∃(f:Addr) (fd:FuncData),CT K x x st f fd∧mg x=some (.ref f)∧Binds K fd ps []
structure bh (P:Program) (w:World) (K:Frag) (mg:Str→Option Value) (base:Heap) (CX:Ac) (k:Nat) (x:Str) (ps:List Str) (sp:Sp):Prop where
 ex:∃(f:Addr) (fd:FuncData),fj P w K mg base CX k f fd ps sp∧mg x=some (.ref f)∧keepIn K (.ref f)=true∧Binds K fd ps []
variable {P:Program}{mg:Str→Option Value}{base:Heap}{x:Str}{st:Stmt}{ps:List Str}{N:List Str}{sp:Sp}{k:Nat}
theorem Def.ok (D:Def K mg x st ps) (S:aw N ps (ae st)) (len:∀vs H Q E,sp vs H Q E→vs.length=ps.length)
  (fP:∀(f:Addr) (aR:Value) (A:Around) (outer:List Env) (s:Shared) (H:Hp) (vs:List V) (Q:VK) (E:XK),bF k (A.deeper (envOfC x (ae st) s.heap.objs.size f aR))→sp vs H Q E →
   ∃t,oH (lr aS P w K mg base N x (ae st) f aR A outer s H E).vR (ar st) t∧t { nx:=fun _ H'=>Q .cH H',rt:=Q } (start N vs) H):bh P w K mg base aS (k+1) x ps sp:=by
 obtain⟨f,fd,F,hm,hb⟩:=D.ex
 exact⟨f,fd,F.ok S len (fun aR A outer s H vs Q E hr h=>fP f aR A outer s H vs Q E hr h),hm,F.kp,hb⟩
theorem aG {h:Heap}{f:Addr}{oc:Value}{od an:Option Addr}{nv:Array (Option Value)}{kV doc pm aR ct:Value}(X:K.In h) (G:h.Ns mainGlobals mg) (a:nsIn K mainGlobals x=some (some (.ref f)))
  (l:K.lookup f=some ⟨oc,od,.func (fnOf x x (av st) (ar st) (ae st) .none kV doc pm an aR ct),nv⟩) (c:codeIn K aR x=true) (kp:keepIn K (.ref f)=true)
  (hb:∀(kV doc pm:Value) (an:Option Addr) (aR ct:Value) (us:List Value),us.length=ps.length→bindArgs (fnOf x x (av st) (ar st) (ae st) .none kV doc pm an aR ct) ⟨us,[]⟩=pure (ps.zip us)):Def K mg x st ps:=by
 have F:=pC (st:=st) l c kp
 exact⟨f,_,F,PySem.W.mg_of X G a,F.binds hb⟩
end
section
variable {X:Cx}{k:Nat}{x:Str}{ps:List Str}{sp:Sp}{p pos:Pos}{e:Expr}{es:List Expr}{t:TA}
theorem ay (C:bh X.prog X.w X.K X.mg X.base aS k x ps sp) (hr:bF k X.A) (ha:PA X (e::es) t) (hg:Gl X x:=by rfl) (oJ:(x == ("__debug__":Str))=false:=by decide)
  (he:starEach (e::es) X.env=(false,eval e X.env)::starEach es X.env:=by rfl) (lq:(backTo pos (starEach es X.env)).any (·.1)=false:=by rfl) :
  PE X (.Call (.Name x p) (e::es) [] pos) (Dy sp [] E0 t):=by
 obtain⟨f,fd,F,hm,kp,hb⟩:=C.ex
 exact Ae F hr hg hm kp hb .nil wb ha oJ he lq
theorem bF.sub {j k:Nat}{A:Around}(r:bF k A) (h:j≤k:=by decide):bF j A:=r.mono h
theorem aq.new {H:Hp}{p:Addr}{o:HO}(h:H p=none):aq H (upd H p o):=fun b u e=>by rw[aA (aF e h)];exact e
theorem aq.upd {H H':Hp}{p:Addr}{o:HO}(s:aq H H') (h:H p=none):aq H (L2.upd H' p o):=fun b u e=>by rw[aA (aF e h)];exact s b u e
theorem aq.tup {K:Frag}{H H':Hp}{a:Addr}{xs:List V}(e:aq H H') (h:eV K H a xs):eV K H' a xs:=by
 rcases h with(h|⟨o,h⟩)|h
 ·exact .inl (.inl (e _ _ h))
 ·exact .inl (.inr ⟨o,e _ _ h⟩)
 ·exact .inr h
abbrev zV (ns:List Int):List V:=ns.map V.int
theorem gD {ns:List Int}{i:Nat}{x:V}(h:(zV ns)[i]?=some x):∃n,ns[i]?=some n∧x = .int n:=by
 rw[getElem?_map] at h
 cases e:ns[i]? with
 | none=>rw[e] at h;cases h
 | some z=>rw[e] at h;exact⟨z,rfl,(Option.some.inj h).symm⟩
theorem Am {ns:List Int}{i:Nat}{n:Int}(h:ns[i]?=some n):yq (zV ns) (i:Int)=some (.int n):=oU (by rw[getElem?_map,h];rfl)
theorem Hn (ns:List Int):(zV ns).all e8=true:=by
 rw[all_eq_true]
 intro x hx
 obtain⟨n,_,rfl⟩:=List.mem_map.mp hx
 rfl
theorem fQ:(1000000:Nat)≤sizeLine:=by rw[sizeLine_eq];decide
theorem nD {K:Frag}{a:Addr}{xs:List V}{te:TE}{σ:St}{H:Hp}{Q:VK}(f:V→V) (hl:bP K H a xs) (hz:xs.length≤sizeLine)
  (he:∀(i:Nat) x H' Q',xs[i]?=some x→aq H H'→(∀kO,aq H' kO→Q' (f x) kO)→te (some x::σ) H' Q')
  (hd:∀p H',aq H H'→H p=none→H' p=some (.lst (xs.map f))→Q (.ref p) H'):∃W,(∃m,W 0 m [] H)∧oo (JI K a) oN te σ Q W:=by
 refine⟨fun i m ys H'=>m=xs.length-i∧i≤xs.length∧ys=(xs.take i).map f∧aq H H',⟨xs.length,by simp,Nat.zero_le _,by simp,.refl H⟩,?_⟩
 rintro i m ys H' ⟨rfl,hi,rfl,s⟩
 have q:=s.seq hl
 by_cases bR:i<xs.length
 ·refine .inr ⟨⟨xs,xs[i],q,by simp[bR]⟩,by rw[length_map,length_take];omega,fun x H2 y=>?_⟩
  obtain⟨e,y⟩:=y
  subst e
  have hx:=y xs q
  simp only[oN,if_true]
  refine he i x _ _ hx s fun kO s'=>⟨xs.length-(i+1),by omega,rfl,bR,?_,s.trans s'⟩
  rw[take_add_one,hx];simp
 ·have e:i=xs.length:=by omega
  subst e
  refine .inl ⟨⟨xs,q,Nat.le_refl _⟩,by rw[length_map,length_take];omega,fun p hp=>hd p _ (s.upd (s.free hp)) (s.free hp) ?_⟩
  rw[aj,take_length]
theorem pI {K:Frag}{a:Addr}{xs:List V}{tt:TT}{te:TE}{σ:St}{H:Hp}{Q:VK}(c:V→Bool) (f:V→V) (hl:bP K H a xs) (hz:xs.length≤sizeLine)
  (ht:∀(i:Nat) x H' Q',xs[i]?=some x→aq H H'→(∀kO,aq H' kO→Q' (c x) kO)→tt (some x::σ) H' Q')
  (he:∀(i:Nat) x H' Q',xs[i]?=some x→c x=true→aq H H'→(∀kO,aq H' kO→Q' (f x) kO)→te (some x::σ) H' Q')
  (hd:∀p H',aq H H'→H p=none→H' p=some (.lst ((xs.filter c).map f))→Q (.ref p) H'):∃W,(∃m,W 0 m [] H)∧oo (JI K a) tt te σ Q W:=by
 refine⟨fun i m ys H'=>m=xs.length-i∧i≤xs.length∧ys=((xs.take i).filter c).map f∧aq H H',⟨xs.length,by simp,Nat.zero_le _,by simp,.refl H⟩,?_⟩
 rintro i m ys H' ⟨rfl,hi,rfl,s⟩
 have q:=s.seq hl
 have hlen:(((xs.take i).filter c).map f).length≤i:=by
  rw[length_map];exact Nat.le_trans (List.length_filter_le _ _) (by rw[length_take];omega)
 by_cases bR:i<xs.length
 ·refine .inr ⟨⟨xs,xs[i],q,by simp[bR]⟩,by omega,fun x H2 y=>?_⟩
  obtain⟨e,y⟩:=y
  subst e
  have hx:=y xs q
  refine ht i x _ _ hx s fun H3 s3=>?_
  cases hc:c x with
  | true =>
   rw[if_pos rfl]
   refine he i x _ _ hx hc (s.trans s3) fun kO s'=>⟨xs.length-(i+1),by omega,rfl,bR,?_,(s.trans s3).trans s'⟩
   rw[take_add_one,hx];simp[hc]
  | false =>
   rw[if_neg (by decide)]
   refine⟨xs.length-(i+1),by omega,rfl,bR,?_,s.trans s3⟩
   rw[take_add_one,hx];simp[hc]
 ·have e:i=xs.length:=by omega
  subst e
  refine .inl ⟨⟨xs,q,Nat.le_refl _⟩,by omega,fun p hp=>hd p _ (s.upd (s.free hp)) (s.free hp) ?_⟩
  rw[aj,take_length]
theorem pJ {n:Nat}{te:TE}{σ:St}{H:Hp}{Q:VK}(f:Nat→V) (hz:n≤sizeLine)
  (he:∀i H' Q',i<n→aq H H'→(∀kO,aq H' kO→Q' (f i) kO)→te (some (.int (0+(i:Int)))::σ) H' Q')
  (hd:∀p H',aq H H'→H p=none→H' p=some (.lst ((List.range n).map f))→Q (.ref p) H'):∃W,(∃m,W 0 m [] H)∧oo (Gf 0 n) oN te σ Q W:=by
 refine⟨fun i m ys H'=>m=n-i∧i≤n∧ys=(List.range i).map f∧aq H H',⟨n,by simp,Nat.zero_le _,by simp,.refl H⟩,?_⟩
 rintro i m ys H' ⟨rfl,hi,rfl,s⟩
 by_cases bR:i<n
 ·refine .inr ⟨bR,by rw[length_map,length_range];omega,fun x H2 y=>?_⟩
  obtain⟨e,y⟩:=y
  subst e y
  simp only[oN,if_true]
  refine he i _ _ bR s fun kO s'=>⟨n-(i+1),by omega,rfl,bR,?_,s.trans s'⟩
  rw[List.range_succ];simp
 ·have e:i=n:=by omega
  subst e
  refine .inl ⟨Nat.le_refl _,by rw[length_map,length_range];omega,fun p hp=>hd p _ (s.upd (s.free hp)) (s.free hp) ?_⟩
  rw[aj]
theorem oq {n:Nat}{tt:TT}{te:TE}{σ:St}{H:Hp}{Q:VK}(c:Nat→Bool) (f:Nat→V) (hz:n≤sizeLine)
  (ht:∀i H' Q',i<n→aq H H'→(∀kO,aq H' kO→Q' (c i) kO)→tt (some (.int (0+(i:Int)))::σ) H' Q')
  (he:∀i H' Q',i<n→c i=true→aq H H'→(∀kO,aq H' kO→Q' (f i) kO)→te (some (.int (0+(i:Int)))::σ) H' Q')
  (hd:∀p H',aq H H'→H p=none→H' p=some (.lst (((List.range n).filter c).map f))→Q (.ref p) H'):∃W,(∃m,W 0 m [] H)∧oo (Gf 0 n) tt te σ Q W:=by
 refine⟨fun i m ys H'=>m=n-i∧i≤n∧ys=((List.range i).filter c).map f∧aq H H',⟨n,by simp,Nat.zero_le _,by simp,.refl H⟩,?_⟩
 rintro i m ys H' ⟨rfl,hi,rfl,s⟩
 have hlen:(((List.range i).filter c).map f).length≤i:=by
  rw[length_map];exact Nat.le_trans (List.length_filter_le _ _) (by rw[length_range];omega)
 by_cases bR:i<n
 ·refine .inr ⟨bR,by omega,fun x H2 y=>?_⟩
  obtain⟨e,y⟩:=y
  subst e y
  refine ht i _ _ bR s fun H3 s3=>?_
  cases hc:c i with
  | true =>
   rw[if_pos rfl]
   refine he i _ _ bR hc (s.trans s3) fun kO s'=>⟨n-(i+1),by omega,rfl,bR,?_,(s.trans s3).trans s'⟩
   rw[List.range_succ];simp[hc]
  | false =>
   rw[if_neg (by decide)]
   refine⟨n-(i+1),by omega,rfl,bR,?_,s.trans s3⟩
   rw[List.range_succ];simp[hc]
 ·have e:i=n:=by omega
  subst e
  refine .inl ⟨Nat.le_refl _,by omega,fun p hp=>hd p _ (s.upd (s.free hp)) (s.free hp) ?_⟩
  rw[aj]
theorem ic:bootBuiltins "len"=some (.builtin "len"):=by decide +kernel
theorem Lk:bootBuiltins "abs"=some (.builtin "abs"):=by decide +kernel
theorem DV:bootBuiltins "any"=some (.builtin "any"):=by decide +kernel
theorem Ll:bootBuiltins "int"=some (.type "int"):=by decide +kernel
theorem oV:bootBuiltins "list"=some (.type "list"):=by decide +kernel
theorem OE {a:Addr}(hm:X.mg x=some (.ref a)) (hg:Gl X x:=by rfl) (hd:(x == ("__debug__":Str))=false:=by decide):PE X (.Name x pos) (tC (.ref a)):=zX hg hm rfl hd
theorem An {i:Int}(hm:∃t,X.mg x=some (.int i t)) (hg:Gl X x:=by rfl) (hd:(x == ("__debug__":Str))=false:=by decide):PE X (.Name x pos) (tC (.int i)):=by
 obtain⟨t,hm⟩:=hm
 exact zX hg hm ⟨_,rfl⟩ hd
def tM:V→Bool
 | .int i=>i != 0
 | .bl b=>b
 | _=>false
def wk (ys:List V) (i:Nat):Bool:=match ys[i]? with|some y=>tM y|none=>false
def plainT:V→Bool
 | .int _=>true
 | .bl _=>true
 | _=>false
theorem Lm {prog:Program}{w:World}{A:Around}{s:Shared}{Q:Bool→Shared→Prop}{E:Value→Shared→Prop}{y:V}{v:Value}(r:RelV y v) (p:plainT y=true) (h:Q (tM y) s):wpAny (model prog w) A (truthy v) Q E s:=by
 cases y with
 | int i=>obtain⟨t,rfl⟩:=r;exact PyProof.Rows.truthy_int h
 | bl b=>cases r;exact wpAny_truthy_bool h
 | cH=>cases p
 | str _=>cases p
 | xZ _=>cases p
 | Ky _=>cases p
 | ref _=>cases p
 | ty _=>cases p
theorem Ln {prog:Program}{w:World}{A:Around}{ys:List V}{its:List Value}(r:Vals ys its) (p:ys.all plainT=true) :
  TruthOf prog w A (fun i v=>its.toArray[i]?=some v) (wk ys):=by
 intro i v s Q E hv hq
 have l:=r.length
 have Gg:its[i]?=some v:=by simpa using hv
 have hi:=(List.getElem?_eq_some_iff.mp Gg).1
 have e:ys[i]?=some ys[i]:=getElem?_eq_getElem (by omega)
 obtain⟨u,hu,ru⟩:=r.get e
 rw[Gg] at hu;cases hu
 have pj:Q (wk ys i) s:=hq
 rw[wk,e] at pj
 exact Lm ru (all_eq_true.mp p _ (List.getElem_mem _)) pj
theorem DW:∀(ys:List V),(List.range ys.length).any (wk ys)=ys.any tM
 | []=>rfl
 | y::ys=>by
  rw[List.length_cons,List.range_succ_eq_map,List.any_cons,List.any_map,List.any_cons,←DW ys]
  rfl
theorem DX (hc:X.calm=true):gS X (.builtin "any") (fun xs H Q=>∃p ys,xs=[.ref p]∧bP X.K H p ys∧ys.all plainT=true∧Q (.bl (ys.any tM)) H):=by
 intro π s σ H xs us Q I r h
 obtain⟨p,ys,rfl,hq,hp,q⟩:=h
 obtain⟨u,rfl,rx⟩:=vals1 r
 cases rx
 obtain⟨its,r',pl,hz⟩:=I.list hq
 have hl:=pl.isList
 have bR:p<s.heap.objs.size:=by obtain⟨o,ho,_⟩:=hl;exact Heap.lt_size ho
 refine call_any_walk (wpAny_pyIter_list hl ?_)
 refine⟨_,_,_,its.toArray.size,_,_,_,rfl,Walks.list (show X.A.in1.handled=none from I.ok.hd hc) s.heap.objs.size p (Nat.ne_of_lt bR) its.toArray,⟨⟨_,Heap.get?_push_size _ rfl,rfl,rfl⟩,hl.at fun o e=>Heap.get?_push_of_some _ e⟩,Ln r' hp,fun h' tk k=>?_⟩
 have e:(List.range its.toArray.size).any (wk ys)=ys.any tM:=by rw[List.size_toArray,←r'.length];exact DW ys
 rw[e]
 exact⟨.bl _,H,I.kept (t':=tk) fun b o eb=>k b o (fun z=>absurd (Heap.lt_size eb) (by rw[mem_singleton.mp z];exact Nat.lt_irrefl _)) (Heap.get?_push_of_some _ eb),rfl,q⟩
theorem lE:Tf X "int.bit_length" (fun x xs H Q=>∃i:Int,x = .int i∧xs=[]∧Q (.int (Builtin.Int.intBits i)) H):=by
 intro π s σ H x xs v us Q I rx rv h
 obtain⟨i,rfl,rfl,q⟩:=h
 obtain⟨t,rfl⟩:=rx
 obtain rfl:=rv.zero
 exact PyProof.Rows.call_int_bit_length ⟨.int _,H,I.tok _,⟨_,rfl⟩,q⟩
theorem DY (ns:List Int):(zV ns).all plainT=true:=by
 rw[all_eq_true]
 intro x hx
 obtain⟨n,_,rfl⟩:=List.mem_map.mp hx
 rfl
theorem Lo (ns:List Int):(zV ns).any tM=ns.any (· != 0):=by
 rw[List.any_map];rfl
end
section
variable {X:Cx}{tg:Expr}(K:Frag)
theorem cJ (h:X.K=K:=by rfl):Nh X (KU K):=h▸G4
theorem au (h:X.K=K:=by rfl):Nh X (KW K):=h▸KZ
theorem cW (h:X.K=K:=by rfl):gS X (.builtin "len") (fun xs H Q=>∃p ys,xs=[.ref p]∧(bP K H p ys∨eV K H p ys)∧Q (.int ys.length) H):=h▸tG
theorem Lp (h:X.K=K:=by rfl):iP X (compareOp .In) (Rx K false):=h▸BE
theorem sk (h:X.K=K:=by rfl):iP X (compareOp .NotIn) (Rx K true):=h▸tF
theorem mE (h:X.K=K:=by rfl):Te X (Oh K):=h▸G7
theorem iT (h:X.K=K:=by rfl):gS X (.type "list") (fun xs H Q=>∃p ys,xs=[.ref p]∧(bP K H p ys∨eV K H p ys)∧∀l,H l=none→Q (.ref l) (upd H l (.lst ys))):=h▸tH
theorem bQ {l:Expr}{tl:TE}(hl:PE X l tl) (h:X.K=K:=by rfl):PI X tg l (Dj K tl):=h▸GL hl
theorem Ho {l:Expr}{tl:TE}(hl:PE X l tl) (h:X.K=K:=by rfl):PI X tg l (NY K tl):=h▸KL hl
theorem wm (hu:X.A.units<cLine) (h:X.K=K:=by rfl):iP X (compareOp .Eq) (Ak K false):=h▸Hl hu
theorem DZ (hu:X.A.units<cLine) (h:X.K=K:=by rfl):iP X (compareOp .NotEq) (Ak K true):=h▸Hm hu
theorem so (hc:X.calm=true:=by rfl) (h:X.K=K:=by rfl):gS X (.builtin "any") (fun xs H Q=>∃p ys,xs=[.ref p]∧bP K H p ys∧ys.all plainT=true∧Q (.bl (ys.any tM)) H):=h▸DX hc
end
theorem q9 {c A B:Prop}[Decidable c] (hc:c) (h:A):if decide c=true then A else B:=by rw[decide_eq_true hc];exact qY h
theorem mF {c A B:Prop}[Decidable c] (hc:¬c) (h:B):if decide c=true then A else B:=by rw[decide_eq_false hc];exact js h
theorem lQ {b:Bool}{A B:Prop}(hc:b=true) (h:A):if b=true then A else B:=by rw[hc];exact qY h
theorem bV {b:Bool}{A B:Prop}(hc:b=false) (h:B):if b=true then A else B:=by rw[hc];exact js h
theorem aH:∀{n:Nat},n≤1000→n≤sizeLine:=fun h=>Nat.le_trans h (by rw[sizeLine_eq];decide)
end L2
namespace L2
open PySem
structure OF (K:Frag) (C:Addr):Prop where
 cd:∃cd,PySem.W.clsIn K C=some cd
 ty:PySem.W.typeIn K (.ref C)=some (.type "type")
theorem Lq {K:Frag}{a C:Addr}{b:Bool}(s0:PySem.W.subIn K (.ref C) (.type "BaseException")=some true) (c:OF K C) (s:PySem.W.subIn K (.ref a) (.ref C)=some b):PySem.W.exmOne K (.ref a) (.ref C)=some b:=by
 obtain⟨⟨cd,h1⟩,h2⟩:=c
 unfold PySem.W.exmOne
 rw[s0,if_pos (by rfl)]
 unfold PySem.W.kitCls
 simp only[h1,h2]
 rw[if_pos (by rfl)]
 exact s
end L2
namespace L2
open PySem PySem.Spec PyProof.Rows
section
variable {prog:Program}{w:World}{A:Around}{E:Value→Shared→Prop}{s:Shared}
end
section
variable {X:Cx}(K:Frag)
end
structure eK (mg:Str→Option Value):Prop where
 lF:mg "len"=none
 cq:mg "range"=none
 OG:mg "abs"=none
 JS:mg "any"=none
 n_all:mg "all"=none
 Hq:mg "isinstance"=none
 OH:mg "int"=none
 Ug:mg "bool"=none
 tN:mg "list"=none
 n_str:mg "str"=none
 RG:mg "tuple"=none
 gU:mg "enumerate"=none
 Hr:mg "ValueError"=none
theorem Ls {K:Frag}{h:Heap}{mg:Str→Option Value}(X:K.In h) (G:h.Ns mainGlobals mg)
  (z1:nsIn K mainGlobals "len"=some none) (z2:nsIn K mainGlobals "range"=some none) (z3:nsIn K mainGlobals "abs"=some none) (z4:nsIn K mainGlobals "any"=some none) (z5:nsIn K mainGlobals "all"=some none)
  (z6:nsIn K mainGlobals "isinstance"=some none) (z7:nsIn K mainGlobals "int"=some none) (z8:nsIn K mainGlobals "bool"=some none) (z9:nsIn K mainGlobals "list"=some none) (OI:nsIn K mainGlobals "str"=some none)
  (OJ:nsIn K mainGlobals "tuple"=some none) (OK:nsIn K mainGlobals "enumerate"=some none) (OL:nsIn K mainGlobals "ValueError"=some none):eK mg :=
 ⟨PySem.W.mg_none_of X G z1,PySem.W.mg_none_of X G z2,PySem.W.mg_none_of X G z3,PySem.W.mg_none_of X G z4,PySem.W.mg_none_of X G z5,PySem.W.mg_none_of X G z6,PySem.W.mg_none_of X G z7,PySem.W.mg_none_of X G z8,PySem.W.mg_none_of X G z9,
  PySem.W.mg_none_of X G OI,PySem.W.mg_none_of X G OJ,PySem.W.mg_none_of X G OK,PySem.W.mg_none_of X G OL⟩
structure yG (K:Frag) (mg:Str→Option Value) (x:Str) (C:Addr):Prop where
 m:mg x=some (.ref C)
 cl:OF K C
theorem tO {K:Frag}{h:Heap}{mg:Str→Option Value}{x:Str}{C:Addr}{cd:ClassData}(X:K.In h) (G:h.Ns mainGlobals mg) (a:nsIn K mainGlobals x=some (some (.ref C))) (b:PySem.W.clsIn K C=some cd) (c:PySem.W.typeIn K (.ref C)=some (.type "type")):yG K mg x C :=
 ⟨PySem.W.mg_of X G a,⟨_,b⟩,c⟩
structure XCls (K:Frag) (C:Addr):Prop where
 x:PySem.W.excIn K C Hj "ValueError.__new__"=true
 c:yF K C
 self:PySem.W.subIn K (.ref C) (.ref C)=some true
structure Lu (K:Frag) (mg:Str→Option Value) (aL:Addr):Prop where
 m:mg "LENGTHS"=some (.ref aL)
 sq:∀H,eV K H aL (zV [2,4,8,16,32,64])
theorem Hs {K:Frag}{h:Heap}{mg:Str→Option Value}{a:Addr}{od:Option Addr}{sl:Array (Option Value)}{n:Nat}{t1 t2 t3 t4 t5 t6:Tok}(X:K.In h) (G:h.Ns mainGlobals mg) (g:nsIn K mainGlobals "LENGTHS"=some (some (.ref a)))
  (l:K.lookup a=some ⟨.type "tuple",od,.seq #[.int 2 t1,.int 4 t2,.int 8 t3,.int 16 t4,.int 32 t5,.int 64 t6] n,sl⟩):Lu K mg a :=
 ⟨PySem.W.mg_of X G g,fun H=>.inr ⟨_,_,n,l,rfl,rfl,aH (by show 6≤1000;decide),.cons ⟨_,rfl⟩ (.cons ⟨_,rfl⟩ (.cons ⟨_,rfl⟩ (.cons ⟨_,rfl⟩ (.cons ⟨_,rfl⟩ (.cons ⟨_,rfl⟩ .nil)))))⟩⟩
end L2
namespace L2
end L2
namespace L2
theorem D0 {ι:Sort _}{C G:ι→Prop}{A:Prop}(h:(∀i,C i→G i)→A) (k:∀i,C i→G i):A:=h k
end L2
namespace L2
open PySem PySem.Spec PyProof.Rows
section
variable {X:Cx}{π:List (Addr×Obj)}{σ:St}{H:Hp}{s:Shared}{h':Heap}
theorem Inv.Ht {t':Nat}{e it:Addr}(I:Inv X π σ H s) (k:∀b o,b≠e→b≠it→s.heap.get? b=some o→h'.get? b=some o) (fe:gA X π H e) (fi:gA X π H it):Inv X π σ H { s with heap:=h',toks:=t' }:=by
 have ne:∀b u,H b=some u→b≠e∧b≠it:=fun b u q=>⟨fun z=>(by rw[z,fe.1] at q;cases q),fun z=>(by rw[z,fi.1] at q;cases q)⟩
 refine I.step (g':=s.gens) (d':=s.drawn) (ch:=[e,it]) (fun b hb=>?_) (fun b o _ _ hc q _=>k b o (fun z=>hc (by simp[z])) (fun z=>hc (by simp[z])) q) (fun b o _ _ hc q _=>⟨o.slots,k b o (fun z=>hc (by simp[z])) (fun z=>hc (by simp[z])) q⟩) (fun _ _ _ _ n=>n)
  (fun b o hc q=>⟨o,k b o (fun z=>hc (by simp[z])) (fun z=>hc (by simp[z])) q⟩) (fun _ _ q=>q) (fun _ _ _ q=>q) (fun b ps q=>⟨#[],by rw[q];simp⟩) (fun m hm=>?_) (fun b u q=>?_) I.bare
 ·rcases List.mem_cons.mp hb with rfl|hb
  ·exact⟨fe.2.2.2.1,fe.2.1,fe.2.2.2.2.1,fe.2.2.2.2.2⟩
  ·rcases List.mem_cons.mp hb with rfl|hb
   ·exact⟨fi.2.2.2.1,fi.2.1,fi.2.2.2.2.1,fi.2.2.2.2.2⟩
   ·cases hb
 ·obtain⟨o,es,ep,ho,r⟩:=hm
  exact⟨o,es,ep,k _ o (Ne.symm fe.2.1) (Ne.symm fi.2.1) ho,r⟩
 ·refine(I.aV b u q).lN (fun c v hc q'=>?_) (fun _ q=>q) fun _ _ q=>q
  rcases hc with z|z
  ·rw[z] at q' ⊢;exact k _ v (ne b u q).1 (ne b u q).2 q'
  ·exact k c v (ne c _ z).1 (ne c _ z).2 q'
def Nm (K:Frag) (a:Addr):It :=
 ⟨fun i H=>∃xs x,bP K H a xs∧xs[i]?=some x,fun i H x H'=>∃p v,H p=none∧x = .ref p∧H'=upd H p (.tup [.int i,v])∧∀xs,bP K H a xs→xs[i]?=some v,fun i H=>∃xs,bP K H a xs∧xs.length≤i⟩
theorem jQ {X:Cx}{π:List (Addr×Obj)}{H:Hp}{b p:Addr}{o:HO}(h:gA X π H b) (eY:b≠p):gA X π (upd H p o) b:=⟨by rw[aA eY];exact h.1,h.2⟩
theorem BJ {P:Program}{w:World}{K:Frag}{es:List Expr}{k:Nat}{pos:Pos}(a e it:Addr) (hei:e≠it):Turn P w K (.Tuple es k pos) (Nm K a) [e,it] e (fun i h=>(∃old,IsEnum h e it i old)∧h.IsListIter it a i) where
 mem:=by simp
 obj:=fun i h st b hb=>by
  obtain⟨⟨old,he⟩,o,e2,c,d⟩:=st
  rcases List.mem_cons.mp hb with rfl|hb
  ·exact⟨_,he,fun v z=>by cases z⟩
  ·rcases List.mem_cons.mp hb with rfl|hb
   ·exact⟨o,e2,fun v z=>by rw[d] at z;cases z⟩
   ·cases hb
 keep:=fun i h h' st k=>by
  obtain⟨⟨old,he⟩,hit⟩:=st
  exact⟨⟨old,k e (by simp) _ he⟩,hit.at fun o q=>k it (by simp) o q⟩
 item:=by
  intro X hP hw hK hc i π s σ H E I hf st hg
  subst hP hw hK
  obtain⟨xs,x,hq,hx⟩:=hg
  obtain⟨its,rv,p,hz⟩:=I.list hq
  obtain⟨u,hu,ru⟩:=rv.get hx
  obtain⟨⟨old,he⟩,hit⟩:=st
  have fe:=hf e (by simp)
  have fi:=hf it (by simp)
  have hle:e<s.heap.objs.size:=Heap.lt_size he
  have RH:it<s.heap.objs.size:=by obtain⟨_,q,_⟩:=id hit;exact Heap.lt_size q
  refine wpAny_pyNext_enum_item he hit p.isList (x:=u) (by simpa using hu) hei fun h' ho Uh hT hsz hk=>?_
  refine⟨_,rfl,wpAny_letOwnedTupleGo_enum ho fun h2 RE rW=>?_⟩
  replace rW:Heap.SameBut e h' h2:=rW
  have hn:H s.heap.objs.size=none:=I.aV.fresh (Nat.le_refl _)
  have IT:IsTup (s.heap.push { cls:=.type "tuple",data:=.seq #[.int i s.toks,u] }) s.heap.objs.size [Value.int i s.toks,u].toArray:=⟨_,Heap.get?_push_size s.heap rfl,rfl,0,rfl⟩
  have I1:Inv X π σ (upd H s.heap.objs.size (.tup [.int i,x])) { s with heap:=s.heap.push { cls:=.type "tuple",data:=.seq #[.int i s.toks,u] },toks:=s.toks } :=
   I.laid (fun b o q=>Heap.get?_push_of_some _ q) (Nat.le_refl _) ⟨by simp only[List.length_cons,List.length_nil];rw[sizeLine_eq];decide,[.int i s.toks,u],.cons ⟨_,rfl⟩ (.cons ru .nil),IT⟩
  have kk:∀b o,b≠e→b≠it→(s.heap.push { cls:=.type "tuple",data:=.seq #[.int i s.toks,u] }).get? b=some o→h2.get? b=some o:=fun b o n1 n2 q=>by
   refine(rW.2 b n1).trans ?_
   rcases Heap.get?_push_cases q with⟨rfl,rfl⟩|q
   ·exact hT
   ·exact hk b o n1 n2 q
  have I2:=I1.Ht (h':=h2) (e:=e) (it:=it) (t':=s.toks+1) kk (jQ fe (Nat.ne_of_lt hle)) (jQ fi (Nat.ne_of_lt RH))
  refine⟨.ref s.heap.objs.size,_,I2,rfl,⟨_,x,hn,rfl,rfl,fun ys hy=>by rw[I.mn hy hq];exact hx⟩,⟨⟨u,?_⟩,Uh.at fun o q=>(rW.2 it hei.symm).trans q⟩,fun b hb=>?_⟩
  ·have:((i+1:Nat):Int)=(i:Int)+1:=by push_cast;rfl
   rw[this];exact RE
  ·rcases List.mem_cons.mp hb with rfl|hb
   ·exact(jQ fe (Nat.ne_of_lt hle)).1
   ·rcases List.mem_cons.mp hb with rfl|hb
    ·exact(jQ fi (Nat.ne_of_lt RH)).1
    ·cases hb
 done:=by
  intro X hP hw hK hc i π s σ H E I hf st hg
  subst hP hw hK
  obtain⟨xs,hq,hx⟩:=hg
  obtain⟨its,rv,p,hz⟩:=I.list hq
  obtain⟨⟨old,he⟩,hit⟩:=st
  obtain⟨f0,f1,f2,f3,f4,f5⟩:=hf it (by simp)
  have hl:=rv.length
  exact wpAny_pyNext_enum_end (I.ok.hd hc) he hit p.isList (by simp;omega) fun h' eb=>⟨rfl,I.turned (t':=s.toks) (fun b o hb q=>eb b o hb q) f0 f1 f3 f4 f5⟩
 self:=fun _ _ _ _ _ st h=>by
  obtain⟨⟨old,he⟩,_⟩:=st
  exact wpAny_pyIter_enum he h
def OM (K:Frag) (ta:TA):TI:=fun σ H R=>ta σ H fun vs H1=>∃a xs,vs=[.ref a]∧bP K H1 a xs∧R (Nm K a) H1
theorem tP:bootBuiltins "enumerate"=some (.type "enumerate"):=by decide +kernel
theorem mG (K:Frag) {es:List Expr}{k:Nat}{p':Pos}{l:Expr}{ta:TA}{p pos:Pos}(hg:Gl X "enumerate") (hm:X.mg "enumerate"=none) (ha:PA X [l] ta) (hs:starEach [l] X.env=[(false,eval l X.env)]:=by rfl) (hK:X.K=K:=by rfl) :
  PI X (.Tuple es k p') (.Call (.Name "enumerate" p) [l] [] pos) (OM K ta):=by
 subst hK
 intro π s σ H R I h
 refine Call_ (jE I hg hm tP (PyProof.Rows.callWith_type1 (bL (ha pos π s σ H _ I h) fun us s1 ⟨vs,H1,I1,r1,q1⟩=>?_) hs rfl))
 obtain⟨a,xs,rfl,hq,q⟩:=q1
 cases r1 with
 | cons r rr =>
  cases rr
  cases r
  obtain⟨its,rv,pl,hz⟩:=I1.list hq
  refine call_enumerate_list pl.isList fun h' he hit hsz hk=>?_
  refine wpAny_pyIter_enum he ?_
  have eY:s1.heap.objs.size+1≠s1.heap.objs.size:=Nat.succ_ne_self _
  refine⟨s1.heap.objs.size+1,[s1.heap.objs.size+1,s1.heap.objs.size],_,_,H1,rfl,I1.kept (t':=s1.toks) hk,BJ a _ _ eY,⟨⟨_,he⟩,hit⟩,fun b hb=>?_,q⟩
  rcases List.mem_cons.mp hb with rfl|hb
  ·exact I1.vS (Nat.le_succ _) (I1.aV.fresh (Nat.le_succ _))
  ·rcases List.mem_cons.mp hb with rfl|hb
   ·exact I1.vS (Nat.le_refl _) (I1.aV.fresh (Nat.le_refl _))
   ·cases hb
end
theorem pK {K:Frag}{a:Addr}{xs:List V}{g:TG}{tb:TS}{D:Ends}{σ:St}{H:Hp}(Pv:Nat→St→Hp→Prop) (h0:Pv 0 σ H) (hl:∀i σ H,i≤xs.length→Pv i σ H→bP K H a xs)
  (hs:∀i x σ H p,xs[i]?=some x→Pv i σ H→H p=none→g (.ref p) σ (upd H p (.tup [.int i,x])) fun σ2 H2=>tb { D with nx:=Pv (i+1),ct:=Pv (i+1),bk:=D.nx } σ2 H2) (hd:∀σ H,Pv xs.length σ H→D.nx σ H) :
  ∃W:Nat→Nat→St→Hp→Prop,(∃m,W 0 m σ H)∧∀i m σ H,W i m σ H →
   ((Nm K a).stop i H∧D.nx σ H)∨((Nm K a).go i H∧∃N:St→Hp→Prop,(∀σ' H',N σ' H'→∃m',m'<m∧W (i+1) m' σ' H')∧∀x H',(Nm K a).JH i H x H'→g x σ H' fun σ2 H2=>tb { D with nx:=N,ct:=N,bk:=D.nx } σ2 H2):=by
 refine⟨fun i m σ H=>m=xs.length-i∧i≤xs.length∧Pv i σ H,⟨xs.length,by simp,Nat.zero_le _,h0⟩,?_⟩
 rintro i m σ H ⟨rfl,hi,p⟩
 have q:=hl i σ H hi p
 by_cases bR:i<xs.length
 ·refine .inr ⟨⟨xs,xs[i],q,by simp[bR]⟩,Pv (i+1),fun σ' H' p'=>⟨xs.length-(i+1),by omega,rfl,bR,p'⟩,fun x H' y=>?_⟩
  obtain⟨pp,v,hn,rfl,rfl,y⟩:=y
  exact hs i v σ _ pp (y xs q) p hn
 ·have e:i=xs.length:=by omega
  subst e
  exact .inl ⟨⟨xs,q,Nat.le_refl _⟩,hd σ H p⟩
end L2
namespace L2
open PySem
theorem iU {X:Cx}(K:Frag) {es:List Expr}{k:Nat}{pos:Pos}{t:JF}{n:Nat}(hc:X.calm=true) (h:NV X es t)
  (hn:(assignEach es X.env).length=n:=by rfl) (Dh:(assignEach es X.env).findIdx? (·.1)=none:=by rfl) (hK:X.K=K:=by rfl):PG X (.Tuple es k pos) (KH K n t):=hK▸KI hc h hn Dh
structure Wrds (K:Frag) (mg:Str→Option Value) (x a b c:Str) (aW:Addr):Prop where
 m:mg x=some (.ref aW)
 sq:∀H,eV K H aW [.str a,.str b,.str c]
end L2
namespace L2
open PySem PySem.Spec PyProof.Rows
inductive RI:V→V→Prop where
 | flat {x:V}(h:e8 x=true):RI x x
 | ref (a:Addr):RI (.ref a) (.ref a)
inductive RJ (K:Frag) (H:Hp):V→V→Prop where
 | of {x y:V}(h:RI x y):RJ K H x y
 | lst {p q:Addr}{xs ys:List V}(eY:p≠q) (h1:bP K H p xs) (h2:bP K H q ys) (hl:xs.length=ys.length) (h:∀(j:Nat) x y,xs[j]?=some x→ys[j]?=some y→RI x y):RJ K H (.ref p) (.ref q)
section
variable {X:Cx}
def rAlk (K:Frag) (neg:Bool):R2:=fun x y H Q=>∃p q xs ys,x = .ref p∧y = .ref q∧bP K H p xs∧bP K H q ys∧xs.length=ys.length∧(∀(j:Nat) x y,xs[j]?=some x→ys[j]?=some y→RJ K H x y)∧Q (.bl (!neg)) H
variable {e:Expr}{te:TE}{pos:Pos}{p1:Pos}{p2:Pos}{p3:Pos}{k:Nat}
def tRev (K:Frag) (te:TE):TE:=fun σ H Q=>te σ H fun x H1=>∃a xs,x = .ref a∧bP K H1 a xs∧∀p,H1 p=none→Q (.ref p) (upd H1 p (.lst xs.reverse))
end
theorem gE {K:Frag}{a:Addr}{xs:List V}{te:TE}{σ:St}{H:Hp}{Q:VK}(Pv:Nat→List V→Hp→Prop) (h0:Pv 0 [] H) (hl:∀i ys H',i≤xs.length→Pv i ys H'→bP K H' a xs∧ys.length=i) (hz:xs.length≤sizeLine)
  (he:∀(i:Nat) x ys H' Q',xs[i]?=some x→Pv i ys H'→(∀y H4,Pv (i+1) (ys++[y]) H4→Q' y H4)→te (some x::σ) H' Q')
  (hd:∀ys H' p,Pv xs.length ys H'→H' p=none→Q (.ref p) (upd H' p (.lst ys))):∃W,(∃m,W 0 m [] H)∧oo (JI K a) oN te σ Q W:=by
 refine⟨fun i m ys H'=>m=xs.length-i∧i≤xs.length∧Pv i ys H',⟨xs.length,by simp,Nat.zero_le _,h0⟩,?_⟩
 rintro i m ys H' ⟨rfl,hi,pv⟩
 obtain⟨q,hy⟩:=hl i ys H' hi pv
 by_cases bR:i<xs.length
 ·refine .inr ⟨⟨xs,xs[i],q,by simp[bR]⟩,by omega,fun x H2 y=>?_⟩
  obtain⟨e,y⟩:=y
  subst e
  have hx:=y xs q
  simp only[oN,if_true]
  exact he i x ys _ _ hx pv fun y H4 q4=>⟨xs.length-(i+1),by omega,rfl,bR,q4⟩
 ·have e:i=xs.length:=by omega
  subst e
  exact .inl ⟨⟨xs,q,Nat.le_refl _⟩,by omega,fun p hp=>hd _ _ p pv hp⟩
end L2
namespace L2
open PySem
theorem bF.nE {k:Nat}{A:Around}(r:bF k A):A.units+1<cLine:=by have:=r.un;omega
end L2
namespace L2
open PySem PySem.Spec PyProof.Rows
section
variable {X:Cx}
def CPowB (i j:Int):Prop:=0≤j∧j≤8∧i.natAbs<2^4000
theorem D1:bootBuiltins "sum"=some (.builtin "sum"):=by decide +kernel
theorem pL:∀{ns:List Int}{us:List Value},Vals (ns.map V.int) us→IntsAre us ns
 | [],us,h=>by cases h;exact .nil
 | n::ns,us,h=>by
  cases h with
  | cons r rr =>
   obtain⟨t,rfl⟩:=r
   exact .cons n t (pL rr)
theorem sr (K:Frag) (hc:X.calm=true:=by rfl) (hK:X.K=K:=by rfl):gS X (.builtin "sum") (fun xs H Q=>∃p ns,xs=[.ref p]∧bP K H p (zV ns)∧Q (.int ns.sum) H):=by
 subst hK
 intro π s σ H xs us Q I r h
 obtain⟨p,ns,rfl,hq,q⟩:=h
 obtain⟨u,rfl,rx⟩:=vals1 r
 cases rx
 obtain⟨its,r',pl,hz⟩:=I.list hq
 have hi:=pL r'
 obtain⟨xs,e⟩:=(hi.allInts).items
 have hl:=pl.isList
 have hn:(numsOf its).sum=ns.sum:=by rw[hi.numsOf]
 rw[show its=its.toArray.toList from rfl,e,nums_intItems] at hn
 rw[e] at hl
 refine sum_intListG (I.ok.hd hc) hl fun h' tk t' hk=>?_
 refine⟨.int ns.sum,H,I.kept (t':=tk) hk,⟨t',?_⟩,q⟩
 rw[preSum_eq,List.take_of_length_le (by simp),hn]
end
theorem ot {n:Nat}{te:TE}{σ:St}{H:Hp}{Q:VK}(Pv:Nat→List V→Hp→Prop) (h0:Pv 0 [] H) (hl:∀i ys H',i≤n→Pv i ys H'→ys.length=i) (hz:n≤sizeLine)
  (he:∀(i:Nat) ys H' Q',i<n→Pv i ys H'→(∀y H4,Pv (i+1) (ys++[y]) H4→Q' y H4)→te (some (.int (0+(i:Int)))::σ) H' Q')
  (hd:∀ys H' p,Pv n ys H'→H' p=none→Q (.ref p) (upd H' p (.lst ys))):∃W,(∃m,W 0 m [] H)∧oo (Gf 0 n) oN te σ Q W:=by
 refine⟨fun i m ys H'=>m=n-i∧i≤n∧Pv i ys H',⟨n,by simp,Nat.zero_le _,h0⟩,?_⟩
 rintro i m ys H' ⟨rfl,hi,pv⟩
 have hy:=hl i ys H' hi pv
 by_cases bR:i<n
 ·refine .inr ⟨bR,by omega,fun x H2 y=>?_⟩
  obtain⟨e,y⟩:=y
  subst e y
  simp only[oN,if_true]
  exact he i ys _ _ bR pv fun y H4 q4=>⟨n-(i+1),by omega,rfl,bR,q4⟩
 ·have e:i=n:=by omega
  subst e
  exact .inl ⟨Nat.le_refl _,by omega,fun p hp=>hd _ _ p pv hp⟩
theorem Lv:bootBuiltins "min"=some (.builtin "min"):=by decide +kernel
theorem D2:bootBuiltins "max"=some (.builtin "max"):=by decide +kernel
theorem nF (a b:Nat):Builtin.bitAnd (a:Int) (b:Int)=((a&&&b:Nat):Int):=bitAnd_pp (Int.natCast_nonneg a) (Int.natCast_nonneg b)
end L2
namespace L2
open PySem
end L2
namespace L2
theorem ON {G A:Prop}(h:G→A) (k:G):A:=h k
end L2
namespace L2
open PySem PySem.Spec PyProof.Rows
section
variable {X:Cx}{e v1 v2:Expr}{es:List Expr}{te:TE}{pos:Pos}
def tFmtI (te:TE):TE:=fun σ H Q=>te σ H fun x H1=>∃i,x = .int i∧i.natAbs.log2<1920∧Q (.str (toString i)) H1
def tFmtS (te:TE):TE:=fun σ H Q=>te σ H fun x H1=>∃z,x = .str z∧z.length≤sizeLine∧Q (.str z) H1
def PJ (X:Cx) (es:List Expr) (t:Str→TE):Prop :=
 ∀(out:Str) (π:List (Addr×Obj)) (s:Shared) (σ:St) (H:Hp) (Q:VK),Inv X π σ H s→t out σ H Q→wpAny (model X.prog X.w) X.A (joinParts out (evalEach es X.env)) (EP X π σ Q) X.xe s
def tJnil:Str→TE:=fun out _ H Q=>out.length≤sizeLine∧Q (.str out) H
def Ui (te:TE) (t:Str→TE):Str→TE:=fun out σ H Q=>te σ H fun x H1=>∃y,x = .str y∧(out++y).length≤sizeLine∧t (out++y) σ H1 Q
end
section
variable {prog:Program}{w:World}{A:Around}{E:Value→Shared→Prop}{h:Heap}{g:Array GenState}{d:Drawn}{t:Nat}{os:OsState}
variable {nm q:Str}{C N f:Addr}{bs bm Gk:List Value}{hdct:Bool}{sn:List Str}{sub:List Value}{ab:Bool}{col:Option Bool}{dd:Option Addr}{k0 k1 k2 k3 k5:Option Value}{B Bn newId RK tQ RL:String}{RM:List Value}
theorem BK {of:Obj}(Fn:ExcBaseFacts Bn newId RL RM) (Nn:Gk.contains (.type Bn)=true) (F:ExcBaseFacts B RK tQ Gk) (T:OwnTail h Gk bm) {mN:Str→Option Value}{rest:List Value}{Q:Fin→Shared→Prop}
  (hC:h.get? C=some (excClassObj nm q C N bs bm hdct sn sub ab col dd k0 k1 k2 k3 k5 newId)) (hn:h.Ns N mN) (D3:mN "__init__"=some (.ref f)) (qZ:h.get? f=some of) (Lw:of.cls = .type "function") (D4:rest.length≤sizeLine)
  (hq:∀h' e,Heap.MadeExcOf h h' e (.ref C) rest→wpAny (model prog w) A (call (.ref f) (.ref e::rest)) (fun v s'=>v = .none∧Q (.done (.ret (.ref e))) s') E ⟨h',g,d,t,os⟩) :
  wpAny (model prog w) A (Builtin.«type.__call__» ⟨.ref C::rest,[]⟩) Q E ⟨h,g,d,t,os⟩:=by
 repeat (first|(with_reducible refine wpAny_madeBy_exc hC ?_)|(with_reducible refine wpAny_loadPart_at hC ?_)|wp_step)
 refine codeAny_call_builtin_code (Code.quiet_builtin _ Fn.quiet) (wpAny_check_new_subU Fn Nn T hC ?_)
 refine codeAny_exc_new_subU Fn Nn F T hC ?_ D4
 have z1:(h.push { cls:=.type "tuple",data:=.seq rest.toArray }).objs.size=h.objs.size+1:=Heap.size_push ..
 have hm:Heap.MadeExcOf h ((h.push { cls:=.type "tuple",data:=.seq rest.toArray }).push { cls:=.ref C,data:=.fields #[.ref h.objs.size,.none,.none,.none,.bool false,.none] }) (h.objs.size+1) (.ref C) rest :=
  ⟨fun b o e=>Heap.get?_push_of_some _ (Heap.get?_push_of_some _ e),Heap.get?_none_of_le (Nat.le_succ _),h.objs.size,Heap.get?_push_at z1.symm rfl,Heap.get?_none_of_le (Nat.le_refl _),Heap.get?_push_of_some _ (Heap.get?_push_size _ rfl)⟩
 have OO:=Heap.get?_push_at (o:={ cls:=Value.ref C,data:=.fields #[.ref h.objs.size,.none,.none,.none,.bool false,.none] }) z1.symm rfl
 generalize (h.push { cls:=.type "tuple",data:=.seq rest.toArray }).push { cls:=.ref C,data:=.fields #[.ref h.objs.size,.none,.none,.none,.bool false,.none] }=h1 at hm OO ⊢
 have hC₁:=hm.keeps _ _ hC
 have hn₁:h1.Ns N mN:=hn.keeps hm.keeps
 have T₁:=T.keeps hm.keeps
 have hf₁:=hm.keeps _ _ qZ
 have hcC:(Value.ref C::bm).contains (.ref C)=true:=by simp
 show wpAny _ _ _ _ _ _
 unfold isInstance
 repeat (first|(with_reducible refine wpAny_isSubtype_exc hC₁ ?_;rw[hcC])|(with_reducible refine wpAny_loadPart_at OO ?_)|wp_step)
 show wpAny _ _ (typeLookup (.ref C) _) _ _ _
 refine wpAny_typeLookup_tail hC₁ hn₁ T₁ F.mroIs F.init.lookup ?_
 rw[D3]
 refine wpAny_holding (wpAny_bind (wpAny_bindSpecial_def (s:=⟨h1,g,d,t,os⟩) hf₁ Lw ?_))
 refine wpAny_bind (wpAny_mono (hq h1 _ hm) (fun v s' hv=>wpAny_pure ?_) fun _ _ z=>z)
 obtain⟨rfl,hv⟩:=hv
 exact wpAny_pure hv
theorem D5 {of:Obj}(Fn:ExcBaseFacts Bn newId RL RM) (Nn:Gk.contains (.type Bn)=true) (F:ExcBaseFacts B RK tQ Gk) (T:OwnTail h Gk bm) {mN:Str→Option Value}{rest:List Value}{Q:Value→Shared→Prop}
  (hC:h.get? C=some (excClassObj nm q C N bs bm hdct sn sub ab col dd k0 k1 k2 k3 k5 newId)) (hn:h.Ns N mN) (D3:mN "__init__"=some (.ref f)) (qZ:h.get? f=some of) (Lw:of.cls = .type "function") (D4:rest.length≤sizeLine)
  (hq:∀h' e,Heap.MadeExcOf h h' e (.ref C) rest→wpAny (model prog w) (A.under (.builtin "type.__call__" ⟨.ref C::rest,[]⟩)) (call (.ref f) (.ref e::rest)) (fun v s'=>v = .none∧Q (.ref e) s') E ⟨h',g,d,t,os⟩) :
  wpAny (model prog w) A (call (.ref C) rest) Q E ⟨h,g,d,t,os⟩:=by
 have f1:=tc_lookup
 have f2:=tc_bind (.ref C)
 have hT:(⟨h,g,d,t,os⟩:Shared).TypeIs (.ref C) "type":=⟨_,hC,rfl⟩
 refine wpAny_call (codeAny_of_tree ?_)
 show wpAny _ _ (callAny (.ref C) _) _ _ _
 repeat (any_goals (first|(with_reducible refine wpAny_loadPart_at hC ?_)|assumption|wp_step))
 refine⟨rfl,?_⟩
 refine codeAny_call_builtin_at (Code.quiet_builtin _ (by decide +kernel)) entry_typeCall (wpAny_check_type_call_sub hC (BK Fn Nn F T hC hn D3 qZ Lw D4 fun h' e hm=>?_))
 exact hq h' e hm
end
section
variable {prog:Program}{w:World}{A:Around}{E:Value→Shared→Prop}{s:Shared}{env:Env}
variable {nm q:Str}{C N f:Addr}{bs bm Gk:List Value}{hdct:Bool}{sn:List Str}{sub:List Value}{ab:Bool}{col:Option Bool}{dd:Option Addr}{k0 k1 k2 k3 k5:Option Value}{B Bn newId RK tQ RL:String}{RM:List Value}
theorem BL {M:Model}{x:Sem Value}{Q:Flow→Shared→Prop}(pq:bm.contains (.type "BaseException")=true) (hh:A.handled=none)
  (h:wpAny M A x (fun v s₁=>∃e od vs sl,v = .ref e∧s₁.heap.get? C=some (excClassObj nm q C N bs bm hdct sn sub ab col dd k0 k1 k2 k3 k5 newId)∧s₁.heap.get? e=some ⟨.ref C,od,.fields vs,sl⟩∧vs[1]?=some .none∧E (.ref e) s₁) E s) :
  wpAny M A (raiseStmt env (some x) none) Q E s:=by
 have hcB:(Value.ref C::bm).contains (.type "BaseException")=true:=by rw[List.contains_cons,pq,Bool.or_true]
 unfold raiseStmt
 refine wpAny_bind (wpAny_mono h (fun v s₁ h₁=>?_) fun _ _ z=>z)
 obtain⟨e,od,vs,sl,rfl,hC,he,Uj,hE⟩:=h₁
 obtain⟨hp,g,d,tk,os⟩:=s₁
 repeat (first|(with_reducible refine wpAny_isSubtype_exc hC ?_;rw[hcB])|(with_reducible refine wpAny_loadPart_at he ?_)|(with_reducible refine wpAny_loadPart_at hC ?_)|wp_step)
 rw[Uj]
 refine wpAny_pure ?_
 repeat wp_step
 exact wpAny_raiseNew_none hh hE
theorem BM {of:Obj}(Fn:ExcBaseFacts Bn newId RL RM) (Nn:Gk.contains (.type Bn)=true) (F:ExcBaseFacts B RK tQ Gk) {mN:Str→Option Value}{x:Str}{np dB pos:Pos}{args:List Expr}{Q:Flow→Shared→Prop}
  (pq:bm.contains (.type "BaseException")=true) (hh:A.handled=none) (yu:(backTo dB (starEach args env)).any (·.1)=false) (D3:mN "__init__"=some (.ref f)) (Lw:of.cls = .type "function")
  (hw:wpAny (model prog w) A (eval (.Name x np) env) (fun c s₁=>c = .ref C∧wpAny (model prog w) A (evalArgs (.ref C) true (backTo dB (starEach args env)) []) (fun a s₂=>a.kw=[]∧a.pos.length≤sizeLine ∧
    s₂.heap.get? C=some (excClassObj nm q C N bs bm hdct sn sub ab col dd k0 k1 k2 k3 k5 newId)∧s₂.heap.Ns N mN∧OwnTail s₂.heap Gk bm∧s₂.heap.get? f=some of ∧
    ∀h' e,Heap.MadeExcOf s₂.heap h' e (.ref C) a.pos→wpAny (model prog w) (A.under (.builtin "type.__call__" ⟨.ref C::a.pos,[]⟩)) (call (.ref f) (.ref e::a.pos)) (fun v s'=>v = .none ∧
     s'.heap.get? C=some (excClassObj nm q C N bs bm hdct sn sub ab col dd k0 k1 k2 k3 k5 newId)∧(∃od vs sl,s'.heap.get? e=some ⟨.ref C,od,.fields vs,sl⟩∧vs[1]?=some .none)∧E (.ref e) s') E { s₂ with heap:=h' }) E s₁) E s) :
  wpAny (model prog w) A (exec (.Raise (some (.Call (.Name x np) args [] dB)) none pos) env) Q E s:=by
 rw[arm_exec_Raise]
 simp only[evalOpt,Option.map]
 refine wpAny_bind (wpAny_standAt (BL (C:=C) (nm:=nm) (q:=q) (N:=N) (bs:=bs) (bm:=bm) (hdct:=hdct) (sn:=sn) (sub:=sub) (ab:=ab) (col:=col) (dd:=dd) (k0:=k0) (k1:=k1) (k2:=k2) (k3:=k3) (k5:=k5) (newId:=newId) pq hh ?_))
 refine wpAny_bind (wpAny_mono (wpAny_Call_ofName (wpAny_mono hw (fun c s₁ h₁=>?_) fun _ _ z=>z)) (fun v s₃ h₃=>wpAny_bind (wpAny_standAt (wpAny_pure h₃))) fun _ _ z=>z)
 obtain⟨rfl,h₁⟩:=h₁
 unfold callWith
 refine wpAny_bind (wpAny_holding (wpAny_mono h₁ (fun a s₂ h₂=>wpAny_bind (wpAny_standAt ?_)) fun _ _ z=>z))
 obtain⟨apos,akw⟩:=a
 obtain⟨hkw,hlen,hC,hn,T,qZ,h₂⟩:=h₂
 obtain rfl:akw=[]:=hkw
 obtain⟨hp,g,d,tk,os⟩:=s₂
 simp only[yu]
 refine wpAny_bind (wpAny_keeperOf_exc hC ?_)
 refine wpAny_bind (D5 Fn Nn F T hC hn D3 qZ Lw hlen fun h' e hm=>wpAny_mono (h₂ h' e hm) (fun v s' hv=>?_) fun _ _ z=>z)
 obtain⟨rfl,Uk,⟨od,vs,sl,he,Uj⟩,hE⟩:=hv
 exact⟨rfl,wpAny_bind (wpAny_holding (wpAny_point (wpAny_pure ⟨e,od,vs,sl,rfl,Uk,he,Uj,hE⟩)))⟩
end
structure gf (N N':List Str) (x y:Str) (sc osc:Scope):Prop where
 kind:sc.kind = .function
 d8:∀y∈sc.names,y.2≠.cell
 own:∀z∈sc.names,z.2 = .local→z.1=x∨z.1=y∨z.1=".0"
 has:sc.names.lookup x=some .local
 Ul:sc.names.lookup y=some .local
 ne:x≠y
 names:∀y∈sc.names,y.2 = .local→sc.names.lookup y.1=some .local
 vR:x∉N'
 noy:y∉N'
 RC:(".0":Str)∉N'
 nd:N'.Nodup
 len:N'.length=N.length
 sub:∀p∈N.zip N',p.1=p.2∨sc.names.lookup p.2=none
 free:∀y∈sc.names,y.2 = .free→osc.names.lookup y.1=some .cell∨osc.names.lookup y.1=some .free
noncomputable def JT (N N':List Str) (x y:Str) (sc osc:Scope):Bool :=
 decide (sc.kind = .function)&&decide (∀z∈sc.names,z.2≠.cell)&&decide (∀z∈sc.names,z.2 = .local→z.1=x∨z.1=y∨z.1=".0")&&decide (sc.names.lookup x=some .local)&&decide (sc.names.lookup y=some .local)&&decide (x≠y) &&
  decide (∀z∈sc.names,z.2 = .local→sc.names.lookup z.1=some .local)&&decide (x∉N')&&decide (y∉N')&&decide ((".0":Str)∉N')&&decide N'.Nodup&&decide (N'.length=N.length)&&decide (∀p∈N.zip N',p.1=p.2∨sc.names.lookup p.2=none)&&decide (∀z∈sc.names,z.2 = .free→osc.names.lookup z.1=some .cell∨osc.names.lookup z.1=some .free)
theorem RN {N N':List Str}{x y:Str}{sc osc:Scope}(h:JT N N' x y sc osc=true):gf N N' x y sc osc:=by
 unfold JT at h
 simp only[Bool.and_eq_true,decide_eq_true_eq] at h
 obtain⟨⟨⟨⟨⟨⟨⟨⟨⟨⟨⟨⟨⟨h1,h2⟩,h3⟩,h4⟩,h4'⟩,Um⟩,h5⟩,h6⟩,h6'⟩,h7⟩,h9⟩,Tz⟩,TB⟩,h8⟩:=h
 exact⟨h1,h2,h3,h4,h4',Um,h5,h6,h6',h7,h9,Tz,TB,h8⟩
def eN (X:Cx) (N':List Str) (x y:Str) (sc:Scope) (C:Addr) (s2:Shared) (H2:Hp) (fp:List Addr):Cx :=
 { X with N:=x::y::N',s₀:=s2,H₀:=H2,env:=compEnvC sc (bp sc.names X.env.cells []) C X.env,outer:=X.stack,stack:=X.stack,ex:=fp,fn:=fun _=>false,pn:=[],xe:=fun _ _=>False }
section
variable {X:Cx}{π:List (Addr×Obj)}{σ:St}{H H2:Hp}{s s2:Shared}{x y:Str}{sc:Scope}{C:Addr}{fp:List Addr}{N':List Str}
theorem dq (S:gf X.N N' x y sc X.env.scope) {y':Str}{c:Addr}(h:(bp sc.names X.env.cells []).lookup y'=some c):X.env.cells.lookup y'=some c∧(y',NameKind.free)∈sc.names:=by
 rcases gC _ _ (aM h) with z|z
 ·simp at z
 ·exact z
theorem Hu (I:Inv X π σ H2 s2) (S:gf X.N N' x y sc X.env.scope) (hC:s2.heap.objs.size≤C) (hf:∀b∈fp,gA X π H2 b) (qZ:∀b∈fp,∃o,s2.heap.get? b=some o∧∀v,o.data≠.cell v):(eN X N' x y sc C s2 H2 fp).Ok where
 mod:=I.ok.mod
 kind:=S.kind
 glob:=I.ok.glob
 blt:=I.ok.blt
 above:=hC
 inj:=fun y z c h1 h2=>I.ok.inj y z c (dq S h1).1 (dq S h2).1
 has:=fun y h=>by
  have key:∀k,(relabel sc X.env).names.lookup y=some k→(k = .cell∨k = .free)→∃c,(bp sc.names X.env.cells []).lookup y=some c:=fun k hk DK=>by
   have jr:sc.names.lookup y=some .free:=by
    rcases bT (env:=X.env) S.d8 hk with z|⟨z,_⟩
    ·rcases DK with e|e
     ·rw[e] at z;exact absurd rfl (S.d8 _ (aM z))
     ·rw[e] at z;exact z
    ·exact z
   have hm:=aM jr
   obtain⟨c,hc⟩:=I.ok.has y (S.free _ hm rfl)
   exact dm (d7 sc.names [] hm hc)
  rcases h with h|h
  ·exact key _ h (.inl rfl)
  ·exact key _ h (.inr rfl)
 GJ:=fun y c h=>by cases h
 hd:=fun h=>I.ok.hd h
 frames:=I.ok.frames
 JE:=.inl rfl
 Nc:=fun b hb=>by
  obtain⟨o,ho,hd⟩:=qZ b hb
  refine⟨Nat.ne_of_lt (Nat.lt_of_lt_of_le (Heap.lt_size ho) hC),fun y c h=>(hf b hb).2.2.2.2.1 y c (dq S h).1⟩
 bs:=I.bs
 vN:=Nat.le_trans I.ok.vN I.sz
 qT:=fun b o h hb=>by
  have h1:=(hf b hb).2.2.2.1
  rcases h1 with z|z
  ·exact I.ok.qT b o h z
  ·exact absurd (Nat.lt_of_lt_of_le (Heap.lt_size h) (Nat.le_trans I.ok.vN z)) (Nat.lt_irrefl _)
 vO:=fun b hb h=>by
  rcases List.mem_cons.mp (I.jD b h) with e|z
  ·exact(hf b hb).2.1 e
  ·exact(hf b hb).2.2.1 z
 jC:=I.stack
 CJ:=I.oQ
theorem yH {h4:Heap}{t4:Nat}(I:Inv X π σ H2 s2) (S:gf X.N N' x y sc X.env.scope) (hf:∀b∈fp,gA X π H2 b) (qZ:∀b∈fp,∃o,s2.heap.get? b=some o∧∀v,o.data≠.cell v)
  (hC:s2.heap.objs.size≤C) (hn:h4.Ns C fun _=>none) (hk:∀b o,s2.heap.get? b=some o→h4.get? b=some o) {q:List (Addr×Obj)}(hq:∀p∈q,h4.get? p.1=some p.2∧H2 p.1=none∧p.1≠C∧p.1∉nk X.stack∧∀v,p.2.data≠.cell v) :
  Inv (eN X N' x y sc C s2 H2 fp) q (none::none::σ) H2 { s2 with heap:=h4,toks:=t4 } where
 ok:=Hu I S hC hf qZ
 os:=rfl
 bare:=I.bare
 base:=Un.kept hk
 loc:=by
  refine⟨fun _=>none,hn,fun i y v e1 e2 e3=>?_⟩
  match i with
  | 0=>simp at e2
  | 1=>simp at e2
  | i+2 =>
   have K7:N'[i]?=some y:=by simpa[eN] using e1
   have TF:σ[i]?=some (some v):=by simpa using e2
   have hm:y∈N':=mem_of_getElem? K7
   have TH:X.N[i]?=some y:=by
    have hi:i<X.N.length:=by rw[←S.len];exact(List.getElem?_eq_some_iff.mp K7).1
    have hz:(X.N[i],y)∈X.N.zip N':=by
     refine mem_of_getElem? (i:=i) ?_
     rw[List.getElem?_zip_eq_some]
     exact⟨getElem?_eq_getElem hi,K7⟩
    rcases S.sub _ hz with z|z
    ·rw[getElem?_eq_getElem hi];exact congrArg some z
    ·exfalso
     have no:∀k,(relabel sc X.env).names.lookup y≠some k:=fun k hk=>by
      rcases bT (env:=X.env) S.d8 hk with w|⟨w,_⟩
      ·rw[show sc.names.lookup y=none from z] at w;cases w
      ·rw[show sc.names.lookup y=none from z] at w;cases w
     rcases e3 with w|w|w
     ·exact no _ w
     ·exact no _ w
     ·exact no _ w
   have jr:sc.names.lookup y=some .free:=by
    have case:∀k,(relabel sc X.env).names.lookup y=some k→(k = .local ∨ k = .cell∨k = .free)→sc.names.lookup y=some .free:=fun k hk DK=>by
     rcases bT (env:=X.env) S.d8 hk with z|⟨z,_⟩
     ·rcases DK with e|e|e
      ·rw[e] at z
       rcases S.own _ (aM z) rfl with w|w|w
       ·exact absurd (w▸hm) S.vR
       ·exact absurd (w▸hm) S.noy
       ·exact absurd (w▸hm) S.RC
      ·rw[e] at z;exact absurd rfl (S.d8 _ (aM z))
      ·rw[e] at z;exact z
     ·exact z
    rcases e3 with z|z|z
    ·exact case _ z (.inl rfl)
    ·exact case _ z (.inr (.inl rfl))
    ·exact case _ z (.inr (.inr rfl))
   have pF:=aM jr
   have kd:X.env.kindOf y=some .cell∨X.env.kindOf y=some .free:=S.free _ pF rfl
   obtain⟨m,CU,hl⟩:=I.loc
   obtain⟨u,r,lk⟩:=hl i y v TH TF (by rcases kd with z|z;exact .inr (.inl z);exact .inr (.inr z))
   obtain⟨c,hc,rT⟩:∃c,X.env.cells.lookup y=some c∧s2.heap.IsCell c (some u):=by
    rcases lk with⟨z,_⟩|⟨_,z⟩
    ·rcases kd with w|w
     ·rw[w] at z;cases z
     ·rw[w] at z;cases z
    ·exact z
   refine⟨u,r,.inr ⟨?_,c,?_,?_⟩⟩
   ·rcases e3 with z|z|z
    ·exfalso
     rcases bT (env:=X.env) S.d8 z with q|⟨_,q⟩
     ·rw[jr] at q;cases q
     ·cases q
    ·exact .inl z
    ·exact .inr z
   ·obtain⟨d,hd⟩:=dm (d7 sc.names [] pF hc)
    have:=(dq S hd).1
    rw[hc] at this;cases this
    exact hd
   ·obtain⟨o,ho,hd⟩:=rT
    exact⟨o,hk _ _ ho,hd⟩
 cell:=fun y c e=>by
  obtain⟨v,o,ho,hd⟩:=I.cell y c (dq S e).1
  exact⟨v,o,hk _ _ ho,hd⟩
 free:=I.aV.fresh hC
 dP:=fun y c e=>I.dP y c (dq S e).1
 pin:=fun p hp=>by
  have JP:p∈q:=by simpa[eN] using hp
  exact hq p JP
 aV:=I.aV.kept hk
 len:=by show (none::none::σ).length=(x::y::N').length;simp[I.len,S.len]
def tR (K:Frag) (J:It) (tt:TT) (te:TE) (σ:St) (Q:VK) (W:Nat→Nat→List V→Hp→Prop):Prop:=∀i m ys H,W i m ys H →
 (J.stop i H∧ys.length≤sizeLine∧∀p,H p=none→Q (.ref p) (upd H p (.lst ys))) ∨
 (J.go i H∧ys.length<sizeLine∧∀x H',J.JH i H x H'→∃a u v,x = .ref a∧eV K H' a [u,v]∧tt (some u::some v::σ) H' fun b H3=>if b=true then te (some u::some v::σ) H3 fun y H4=>∃m',m'<m∧W (i+1) m' (ys++[y]) H4 else ∃m',m'<m∧W (i+1) m' ys H3)
def tS (K:Frag) (wi:TI) (tt:TT) (te:TE):TE:=fun σ H Q=>wi σ H fun J H1=>∃W:Nat→Nat→List V→Hp→Prop,(∃m,W 0 m [] H1)∧tR K J tt te σ Q W
theorem pM {s2:Shared}{H2:Hp}{elt iter:Expr}{ifs:List Expr}{px py pt pos:Pos}{kt:Nat}{tt:TT}{te:TE}{Q:VK}{RR:Value→Addr→Result→Shared→Prop}{E:Value→Shared→Prop}
  (hc:X.calm=true) (hN:X.N.Nodup) (S:gf X.N N' x y sc X.env.scope)
  (ht:∀C s2 H2 fp,q8 (eN X N' x y sc C s2 H2 fp) ifs tt) (he:∀C s2 H2 fp,PE (eN X N' x y sc C s2 H2 fp) elt te)
  (I2:Inv X π σ H2 s2) {it:Addr}{fp:List Addr}{tn:Nat→Heap→Prop}{J:It}(T:Turn X.prog X.w X.K (.Tuple [.Name x px,.Name y py] kt pt) J fp it tn) (vU:tn 0 s2.heap) (f2:∀b∈fp,gA X π H2 b)
  (W:Nat→Nat→List V→Hp→Prop) (w0:∃m,W 0 m [] H2)
  (turn:tR X.K J tt te σ Q W)
  (TJ:∀D C s' H',Inv X π σ H' s'→gA X π H' C→(∃m,s'.heap.Ns C m)→Q (.ref D) H'→RR (.ref D) C (.ok .next) s') :
  wpAny (model X.prog X.w) X.A (newList []) (fun acc s₃=>wpAny (model X.prog X.w) X.A (newFunctionEnv sc X.env.globals (bp sc.names X.env.cells []) [] X.env.qual none .none (some X.env)) (fun DM s₄ =>
   codeAny (model X.prog X.w) X.A (.compStart (.ListComp elt [⟨.Tuple [.Name x px,.Name y py] kt pt,iter,ifs,0⟩] sc pos) 0 (.ref it) acc { DM with scope:=relabel sc X.env }) (RR acc DM.locals) s₄) E s₃) E s2:=by
 have qZ:=T.obj _ _ vU
 refine wpAny_newObj_type (wpAny_newFunctionEnv S.d8 (by intro y hy;simp at hy) (fun h₁ hns₁ hsb₁=>?_) S.kind)
 dsimp only at hns₁ hsb₁ ⊢
 generalize K8:s2.heap.push { cls:=.type "list",dict:=none,data:=.seq ([]:List Value).toArray }=HP at hns₁ hsb₁ ⊢
 have hC:HP.objs.size=s2.heap.objs.size+1:=by rw[←K8,Heap.size_push]
 have DN:s2.heap.objs.size≠HP.objs.size:=by rw[hC];exact Nat.ne_of_lt (Nat.lt_succ_self _)
 have yD:s2.heap.objs.size≤HP.objs.size:=by rw[hC];exact Nat.le_succ _
 have below:∀b,b<s2.heap.objs.size→b≠HP.objs.size∧b≠s2.heap.objs.size:=fun b hb=>⟨by rw[hC];exact Nat.ne_of_lt (Nat.lt_succ_of_lt hb),Nat.ne_of_lt hb⟩
 have old:∀b o,s2.heap.get? b=some o→h₁.get? b=some o:=fun b o e=>hsb₁.extBut b o (below b (Heap.lt_size e)).1 (Heap.get?_push_of_some _ (K8▸Heap.get?_push_of_some _ e))
 have K9:h₁.get? s2.heap.objs.size=some { cls:=.type "list",dict:=none,data:=.seq ([]:List Value).toArray }:=hsb₁.extBut _ _ DN (Heap.get?_push_of_some _ (K8▸Heap.get?_push_size _ rfl))
 have TK:H2 s2.heap.objs.size=none:=I2.aV.fresh (Nat.le_refl _)
 have DO:s2.heap.objs.size∉nk X.stack:=fun hb=>by
  obtain⟨_,o,ho,_⟩:=I2.stack.mem hb
  exact absurd (Heap.lt_size ho) (Nat.lt_irrefl _)
 have DP:s2.heap.objs.size∉fp:=fun hb=>by
  obtain⟨o,ho,_⟩:=qZ _ hb
  exact absurd (Heap.lt_size ho) (Nat.lt_irrefl _)
 have La:HP.objs.size∉fp:=fun hb=>by
  obtain⟨o,ho,_⟩:=qZ _ hb
  exact absurd (Nat.lt_of_lt_of_le (Heap.lt_size ho) yD) (Nat.lt_irrefl _)
 obtain⟨m0,w0⟩:=w0
 have ph:∀{H':Hp}{o:Obj},(∀b∈fp,H' b=none)→∀b∈fp,gA (eN X N' x y sc HP.objs.size s2 H2 fp) [(s2.heap.objs.size,o)] H' b:=fun {H' o} hn b hb=>by
  obtain⟨f0,f1,TL,f3,f4,f5⟩:=f2 b hb
  refine⟨hn b hb,fun e=>La (by rw[←show b=HP.objs.size from e];exact hb),fun z=>?_,.inl hb,fun y c e=>f4 y c (dq S e).1,fun p hp=>?_⟩
  ·rcases List.mem_cons.mp (I2.jD b z) with e|z
   ·exact f1 e
   ·exact TL z
  ·have:p=(s2.heap.objs.size,o):=by simpa[eN] using hp
   subst this
   rintro rfl
   exact DP hb
 let Iv:Nat→Shared→Prop:=fun n s'=>∃i ys its k σx σy H',Inv (eN X N' x y sc HP.objs.size s2 H2 fp) [(s2.heap.objs.size,{ cls:=.type "list",data:=.seq (List.toArray its) k })] (σx::σy::σ) H' s' ∧
  Vals ys its∧tn i s'.heap∧(∀b∈fp,H' b=none)∧W i n ys H'
 have I4:Inv (eN X N' x y sc HP.objs.size s2 H2 fp) [(s2.heap.objs.size,{ cls:=.type "list",data:=.seq (List.toArray []) 0 })] (none::none::σ) H2 { s2 with heap:=h₁,toks:=s2.toks+([]:List (Str×Value)).length }:=by
  refine yH I2 S f2 qZ yD (by simpa using hns₁) old fun p hp=>?_
  have e:p=(s2.heap.objs.size,{ cls:=.type "list",data:=.seq (List.toArray []) 0 }):=by simpa using hp
  subst e
  exact⟨K9,TK,DN,DO,fun v=>by intro z;cases z⟩
 have loop:∀s₃:Shared,s₃={ s2 with heap:=h₁,toks:=s2.toks+([]:List (Str×Value)).length } →
   codeAny (model X.prog X.w) X.A (.compLoop (.ListComp elt [⟨.Tuple [.Name x px,.Name y py] kt pt,iter,ifs,0⟩] sc pos) 0 (.ref it) (.ref s2.heap.objs.size) (compEnvC sc (bp sc.names X.env.cells []) HP.objs.size X.env))
    (RR (.ref s2.heap.objs.size) HP.objs.size) s₃:=by
  rintro s₃ rfl
  refine mB Iv ?_ m0 ⟨0,[],[],0,none,none,H2,I4,.nil,T.keep _ _ _ vU fun b _ o e=>old b o e,fun b hb=>(f2 b hb).1,w0⟩
  rintro n s3 ⟨i,ys,its,k,σx,σy,H3,I3,rv,JJ,JK,w3⟩
  have hy:=rv.length
  rcases turn i n ys H3 w3 with⟨stop,hz,q⟩|⟨go,hz,step⟩
  ·refine bL (T.done (eN X N' x y sc HP.objs.size s2 H2 fp) rfl rfl rfl hc i _ s3 _ H3 _ I3 (ph JK) JJ stop) fun r s4 ⟨hr,I4⟩=>?_
   subst hr
   have pD:=I4.pin (s2.heap.objs.size,{ cls:=.type "list",data:=.seq (List.toArray its) k }) (by simp[eN])
   have new:bI X.prog X.w (upd H3 s2.heap.objs.size (.lst ys)) s4.heap s2.heap.objs.size (.lst ys):=⟨hz,its,k,rv,pD.1⟩
   have DJ:=I4.aV.lD (o:=.lst ys) pD.2.1 new
   have TM:Un (nk X.stack) fp H2 (upd H3 s2.heap.objs.size (.lst ys)) s2.heap s4.heap:=I4.base.lD pD.2.1 (Heap.get?_none_of_le (Nat.le_refl _))
   have IX:Inv X π σ (upd H3 s2.heap.objs.size (.lst ys)) s4:=I2.Dc I4.os TM DJ I4.bare fun b hb=>⟨(f2 b hb).2.2.2.1,(f2 b hb).2.1,(f2 b hb).2.2.2.2.1,(f2 b hb).2.2.2.2.2⟩
   obtain⟨m,CU,_⟩:=I4.loc
   refine TJ _ _ s4 _ IX ?_ ⟨m,CU⟩ (q _ pD.2.1)
   exact I2.vS yD (by rw[aA (Ne.symm DN)];exact I4.free)
  ·refine bL (T.item (eN X N' x y sc HP.objs.size s2 H2 fp) rfl rfl rfl hc i _ s3 _ H3 _ I3 (ph JK) JJ go) fun r s4 ⟨u,hr,h4⟩=>?_
   subst hr
   refine bL h4 fun _ s5 ⟨y',H5,I5,r5,y5,Dk,N3⟩=>?_
   have N4:=I5.pinned (ph N3) (T.obj _ _ Dk)
   obtain⟨ta,tu,tv,rfl,tsq,DQ⟩:=step y' H5 y5
   have Lb:Inv (eN X N' x y sc HP.objs.size s2 H2 fp) ([(s2.heap.objs.size,{ cls:=.type "list",data:=.seq (List.toArray its) k })]++jH fp s5.heap) (none::none::σ) H5 s5:=N4.weak rfl fun j v e=>by
    match j with
    | 0=>simp at e
    | 1=>simp at e
    | j+2=>simpa using e
   have lx:(relabel sc X.env).names.lookup x=some .local:=lookup_relabel_local S.has
   have ly:(relabel sc X.env).names.lookup y=some .local:=lookup_relabel_local S.Ul
   have vH:(x::y::N').Nodup:=List.nodup_cons.mpr ⟨fun z=>by rcases List.mem_cons.mp z with z|z;exact S.ne z;exact S.vR z,List.nodup_cons.mpr ⟨S.noy,S.nd⟩⟩
   have TN:PG (eN X N' x y sc HP.objs.size s2 H2 fp) (.Tuple [.Name x px,.Name y py] kt pt) (KH X.K 2 (Dg (aP 0) (Dg (aP 1) NW))):=iU X.K hc (b7 (aK (i:=0) vH rfl (Or.inl lx) (Or.inr lx)) (b7 (aK (i:=1) vH rfl (Or.inl ly) (Or.inr ly)) iO))
   refine bL (TN _ s5 (none::none::σ) H5 (.ref ta) u (fun σ6 H6=>σ6=some tu::some tv::σ∧tt (some tu::some tv::σ) H6 fun b H3=>if b=true then te (some tu::some tv::σ) H3 fun y H4=>∃m',m'<n∧W (i+1) m' (ys++[y]) H4 else ∃m',m'<n∧W (i+1) m' ys H3) Lb r5 ⟨ta,_,rfl,tsq,rfl,tu,_,rfl,tv,_,rfl,rfl,rfl,DQ⟩) fun _ s6 ⟨σ6,H6,I6,e6,q6⟩=>?_
   subst e6
   refine bL (ht _ s2 H2 fp _ s6 _ H6 _ I6 q6) fun b s7 ⟨H7,I7,q7⟩=>?_
   have wd:∀{H8:Hp}{s8:Shared},Inv (eN X N' x y sc HP.objs.size s2 H2 fp) ([(s2.heap.objs.size,{ cls:=.type "list",data:=.seq (List.toArray its) k })]++jH fp s5.heap) (some tu::some tv::σ) H8 s8 →
     tn (i+1) s8.heap∧(∀b∈fp,H8 b=none):=fun {H8 s8} I8=>by
    refine⟨T.keep _ _ _ Dk fun b hb o e=>(I8.pin (b,o) (mem_append_right _ (mem_append_right _ (fh hb e)))).1,fun b hb=>?_⟩
    obtain⟨o,e,d⟩:=T.obj _ _ Dk b hb
    exact(I8.pin (b,o) (mem_append_right _ (mem_append_right _ (fh hb e)))).2.1
   cases b with
   | false =>
    obtain⟨m',hm,w7⟩:=q7
    obtain⟨t7,f7⟩:=wd I7
    exact⟨m',hm,i+1,ys,its,k,some tu,some tv,H7,I7.jI,rv,t7,f7,w7⟩
   | true =>
    refine bL (he _ s2 H2 fp _ s7 _ H7 _ I7 q7) fun z s8 ⟨yv,H8,I8,r8,m',hm,w8⟩=>?_
    obtain⟨t8,f8⟩:=wd I8
    have pD:=I8.pin (s2.heap.objs.size,{ cls:=.type "list",data:=.seq (List.toArray its) k }) (by simp[eN])
    refine call_meets F.slot_list_append ⟨_,pD.1,rfl⟩ F.entry_list_append (F.args_list_append_2 _ _) (PySem.list_append s2.heap.objs.size its.toArray k z (by rw[List.size_toArray];omega)) ⟨pD.1,?_⟩
    have e9:=PySem.IsL.update pD.1 (fun a=>a.push z)
    rw[show its.toArray.push z=(its++[z]).toArray by simp] at e9
    obtain⟨k',e9⟩:∃k',(s8.heap.update s2.heap.objs.size (Obj.mapSeq fun a=>a.push z)).get? s2.heap.objs.size=some { cls:=.type "list",data:=.seq (its++[z]).toArray k' }:=⟨_,e9⟩
    have other:∀b,b≠s2.heap.objs.size→(s8.heap.update s2.heap.objs.size (Obj.mapSeq fun a=>a.push z)).get? b=s8.heap.get? b:=fun b hb=>Heap.get?_update_other _ _ (Ne.symm hb)
    have TQ:Inv (eN X N' x y sc HP.objs.size s2 H2 fp) [] (some tu::some tv::σ) H8 s8:=I8.kK fun p hp=>nomatch hp
    have I9:Inv (eN X N' x y sc HP.objs.size s2 H2 fp) [] (some tu::some tv::σ) H8 { s8 with heap:=s8.heap.update s2.heap.objs.size (Obj.mapSeq fun a=>a.push z) }:=by
     refine TQ.turned (it:=s2.heap.objs.size) (fun b o hb e=>(other b hb).trans e) pD.2.1 DN (.inr (Nat.le_refl _)) (fun y c e=>?_) fun p hp=>?_
     ·intro Nd
      obtain⟨v,o,ho,_⟩:=I2.cell y c (dq S e).1
      exact absurd (Heap.lt_size ho) (by rw[Nd];exact Nat.lt_irrefl _)
     ·simp[eN] at hp
    have TR:Inv (eN X N' x y sc HP.objs.size s2 H2 fp) [(s2.heap.objs.size,{ cls:=.type "list",data:=.seq (List.toArray (its++[z])) k' })] (some tu::some tv::σ) H8 { s8 with heap:=s8.heap.update s2.heap.objs.size (Obj.mapSeq fun a=>a.push z) }:=I9.kK fun p hp=>by
     have e:=mem_singleton.mp hp
     subst e
     exact⟨e9,pD.2.1,DN,DO,fun v=>by intro z;cases z⟩
    have t9:tn (i+1) (s8.heap.update s2.heap.objs.size (Obj.mapSeq fun a=>a.push z)):=T.keep _ _ _ t8 fun b hb o e=>by
     rw[other b (by rintro rfl;exact DP hb)];exact e
    exact⟨m',hm,i+1,ys++[yv],its++[z],k',some tu,some tv,H8,TR,rv.append (.cons r8 .nil),t9,f8,w8⟩
 exact codeAny_compStart_list (loop _ rfl) (T.self X.A 0 _ _ _ (T.keep _ _ _ vU fun b _ o e=>old b o e) (loop _ rfl))
theorem D6 {iter elt:Expr}{ifs:List Expr}{px py pt pos:Pos}{kt:Nat}{wi:TI}{tt:TT}{te:TE}(hc:X.calm=true) (hN:X.N.Nodup) (S:gf X.N N' x y sc X.env.scope) (hi:PI X (.Tuple [.Name x px,.Name y py] kt pt) iter wi)
  (ht:∀C s2 H2 fp,q8 (eN X N' x y sc C s2 H2 fp) ifs tt) (he:∀C s2 H2 fp,PE (eN X N' x y sc C s2 H2 fp) elt te) (hs:∀v,foldedSetIterable iter X.env v=pure v:=by intro _;rfl) :
  PE X (.ListComp elt [⟨.Tuple [.Name x px,.Name y py] kt pt,iter,ifs,0⟩] sc pos) (tS X.K wi tt te):=by
 intro π s σ H Q I h
 have pG:closureFor sc X.env=pure (bp sc.names X.env.cells []):=iS fun y hy hk=>I.ok.has _ (S.free y hy hk)
 rw[eval_ListComp]
 refine wpAny_comprehension_free (use:=none) rfl hs pG S.kind S.names (bL (hi π s σ H _ I h) fun v s1 h1=>bL h1 fun Nf s2 h2=>?_)
 obtain⟨it,fp,tn,J,H2,e,I2,T,vU,f2,W,w0,turn⟩:=h2
 subst e
 refine pM (RR:=fun acc C=>compPost (model X.prog X.w) X.A X.xe none (EP X π σ Q) acc C) hc hN S ht he I2 T vU f2 W w0 turn fun D C s' H' I' fC hn q=>?_
 obtain⟨m,hn⟩:=hn
 refine⟨m,hn,fun h' DR=>⟨.ref D,H',?_,rfl,q⟩⟩
 exact I'.turned (t':=s'.toks) (fun b o hb e=>(DR.2 b hb).trans e) fC.1 fC.2.1 fC.2.2.2.1 fC.2.2.2.2.1 fC.2.2.2.2.2
variable {h':Heap}
theorem Inv.Ao {t':Nat}{ch:List Addr}(I:Inv X π σ H s) (k:∀b o,b∉ch→s.heap.get? b=some o→h'.get? b=some o) (f:∀b∈ch,gA X π H b):Inv X π σ H { s with heap:=h',toks:=t' }:=by
 have ne:∀b u,H b=some u→b∉ch:=fun b u q z=>by rw[(f b z).1] at q;cases q
 refine I.step (g':=s.gens) (d':=s.drawn) (ch:=ch) (fun b hb=>?_) (fun b o _ _ hc q _=>k b o hc q) (fun b o _ _ hc q _=>⟨o.slots,k b o hc q⟩) (fun _ _ _ _ n=>n)
  (fun b o hc q=>⟨o,k b o hc q⟩) (fun _ _ q=>q) (fun _ _ _ q=>q) (fun b ps q=>⟨#[],by rw[q];simp⟩) (fun m hm=>?_) (fun b u q=>?_) I.bare
 ·exact⟨(f b hb).2.2.2.1,(f b hb).2.1,(f b hb).2.2.2.2.1,(f b hb).2.2.2.2.2⟩
 ·obtain⟨o,es,ep,ho,r⟩:=hm
  exact⟨o,es,ep,k _ o (fun z=>(f _ z).2.1 rfl) ho,r⟩
 ·refine(I.aV b u q).lN (fun c v hc q'=>?_) (fun _ q=>q) fun _ _ q=>q
  rcases hc with z|z
  ·rw[z] at q' ⊢;exact k _ v (ne b u q) q'
  ·exact k c v (ne c _ z) q'
def Uo (K:Frag) (a b:Addr):It :=
 ⟨fun i H=>∃xs x ys y,bP K H a xs∧xs[i]?=some x∧bP K H b ys∧ys[i]?=some y,fun i H x H'=>∃p u v,H p=none∧x = .ref p∧H'=upd H p (.tup [u,v])∧(∀xs,bP K H a xs→xs[i]?=some u)∧∀ys,bP K H b ys→ys[i]?=some v,
  fun i H=>∃xs ys,bP K H a xs∧bP K H b ys∧(xs.length≤i∨ys.length≤i)⟩
theorem D7 {P:Program}{w:World}{K:Frag}{es:List Expr}{k:Nat}{pos:Pos}(a b z TI TO i1 i2:Addr) (D:ZipApart z TI TO i1 i2 a b) :
  Turn P w K (.Tuple es k pos) (Uo K a b) [z,TI,TO,i1,i2] z (fun i h=>IsZip h z TI TO .none∧IsPair h TI (.ref i1) (.ref i2)∧(∃u v,IsPair h TO u v)∧h.IsListIter i1 a i∧h.IsListIter i2 b i) where
 mem:=by simp
 obj:=fun i h st c hc=>by
  obtain⟨hz,D8,⟨u,v,Gm⟩,⟨o1,e1,c1,d1⟩,⟨o2,e2,c2,d2⟩⟩:=st
  simp only[List.mem_cons,List.not_mem_nil,or_false] at hc
  rcases hc with rfl|rfl|rfl|rfl|rfl
  ·exact⟨_,hz,fun v z=>by cases z⟩
  ·exact⟨_,D8,fun v z=>by cases z⟩
  ·exact⟨_,Gm,fun v z=>by cases z⟩
  ·exact⟨_,e1,fun v z=>by rw[d1] at z;cases z⟩
  ·exact⟨_,e2,fun v z=>by rw[d2] at z;cases z⟩
 keep:=fun i h h' st k=>by
  obtain⟨hz,D8,⟨u,v,Gm⟩,h1,h2⟩:=st
  exact⟨k z (by simp) _ hz,k TI (by simp) _ D8,⟨u,v,k TO (by simp) _ Gm⟩,h1.at fun o q=>k i1 (by simp) o q,h2.at fun o q=>k i2 (by simp) o q⟩
 item:=by
  intro X hP hw hK hc i π s σ H E I hf st hg
  subst hP hw hK
  obtain⟨xs,x,ys,y,hq,hx,pj,hy⟩:=hg
  obtain⟨its,rv,p,_⟩:=I.list hq
  obtain⟨its',Uq,p',_⟩:=I.list pj
  obtain⟨u,hu,ru⟩:=rv.get hx
  obtain⟨v,hv,rv2⟩:=Uq.get hy
  obtain⟨hz,D8,⟨ta,tb,Gm⟩,h1,h2⟩:=st
  refine wpAny_pyNext_zip_item D hz D8 Gm h1 h2 p.isList p'.isList (x:=u) (y:=v) (by simpa using hu) (by simpa using hv) fun h' a1 a2 a3 a4 a5 a6 hk=>?_
  refine⟨_,rfl,wpAny_letOwnedTupleGo_zip a1 fun Lj hz2 rW=>?_⟩
  replace rW:Heap.SameBut z h' Lj:=rW
  have hn:H s.heap.objs.size=none:=I.aV.fresh (Nat.le_refl _)
  have IT:IsTup (s.heap.push { cls:=.type "tuple",data:=.seq #[u,v] }) s.heap.objs.size [u,v].toArray:=⟨_,Heap.get?_push_size s.heap rfl,rfl,0,rfl⟩
  have I1:Inv X π σ (upd H s.heap.objs.size (.tup [x,y])) { s with heap:=s.heap.push { cls:=.type "tuple",data:=.seq #[u,v] },toks:=s.toks } :=
   I.laid (fun b o q=>Heap.get?_push_of_some _ q) (Nat.le_refl _) ⟨by simp only[List.length_cons,List.length_nil];rw[sizeLine_eq];decide,[u,v],.cons ru (.cons rv2 .nil),IT⟩
  have kk:∀c o,c∉[z,TI,TO,i1,i2]→(s.heap.push { cls:=.type "tuple",data:=.seq #[u,v] }).get? c=some o→Lj.get? c=some o:=fun c o nc q=>by
   simp only[List.mem_cons,List.not_mem_nil,or_false,not_or] at nc
   refine(rW.2 c nc.1).trans ?_
   rcases Heap.get?_push_cases q with⟨rfl,rfl⟩|q
   ·exact a5
   ·exact hk c o nc.1 nc.2.2.1 nc.2.2.2.1 nc.2.2.2.2 q
  have eW:∀c∈[z,TI,TO,i1,i2],c<s.heap.objs.size:=fun c hc=>by
   simp only[List.mem_cons,List.not_mem_nil,or_false] at hc
   obtain⟨_,q1,_⟩:=id h1
   obtain⟨_,q2,_⟩:=id h2
   rcases hc with rfl|rfl|rfl|rfl|rfl
   ·exact Heap.lt_size hz
   ·exact Heap.lt_size D8
   ·exact Heap.lt_size Gm
   ·exact Heap.lt_size q1
   ·exact Heap.lt_size q2
  have ff:∀c∈[z,TI,TO,i1,i2],gA X π (upd H s.heap.objs.size (.tup [x,y])) c:=fun c hc=>jQ (hf c hc) (Nat.ne_of_lt (eW c hc))
  have I2:=I1.Ao (h':=Lj) (t':=s.toks) kk ff
  have up:∀c o,c≠z→h'.get? c=some o→Lj.get? c=some o:=fun c o n q=>(rW.2 c n).trans q
  refine⟨.ref s.heap.objs.size,_,I2,rfl,⟨_,x,y,hn,rfl,rfl,fun zs hz=>by rw[I.mn hz hq];exact hx,fun zs hz=>by rw[I.mn hz pj];exact hy⟩,⟨hz2,?_,⟨_,_,up TO _ D.TOz a2⟩,a3.at fun o q=>up i1 o D.i1z q,a4.at fun o q=>up i2 o D.i2z q⟩,fun c hc=>(ff c hc).1⟩
  exact up TI _ D.TIz (hk TI _ D.TIz D.TITO D.TIi1 D.TIi2 D8)
 done:=by
  intro X hP hw hK hc i π s σ H E I hf st hg
  subst hP hw hK
  obtain⟨xs,ys,hq,pj,hx⟩:=hg
  obtain⟨its,rv,p,_⟩:=I.list hq
  obtain⟨its',Uq,p',_⟩:=I.list pj
  obtain⟨hz,D8,⟨ta,tb,Gm⟩,h1,h2⟩:=st
  have hl:=rv.length
  have Ro:=Uq.length
  refine wpAny_pyNext_zip_end (I.ok.hd hc) D hz D8 Gm h1 h2 p.isList p'.isList (by rcases hx with h|h;exact .inl (by simp;omega);exact .inr (by simp;omega)) fun h' hk=>⟨rfl,?_⟩
  exact I.Ao (t':=s.toks) (fun c o nc q=>by
   simp only[List.mem_cons,List.not_mem_nil,or_false,not_or] at nc
   exact hk c o nc.1 nc.2.2.1 nc.2.2.2.1 nc.2.2.2.2 q) hf
 self:=fun _ _ _ _ _ st h=>wpAny_pyIter_zip st.1 h
def Ur (K:Frag) (ta:TA):TI:=fun σ H R=>ta σ H fun vs H1=>∃a b xs ys,vs=[.ref a,.ref b]∧bP K H1 a xs∧bP K H1 b ys∧R (Uo K a b) H1
theorem tT (K:Frag) {es:List Expr}{k:Nat}{p':Pos}{l m:Expr}{ta:TA}{p pos:Pos}(hg:Gl X "zip") (hm:X.mg "zip"=none) (ha:PA X [l,m] ta) (hs:starEach [l,m] X.env=[(false,eval l X.env),(false,eval m X.env)]:=by rfl) (rW:starEach [m] X.env=[(false,eval m X.env)]:=by rfl) (hK:X.K=K:=by rfl) :
  PI X (.Tuple es k p') (.Call (.Name "zip" p) [l,m] [] pos) (Ur K ta):=by
 subst hK
 intro π s σ H R I h
 refine Call_ (jE I hg hm boot_zip (PyProof.Rows.callWith_type1 (bL (ha pos π s σ H _ I h) fun us s1 ⟨vs,H1,I1,r1,q1⟩=>?_) (by rw[hs,rW]) (by rw[rW];rfl)))
 obtain⟨a,b,xs,ys,rfl,hq,pj,q⟩:=q1
 obtain⟨u,v,rfl,ru,rv⟩:=vals2 r1
 cases ru
 cases rv
 obtain⟨its,_,pl,_⟩:=I1.list hq
 obtain⟨its',_,CW,_⟩:=I1.list pj
 have a1:a<s1.heap.objs.size:=by obtain⟨_,e,_⟩:=id pl.isList;exact Heap.lt_size e
 have a2:b<s1.heap.objs.size:=by obtain⟨_,e,_⟩:=id CW.isList;exact Heap.lt_size e
 refine call_zip_2 pl.isList CW.isList fun h' hz D8 Gm h1 h2 hsz hk=>?_
 refine wpAny_pyIter_zip hz ?_
 refine⟨s1.heap.objs.size+4,_,_,_,H1,rfl,I1.kept (t':=s1.toks) hk,D7 a b _ _ _ _ _ (zipApart_new a1 a2),⟨hz,D8,⟨_,_,Gm⟩,h1,h2⟩,fun c hc=>?_,q⟩
 simp only[List.mem_cons,List.not_mem_nil,or_false] at hc
 have up:∀j,gA X π H1 (s1.heap.objs.size+j):=fun j=>I1.vS (Nat.le_add_right _ j) (I1.aV.fresh (Nat.le_add_right _ j))
 rcases hc with rfl|rfl|rfl|rfl|rfl
 ·exact up 4
 ·exact up 2
 ·exact up 3
 ·exact up 0
 ·exact up 1
theorem nG (K:Frag) {x y:Str}{sc:Scope}{N':List Str}{iter elt:Expr}{ifs:List Expr}{px py pt pos:Pos}{kt:Nat}{wi:TI}{tt:TT}{te:TE}(hc:X.calm=true) (hN:X.N.Nodup) (S:gf X.N N' x y sc X.env.scope) (hi:PI X (.Tuple [.Name x px,.Name y py] kt pt) iter wi)
  (ht:∀C s2 H2 fp,q8 (eN X N' x y sc C s2 H2 fp) ifs tt) (he:∀C s2 H2 fp,PE (eN X N' x y sc C s2 H2 fp) elt te) (hs:∀v,foldedSetIterable iter X.env v=pure v:=by intro _;rfl) (hK:X.K=K:=by rfl) :
  PE X (.ListComp elt [⟨.Tuple [.Name x px,.Name y py] kt pt,iter,ifs,0⟩] sc pos) (tS K wi tt te):=hK▸D6 hc hN S hi ht he hs
theorem pN {K:Frag}{a b:Addr}{xs ys:List V}{te:TE}{σ:St}{H:Hp}{Q:VK}(f:Nat→V) (hl:bP K H a xs) (Ro:bP K H b ys) (hlen:xs.length=ys.length) (hz:xs.length≤sizeLine)
  (he:∀(i:Nat) x y H' Q',xs[i]?=some x→ys[i]?=some y→aq H H'→(∀kO,aq H' kO→Q' (f i) kO)→te (some x::some y::σ) H' Q')
  (hd:∀p H',aq H H'→H p=none→H' p=some (.lst ((List.range xs.length).map f))→Q (.ref p) H'):∃W,(∃m,W 0 m [] H)∧tR K (Uo K a b) oN te σ Q W:=by
 refine⟨fun i m zs H'=>m=xs.length-i∧i≤xs.length∧zs=(List.range i).map f∧aq H H',⟨xs.length,by simp,Nat.zero_le _,rfl,.refl H⟩,?_⟩
 rintro i m zs H' ⟨rfl,hi,rfl,s⟩
 have q:=s.seq hl
 have q':=s.seq Ro
 by_cases bR:i<xs.length
 ·refine .inr ⟨⟨xs,xs[i],ys,ys[i],q,by simp[bR],q',by simp⟩,by rw[length_map,length_range];omega,fun x H2 y=>?_⟩
  obtain⟨p,u,v,hp,rfl,rfl,y1,y2⟩:=y
  have hx:=y1 xs q
  have hy:=y2 ys q'
  have s2:aq H (upd H' p (.tup [u,v])):=s.trans (aq.new hp)
  refine⟨p,u,v,rfl,.inl (.inl aj),?_⟩
  simp only[oN,if_true]
  refine he i u v _ _ hx hy s2 fun kO s'=>⟨xs.length-(i+1),by omega,rfl,bR,?_,s2.trans s'⟩
  rw[List.range_succ];simp
 ·have e:i=xs.length:=by omega
  subst e
  refine .inl ⟨⟨xs,ys,q,q',.inl (Nat.le_refl _)⟩,by rw[length_map,length_range];omega,fun p hp=>hd p _ (s.upd (s.free hp)) (s.free hp) ?_⟩
  rw[aj]
structure D9 (K:Frag) (mg:Str→Option Value) (x:Str) (st:Stmt) (ps:List Str):Prop where
 ex:∃(f:Addr) (fd:FuncData) (oc:Value) (od:Option Addr) (dV kV doc pm:Value) (an:Option Addr) (aR ct:Value) (nv:Array (Option Value)),
  fd=fnOf x x (av st) (ar st) (ae st) dV kV doc pm an aR ct∧K.lookup f=some ⟨oc,od,.func fd,nv⟩∧codeIn K aR x=true∧keepIn K (.ref f)=true∧mg x=some (.ref f)∧Binds K fd ps []∧∃t,Binds K fd ps [.int 0 t]
structure Hv (P:Program) (w:World) (K:Frag) (mg:Str→Option Value) (base:Heap) (CX:Ac) (k:Nat) (x:Str) (ps:List Str) (sp:Sp):Prop where
 all:bh P w K mg base CX k x ps sp
 CY:∃(f:Addr) (fd:FuncData) (t:Tok),fj P w K mg base CX k f fd ps sp∧mg x=some (.ref f)∧keepIn K (.ref f)=true∧Binds K fd ps [.int 0 t]
variable {P:Program}{w:World}{K:Frag}{mg:Str→Option Value}{base:Heap}{st:Stmt}{ps:List Str}{N:List Str}{sp:Sp}{k:Nat}
theorem D9.ok (D:D9 K mg x st ps) (S:aw N ps (ae st)) (len:∀vs H Q E,sp vs H Q E→vs.length=ps.length)
  (fP:∀(f:Addr) (aR:Value) (A:Around) (outer:List Env) (s:Shared) (H:Hp) (vs:List V) (Q:VK) (E:XK),bF k (A.deeper (envOfC x (ae st) s.heap.objs.size f aR))→sp vs H Q E →
   ∃t,oH (lr aS P w K mg base N x (ae st) f aR A outer s H E).vR (ar st) t∧t { nx:=fun _ H'=>Q .cH H',rt:=Q } (start N vs) H):Hv P w K mg base aS (k+1) x ps sp:=by
 obtain⟨f,fd,oc,od,dV,kV,doc,pm,an,aR,ct,nv,rfl,lk,vQ,kp,hm,hb,t,Hw⟩:=D.ex
 have F:fj P w K mg base aS (k+1) f (fnOf x x (av st) (ar st) (ae st) dV kV doc pm an aR ct) ps sp:=by
  refine DB lk vQ S len fun A outer s H vs Q E hr CQ=>?_
  obtain⟨t,h,q⟩:=fP f aR A outer s H vs Q E hr CQ
  exact⟨t,h.vR,q⟩
 exact⟨⟨f,_,F,hm,kp,hb⟩,f,_,t,F,hm,kp,Hw⟩
theorem Hy {h:Heap}{f T:Addr}{oc:Value}{od an Us:Option Addr}{nv Ut:Array (Option Value)}{kV doc pm aR ct Uu:Value}{t:Tok}{n:Nat}(X:K.In h) (G:h.Ns mainGlobals mg) (a:nsIn K mainGlobals x=some (some (.ref f)))
  (l:K.lookup f=some ⟨oc,od,.func (fnOf x x (av st) (ar st) (ae st) (.ref T) kV doc pm an aR ct),nv⟩) (c:codeIn K aR x=true) (kp:keepIn K (.ref f)=true)
  (lT:K.lookup T=some ⟨Uu,Us,.seq #[.int 0 t] n,Ut⟩)
  (h1:∀(kV doc pm:Value) (an:Option Addr) (aR ct:Value) (s:Shared) (us:List Value),K.In s.heap→(us++[]).length=ps.length→BindsTo s (fnOf x x (av st) (ar st) (ae st) (.ref T) kV doc pm an aR ct) ⟨us,[]⟩ (ps.zip (us++[])))
  (h2:∀(kV doc pm:Value) (an:Option Addr) (aR ct:Value) (s:Shared) (us:List Value),K.In s.heap→(us++[Value.int 0 t]).length=ps.length→BindsTo s (fnOf x x (av st) (ar st) (ae st) (.ref T) kV doc pm an aR ct) ⟨us,[]⟩ (ps.zip (us++[Value.int 0 t]))):D9 K mg x st ps :=
 ⟨f,_,oc,od,.ref T,kV,doc,pm,an,aR,ct,nv,rfl,l,c,kp,PySem.W.mg_of X G a,fun s us hK hl=>h1 kV doc pm an aR ct s us hK hl,t,fun s us hK hl=>h2 kV doc pm an aR ct s us hK hl⟩
variable {p:Pos}{pos:Pos}{e:Expr}{es:List Expr}{t:TA}
theorem Hz (C:Hv X.prog X.w X.K X.mg X.base aS k x ps sp) (hr:bF k X.A) (ha:PA X (e::es) t) (hg:Gl X x:=by rfl) (oJ:(x == ("__debug__":Str))=false:=by decide)
  (he:starEach (e::es) X.env=(false,eval e X.env)::starEach es X.env:=by rfl) (lq:(backTo pos (starEach es X.env)).any (·.1)=false:=by rfl) :
  PE X (.Call (.Name x p) (e::es) [] pos) (Dy sp [.int 0] E0 t):=by
 obtain⟨f,fd,tk,F,hm,kp,hb⟩:=C.CY
 exact Ae F hr hg hm kp hb (.cons ⟨tk,rfl⟩ .nil) wb ha oJ he lq
inductive OP (K:Frag) (H:Hp):V→V→Prop where
 | of {x y:V}(h:RJ K H x y):OP K H x y
 | tup {p q:Addr}{xs:List V}(eY:p≠q) (h1:eV K H p xs) (h2:eV K H q xs) (h:xs.all e8=true):OP K H (.ref p) (.ref q)
def rNest (K:Frag):R2:=fun x y H Q=>∃p q xs ys,x = .ref p∧y = .ref q∧eV K H p xs∧eV K H q ys∧xs.length=ys.length∧(∀(j:Nat) x y,xs[j]?=some x→ys[j]?=some y→OP K H x y)∧Q (.bl false) H
theorem rf {env:Env}:∀{names:List (Str×NameKind)}{x:Str}{k:NameKind},
  (names.map fun(n,k)=>if (k == NameKind.free&&env.scope.kind == .function&&env.kindOf n == some .cell) then (n,NameKind.cell) else (n,k)).lookup x=some k →
  names.lookup x=some k∨(names.lookup x=some .free∧k = .cell)
 | [],_,_,h=>by simp at h
 | (n,k')::r,x,k,h=>by
  have ih:=@rf env r x k
  rw[List.map_cons] at h
  by_cases yC:(k' == NameKind.free&&env.scope.kind == .function&&env.kindOf n == some .cell)=true
  ·simp only[yC,if_true] at h
   rw[List.lookup_cons] at h ⊢
   cases hx:x == n with
   | true =>
    rw[hx] at h
    have Gj:k' = .free:=by
     have:=(Bool.and_eq_true_iff.mp (Bool.and_eq_true_iff.mp yC).1).1
     simpa using this
    have:NameKind.cell=k:=by simpa using h
    exact .inr ⟨by rw[Gj],this.symm⟩
   | false=>rw[hx] at h;exact ih h
  ·simp only[yC] at h
   rw[show (if false=true then (n,NameKind.cell) else (n,k'))=(n,k') from rfl] at h
   rw[List.lookup_cons] at h ⊢
   cases hx:x == n with
   | true=>rw[hx] at h;exact .inl h
   | false=>rw[hx] at h;exact ih h
structure RO (N N':List Str) (x:Str) (sc osc:Scope):Prop where
 kind:sc.kind = .function
 cells:(sc.names.filter fun y=>y.2 == .cell)=[(x,.cell)]
 own:∀y∈sc.names,y.2 = .local→y.1=".0"
 has:sc.names.lookup x=some .cell
 names:∀y∈sc.names,y.2 = .local→sc.names.lookup y.1=some .local
 vR:x∉N'
 RC:(".0":Str)∉N'
 nd:N'.Nodup
 len:N'.length=N.length
 sub:∀p∈N.zip N',p.1=p.2∨sc.names.lookup p.2=none
 free:∀y∈sc.names,y.2 = .free→osc.names.lookup y.1=some .cell∨osc.names.lookup y.1=some .free
noncomputable def csOkC (N N':List Str) (x:Str) (sc osc:Scope):Bool :=
 decide (sc.kind = .function)&&decide ((sc.names.filter fun y=>y.2 == .cell)=[(x,.cell)])&&decide (∀y∈sc.names,y.2 = .local→y.1=".0")&&decide (sc.names.lookup x=some .cell) &&
  decide (∀y∈sc.names,y.2 = .local→sc.names.lookup y.1=some .local)&&decide (x∉N')&&decide ((".0":Str)∉N')&&decide N'.Nodup&&decide (N'.length=N.length)&&decide (∀p∈N.zip N',p.1=p.2∨sc.names.lookup p.2=none)&&decide (∀y∈sc.names,y.2 = .free→osc.names.lookup y.1=some .cell∨osc.names.lookup y.1=some .free)
def blkC (X:Cx) (N':List Str) (x:Str) (sc:Scope) (C:Addr) (s2:Shared) (H2:Hp) (fp:List Addr):Cx :=
 { X with N:=x::N',s₀:=s2,H₀:=H2,env:=compEnvC sc ((x,C+1)::bp sc.names X.env.cells []) C X.env,outer:=X.stack,stack:=X.stack,ex:=fp,fn:=fun y=>decide (y=x),pn:=[],xe:=fun _ _=>False }
noncomputable def relS (sc osc:Scope):Scope:={ sc with names:=sc.names.map fun(n,k)=>if (k == .free&&osc.kind == .function&&osc.names.lookup n == some .cell) then (n,.cell) else (n,k) }
def rAlt (K:Frag) (neg:Bool):R2:=fun x y H Q=>∃p q xs ys,x = .ref p∧y = .ref q∧bP K H p xs∧bP K H q ys∧xs.length=ys.length∧(∀(j:Nat) x y,xs[j]?=some x→ys[j]?=some y→OP K H x y)∧Q (.bl (!neg)) H
variable {P0:Program}{w0:World}{A0:Around}{E0':Value→Shared→Prop}{s0:Shared}{I:Addr}{l:Addr}{its:Array Value}
variable {te:TE}{p1:Pos}{p2:Pos}{pos1:Pos}{pos2:Pos}
def tLrv (K:Frag) (te:TE):TE:=fun σ H Q=>te σ H fun x H1=>∃p ys,x = .ref p∧bP K H1 p ys∧∀q,H1 q=none→Q (.ref q) (upd H1 q (.lst ys.reverse))
def Uv (lo:Int) (n:Nat):It:=⟨fun i _=>i<n,fun i H x H'=>H'=H∧x = .int (lo+i*2),fun i _=>n≤i⟩
variable {tg:Expr}
def iRng3 (ta:TA):TI:=fun σ H R=>ta σ H fun vs H1=>∃(i j:Int) (n:Nat),vs=[.int i,.int j,.int 2]∧(-(2^60)≤i∧i<2^60∧-(2^60)≤j∧j<2^60)∧(n:Int)=(if i<j then (j-i-1)/2+1 else 0)∧R (Uv i n) H1
def RP:V→List V→Hp→VK→Prop:=fun x vs H Q=>∃(l:Addr) (xs:List V) (i:Nat) (y:V),x = .ref l∧vs=[.int (i:Int),y]∧H l=some (.lst xs)∧i≤xs.length∧xs.length<1000∧Q .cH (upd H l (.lst (xs.take i++y::xs.drop i)))
end
end L2
namespace TC
def pO (ns:List Int):Nat:=ns.foldl (fun g n=>Nat.gcd g n.natAbs) 0
noncomputable def gF:List Int→Bool
 | []=>false
 | n::r=>if n=0 then gF r else decide (n<0)
def tU (ns:List Int):Int:=if gF ns=true then -(pO ns:Int) else (pO ns:Int)
def tV (ns:List Int):List Int:=ns.map fun n=>n.fdiv (tU ns)
def cg (ns:List Int):Prop:=∃n∈ns,n≠0
theorem nH:∀(ns:List Int) (g:Nat),ns.foldl (fun g n=>Nat.gcd g n.natAbs) g ∣ g∧∀n∈ns,ns.foldl (fun g n=>Nat.gcd g n.natAbs) g ∣ n.natAbs
 | [],g=>⟨Nat.dvd_refl _,(fun _ h=>nomatch h)⟩
 | n::r,g=>by
  obtain⟨h1,h2⟩:=nH r (Nat.gcd g n.natAbs)
  refine⟨Nat.dvd_trans h1 (Nat.gcd_dvd_left _ _),fun m hm=>?_⟩
  rcases List.mem_cons.mp hm with rfl|hm
  ·exact Nat.dvd_trans h1 (Nat.gcd_dvd_right _ _)
  ·exact h2 m hm
theorem Ea {ns:List Int}(h:cg ns):0<pO ns:=by
 obtain⟨n,hm,hn⟩:=h
 refine Nat.pos_of_ne_zero fun e=>hn ?_
 have d:=(nH ns 0).2 n hm
 have:pO ns ∣ n.natAbs:=d
 rw[e] at this
 have:=Nat.eq_zero_of_zero_dvd this
 omega
theorem HA {ns:List Int}{n:Int}(hm:n∈ns) (hn:n≠0):pO ns≤n.natAbs:=Nat.le_of_dvd (by omega) ((nH ns 0).2 n hm)
theorem ou (ns:List Int):(tU ns).natAbs=pO ns:=by
 unfold tU;split<;>simp
theorem HB {ns:List Int}(h:cg ns):tU ns≠0:=by
 have:=Ea h
 have e:=ou ns
 intro z
 rw[z] at e
 simp at e
 omega
theorem ow:∀{ns:List Int},cg ns→∃pre n post,ns=pre++n::post∧(∀m∈pre,m=0)∧n≠0
 | [],h=>by obtain⟨_,h,_⟩:=h;cases h
 | n::r,h=>by
  by_cases hn:n=0
  ·subst hn
   obtain⟨m,hm,HC⟩:=h
   have h':cg r:=by
    rcases List.mem_cons.mp hm with rfl|hm
    ·exact absurd rfl HC
    ·exact⟨m,hm,HC⟩
   obtain⟨pre,k,post,rfl,h1,h2⟩:=ow h'
   exact⟨0::pre,k,post,rfl,fun m hm=>by rcases List.mem_cons.mp hm with rfl|hm;rfl;exact h1 m hm,h2⟩
  ·exact⟨[],n,r,rfl,(fun _ h=>nomatch h),hn⟩
theorem pP {pre post:List Int}{n:Int}(h:∀m∈pre,m=0) (hn:n≠0):gF (pre++n::post)=decide (n<0):=by
 induction pre with
 | nil=>rw[List.nil_append,gF,if_neg hn]
 | cons m r ih =>
  rw[List.cons_append,gF,if_pos (h m mem_cons_self)]
  exact ih fun k hk=>h k (mem_cons_of_mem _ hk)
theorem nI (ns:List Int):ns.any (· != 0)=true↔cg ns:=by
 rw[any_eq_true]
 constructor
 ·rintro⟨n,hm,h⟩;exact⟨n,hm,by simpa using h⟩
 ·rintro⟨n,hm,h⟩;exact⟨n,hm,by simpa using h⟩
def Small (ns:List Int):Prop:=∀n∈ns,n.natAbs<2^2000
theorem yI {ns:List Int}(h:cg ns) (s:Small ns):(tU ns).natAbs<2^4000:=by
 rw[ou]
 obtain⟨n,hm,hn⟩:=h
 exact Nat.lt_of_le_of_lt (HA hm hn) (Nat.lt_of_lt_of_le (s n hm) (Nat.pow_le_pow_right (by decide) (by decide)))
def mH (n:Nat):Prop:=n=2∨n=4∨n=8∨n=16∨n=32∨n=64
end TC
namespace TC
theorem big {n:Int}(h1:-1606938044258990275541962092341162602522202993782792835301376<n) (h2:n<1606938044258990275541962092341162602522202993782792835301376):n.natAbs<2^4000 :=
 Nat.lt_of_lt_of_le (show n.natAbs<1606938044258990275541962092341162602522202993782792835301376 by omega)
  (Nat.le_trans (show 1606938044258990275541962092341162602522202993782792835301376≤2^200 by decide) (Nat.pow_le_pow_right (by decide) (by decide)))
def Med (ns:List Int):Prop:=∀n∈ns,-1606938044258990275541962092341162602522202993782792835301376<n∧n<1606938044258990275541962092341162602522202993782792835301376
theorem OQ (k:Int) (h1:0≤k) (h2:k≤1000000):L2.Dp 10 k:=⟨h1,h2,by decide⟩
theorem fc (x:Int) {m:Int}(h:0<m):0≤x%m:=Int.emod_nonneg x (by omega)
theorem gb (x:Int) {m:Int}(h:0<m):x%m<m:=Int.emod_lt_of_pos x h
theorem Lx {x m:Int}(h0:0≤x) (h:0<m):x.fdiv m=x/m:=Int.fdiv_eq_ediv_of_nonneg x (by omega)
theorem Ap {x m:Int}(h:0<m) (h2:m<1606938044258990275541962092341162602522202993782792835301376):L2.wj x m:=⟨by omega,big (by omega) h2⟩
end TC
namespace TC
open PySem L2
inductive Gt where
 | mix (c:Nat)
 | flip (c:Nat)
 | sign (c:Nat)
 | eO (a b:Nat)
 | meet (a b:Nat)
 | swap (a b:Nat)
noncomputable def Gt.vals:Gt→List V
 | .mix c=>[.str "mix",.int c]
 | .flip c=>[.str "flip",.int c]
 | .sign c=>[.str "sign",.int c]
 | .eO a b=>[.str "follow",.int a,.int b]
 | .meet a b=>[.str "meet",.int a,.int b]
 | .swap a b=>[.str "swap",.int a,.int b]
def Gt.ok (m:Nat):Gt→Prop
 | .mix c=>c<m
 | .flip c=>c<m
 | .sign c=>c<m
 | .eO a b=>a<m∧b<m∧a≠b
 | .meet a b=>a<m∧b<m∧a≠b
 | .swap a b=>a<m∧b<m∧a≠b
def fl (p c:Nat):Nat:=p^^^2^c
noncomputable def bt (p c:Nat):Bool:=p.testBit c
noncomputable def cz (xs:List Int) (i:Nat):Int:=xs.getD i 0
def Uw (xs:List Int) (p:Nat):Gt→Int
 | .mix c=>if bt p c=true then cz xs (fl p c)-cz xs p else cz xs p+cz xs (fl p c)
 | .flip c=>cz xs (fl p c)
 | .sign c=>if bt p c=true then-cz xs p else cz xs p
 | .eO a b=>if bt p a=true then cz xs (fl p b) else cz xs p
 | .meet a b=>if (bt p a&&bt p b)=true then-cz xs p else cz xs p
 | .swap a b=>if (bt p a != bt p b)=true then cz xs (fl (fl p a) b) else cz xs p
def gap (g:Gt) (xs:List Int):List Int:=(List.range xs.length).map fun p=>Uw xs p g
theorem eP {xs:List Int}{i:Nat}{n:Int}(h:xs[i]?=some n):cz xs i=n:=by
 unfold cz;rw[List.getD_eq_getElem?_getD,h];rfl
theorem d5 {xs:List Int}{i:Nat}(h:i<xs.length):xs[i]?=some (cz xs i):=by
 unfold cz;rw[List.getD_eq_getElem?_getD,getElem?_eq_getElem h];rfl
theorem iV (d:Int) (xs:List Int) (i:Nat):cz (xs.map (d * ·)) i=d*cz xs i:=by
 unfold cz
 rw[List.getD_eq_getElem?_getD,List.getD_eq_getElem?_getD,getElem?_map]
 cases xs[i]? with
 | none=>simp
 | some n=>rfl
theorem OR (p c:Nat):bt (fl p c) c = !bt p c:=by unfold bt fl;rw[Nat.testBit_xor,Nat.testBit_two_pow_self];cases p.testBit c<;>rfl
theorem Eb {p a b:Nat}(h:a≠b):bt (fl p b) a=bt p a:=by
 unfold bt fl
 rw[Nat.testBit_xor,Nat.testBit_two_pow_of_ne (Ne.symm h)];cases p.testBit a<;>rfl
theorem OS {m p c:Nat}(hp:p<2^m) (hc:c<m):fl p c<2^m:=Nat.xor_lt_two_pow hp (Nat.pow_lt_pow_right (by decide) hc)
def Gt.two:Gt→Int
 | .mix _=>2
 | _=>1
def Sz (k:Nat) (xs:List Int):Prop:=∀n∈xs,n.natAbs<2^k
theorem Sz.at {k:Nat}{xs:List Int}(h:Sz k xs) (i:Nat):(cz xs i).natAbs<2^k:=by
 unfold cz
 rw[List.getD_eq_getElem?_getD]
 cases e:xs[i]? with
 | none=>exact Nat.two_pow_pos k
 | some n=>exact h n (mem_of_getElem? e)
theorem Sz.small {k:Nat}{xs:List Int}(h:Sz k xs) (hk:k≤2000):Small xs:=fun n hn=>Nat.lt_of_lt_of_le (h n hn) (Nat.pow_le_pow_right (by decide) hk)
def stp (xs:List Int) (g:Gt):List Int:=tV (gap g xs)
def run (gs:List Gt) (xs:List Int):List Int:=gs.foldl stp xs
structure BN (m k:Nat) (xs:List Int):Prop where
 l:xs.length=2^m
 s:cg xs
 z:Sz k xs
theorem BN.ok {m k:Nat}{xs:List Int}(f:BN m k xs) (h1:1≤m) (h6:m≤6):mH xs.length:=by
 rw[f.l]
 have:m=1∨m=2∨m=3∨m=4∨m=5∨m=6:=by omega
 unfold mH
 rcases this with rfl|rfl|rfl|rfl|rfl|rfl<;>decide
structure Gts (H:Hp) (m:Nat) (as:List Addr) (gs:List Gt):Prop where
 l:as.length=gs.length
 g:∀(i:Nat) (a:Addr),as[i]?=some a→∃g,gs[i]?=some g∧H a=some (.tup g.vals)∧g.ok m
abbrev rV (as:List Addr):List V:=as.map V.ref
theorem dR {as:List Addr}{i:Nat}{x:V}(h:(rV as)[i]?=some x):∃a,as[i]?=some a∧x = .ref a:=by
 rw[getElem?_map] at h
 cases e:as[i]? with
 | none=>rw[e] at h;cases h
 | some z=>rw[e] at h;exact⟨z,rfl,(Option.some.inj h).symm⟩
theorem dt {K:Frag}{H:Hp}{a:Addr}{xs:List V}(h:H a=some (.tup xs)):eV K H a xs:=.inl (.inl h)
noncomputable def dbl {α:Type}(as:List α):List α:=as.flatMap fun a=>[a,a]
def eZ (n:Nat) (f:Nat→Int):Int:=((List.range n).map f).sum
theorem Ec {l l':List Int}(h:l.Perm l'):l.sum=l'.sum:=by
 induction h with
 | nil=>rfl
 | cons x _ ih=>rw[List.sum_cons,List.sum_cons,ih]
 | swap x y l=>simp only[List.sum_cons];omega
 | trans _ _ h1 h2=>exact h1.trans h2
theorem BO {n:Nat}{φ:Nat→Nat}(h:((List.range n).map φ).Perm (List.range n)) (f:Nat→Int):eZ n (fun p=>f (φ p))=eZ n f:=by
 have:=Ec (h.map f)
 rw[List.map_map] at this
 exact this
theorem pQ (n:Nat) (f g:Nat→Int):eZ n (fun p=>f p+g p)=eZ n f+eZ n g:=by
 unfold eZ
 induction List.range n with
 | nil=>rfl
 | cons a l ih=>simp only[List.map_cons,List.sum_cons,ih];omega
theorem jR (n:Nat) (d:Int) (f:Nat→Int):eZ n (fun p=>d*f p)=d*eZ n f:=by
 unfold eZ
 induction List.range n with
 | nil=>simp
 | cons a l ih=>simp only[List.map_cons,List.sum_cons,ih,Int.mul_add]
theorem gG {n:Nat}{f g:Nat→Int}(h:∀p,p<n→f p=g p):eZ n f=eZ n g:=by
 unfold eZ
 rw[map_congr_left fun p hp=>h p (mem_range.mp hp)]
def dot (xs ys:List Int):Int:=eZ xs.length fun p=>cz xs p*cz ys p
theorem HD (d e:Int) (xs ys:List Int):dot (xs.map (d * ·)) (ys.map (e * ·))=d*e*dot xs ys:=by
 unfold dot
 rw[length_map,←jR]
 refine gG fun p _=>?_
 rw[iV,iV,Int.mul_assoc,Int.mul_assoc,Int.mul_left_comm (cz xs p)]
def fol (a b p:Nat):Nat:=if bt p a=true then fl p b else p
def swp (a b p:Nat):Nat:=if (bt p a != bt p b)=true then fl (fl p a) b else p
structure Ovl (xs ys hs ts:List Int) (a b t:Int):Prop where
 a0:a≠0
 b0:b≠0
 t0:t≠0
 xy:a*b*dot hs ts=t*dot xs ys
 xx:a*a*dot hs hs=t*dot xs xs
 yy:b*b*dot ts ts=t*dot ys ys
end TC
namespace TC
open PySem L2 PyProof.Rows
theorem wo (m:Nat):∀n:Nat,(m^^^n)+(m&&&n)=(m|||n):=fun n=>by
 have h:=nat_or_add_and (m^^^n) (m&&&n)
 have e1:(m^^^n)|||(m&&&n)=m|||n:=Nat.eq_of_testBit_eq fun i=>by
  rw[Nat.testBit_or,Nat.testBit_xor,Nat.testBit_and,Nat.testBit_or];cases m.testBit i<;>cases n.testBit i<;>rfl
 have e2:(m^^^n)&&&(m&&&n)=0:=Nat.eq_of_testBit_eq fun i=>by
  rw[Nat.testBit_and,Nat.testBit_xor,Nat.testBit_and,Nat.zero_testBit];cases m.testBit i<;>cases n.testBit i<;>rfl
 rw[e1,e2,Nat.add_zero] at h
 exact h.symm
theorem Ux (a b:Nat):Builtin.bitOr (a:Int) (b:Int)=((a|||b:Nat):Int):=by
 rw[bitOr_and,nF]
 have:=nat_or_add_and a b
 omega
theorem rh (a b:Nat):Builtin.bitXor (a:Int) (b:Int)=((a^^^b:Nat):Int):=by
 show Builtin.bitOr (a:Int) (b:Int)-Builtin.bitAnd (a:Int) (b:Int)=_
 rw[Ux,nF]
 have:=wo a b
 omega
noncomputable def Np:Nat→Nat→Nat
 | 0,_=>0
 | k+1,n=>n%2+Np k (n/2)
theorem wq:∀k,Np k 0=0
 | 0=>rfl
 | k+1=>by rw[Np,Nat.zero_mod,Nat.zero_div,wq k]
def pc (n:Nat):Nat:=Np 6 n
def par (n:Nat):Bool:=((bt n 0 ^^ bt n 1) ^^ (bt n 2 ^^ bt n 3)) ^^ (bt n 4 ^^ bt n 5)
theorem tW:∀n:Nat,n<64→(pc n%2=if par n then 1 else 0):=by decide +kernel
theorem pR:par 0=false:=by decide +kernel
theorem tX (a b c:Nat):bt (a^^^b) c=(bt a c ^^ bt b c):=by unfold bt;rw[Nat.testBit_xor]
theorem pS (a b c:Nat):bt (a&&&b) c=(bt a c&&bt b c):=by unfold bt;rw[Nat.testBit_and]
theorem Aq (a b:Nat):par (a^^^b)=(par a ^^ par b):=by
 unfold par
 simp only[tX]
 exact(by decide +kernel:∀a0 a1 a2 a3 a4 a5 b0 b1 b2 b3 b4 b5:Bool,((((a0 ^^ b0) ^^ (a1 ^^ b1)) ^^ ((a2 ^^ b2) ^^ (a3 ^^ b3))) ^^ ((a4 ^^ b4) ^^ (a5 ^^ b5)))=((((a0 ^^ a1) ^^ (a2 ^^ a3)) ^^ (a4 ^^ a5)) ^^ (((b0 ^^ b1) ^^ (b2 ^^ b3)) ^^ (b4 ^^ b5)))) _ _ _ _ _ _ _ _ _ _ _ _
theorem BP (a b c:Nat):a&&&(b^^^c)=(a&&&b)^^^(a&&&c):=Nat.and_xor_distrib_left ..
theorem BQ (a b c:Nat):(a^^^b)&&&c=(a&&&c)^^^(b&&&c):=Nat.and_xor_distrib_right ..
theorem Ed (a b c:Nat):par (a&&&(b^^^c))=(par (a&&&b) ^^ par (a&&&c)):=by rw[BP,Aq]
theorem oy (a b c:Nat):par ((a^^^b)&&&c)=(par (a&&&c) ^^ par (b&&&c)):=by rw[BQ,Aq]
theorem eQ (a b:Nat):par (a&&&b)=par (b&&&a):=by rw[Nat.and_comm]
def chg (n:Int) (b:Bool):Int:=if b=true then -n else n
theorem mI (n:Int) (a b:Bool):chg (chg n a) b=chg n (a ^^ b):=by cases a<;>cases b<;>simp[chg]
theorem kP (n m:Int) (b:Bool):m*chg n b=chg (m*n) b:=by cases b<;>simp[chg,Int.mul_neg]
theorem tY (n m:Int) (b:Bool):chg n b*m=chg (n*m) b:=by cases b<;>simp[chg,Int.neg_mul]
theorem HE (n m:Int) (b:Bool):chg n b+chg m b=chg (n+m) b:=by cases b<;>simp[chg,Int.neg_add]
structure Rw where
 sg:Int
 x:Nat
 z:Nat
def Rw.vals (r:Rw):List V:=[.int r.sg,.int r.x,.int r.z]
def one (s:Int):Prop:=s=1∨s=-1
structure Rw.ok (r:Rw) (m:Nat):Prop where
 s:one r.sg
 x:r.x<2^m
 z:r.z<2^m
theorem mJ {n:Int}(h:one n) (b:Bool):one (chg n b):=by rcases h with rfl|rfl<;>cases b<;>simp[chg,one]
theorem one_mul {a b:Int}(h:one a) (h':one b):one (a*b):=by rcases h with rfl|rfl<;>rcases h' with rfl|rfl<;>simp[one]
theorem tZ {a:Int}(h:one a):a*a=1:=by rcases h with rfl|rfl<;>rfl
def ua (xs:List Int) (p:Nat) (r:Rw):Int:=chg (r.sg*cz xs p) (par (p&&&r.z))
def lay (r:Rw) (xs:List Int):List Int:=(List.range xs.length).map fun p=>ua xs (p^^^r.x) r
theorem ax (r:Rw) (xs:List Int):(lay r xs).length=xs.length:=by unfold lay;rw[length_map,length_range]
theorem cO {r:Rw}{xs:List Int}{i:Nat}(h:i<xs.length):cz (lay r xs) i=ua xs (i^^^r.x) r:=by
 apply eP
 unfold lay
 rw[getElem?_map,getElem?_range h];rfl
theorem oW (a b:Nat):(a^^^b)^^^b=a:=by rw[Nat.xor_assoc,Nat.xor_self,Nat.xor_zero]
theorem ie {m a b:Nat}(ha:a<2^m) (hb:b<2^m):a^^^b<2^m:=Nat.xor_lt_two_pow ha hb
theorem le64 {m n:Nat}(h:m≤6) (hn:n<2^m):n<64:=Nat.lt_of_lt_of_le hn (Nat.pow_le_pow_right (by decide) h)
def bx (a b:Rw):Rw:=⟨chg (a.sg*b.sg) (par (a.z&&&b.x)),a.x^^^b.x,a.z^^^b.z⟩
def Ar (a b:Rw):Bool:=(par (a.x&&&b.z)) == (par (a.z&&&b.x))
def lG (a:Rw):Bool:=!par (a.x&&&a.z)
theorem nJ {m:Nat}{a b:Rw}(ha:a.ok m) (hb:b.ok m):(bx a b).ok m:=⟨mJ (one_mul ha.s hb.s) _,ie ha.x hb.x,ie ha.z hb.z⟩
theorem Uy (n:Nat):(n&&&1:Nat)=n%2:=by rw[Nat.and_one_is_mod]
end TC
namespace TC
open PySem L2
def Wid (b:Int) (ns:List Int):Prop:=∀n∈ns,-b≤n∧n≤b
theorem fZ (m:Nat):(1:Int)*2^(m:Int).toNat=((2^m:Nat):Int):=by rw[Int.one_mul,Int.toNat_natCast,Int.natCast_pow];rfl
theorem HF {m:Nat}(h:m≤6):Dp 1 (m:Int):=⟨Int.natCast_nonneg _,by omega,by decide⟩
def gos (r:Rw) (p:Nat) (s:Int):Int:=chg (s*r.sg) (par (p&&&r.z))
theorem Ly {n:Int}(h:one n):n≠0:=by rcases h with rfl|rfl<;>decide
theorem Lz {r t:Rw}(h:one r.sg) (h':one t.sg):((bx r t).sg=(bx t r).sg↔Ar r t=true)∧(Ar r t=false→(bx r t).sg=- (bx t r).sg):=by
 unfold bx Ar
 dsimp only
 have e:=Ly (one_mul h h')
 rw[Int.mul_comm t.sg r.sg,eQ t.z r.x]
 cases par (r.x&&&t.z)<;>cases par (r.z&&&t.x)<;>simp[chg]<;>omega
theorem OT (r t:Rw):(bx r t).x=(bx t r).x:=Nat.xor_comm ..
theorem OU (r t:Rw):(bx r t).z=(bx t r).z:=Nat.xor_comm ..
noncomputable def spot:Nat→Nat
 | 0=>0
 | i+1=>2^i
def tg (n c:Nat) (b:Bool):Nat:=if b=true then fl n c else n
theorem Ee (c i:Nat):bt (2^c) i=decide (c=i):=by unfold bt;rw[Nat.testBit_two_pow]
theorem yJ {c:Nat}(h:c<6) (z:Nat):par (2^c&&&z)=bt z c:=by
 have:c=0∨c=1∨c=2∨c=3∨c=4∨c=5:=by omega
 rcases this with rfl|rfl|rfl|rfl|rfl|rfl<;>unfold par<;>simp only[pS,Ee]<;>simp
theorem LA {c:Nat}(h:c<6) (q z:Nat):par (fl q c&&&z)=(par (q&&&z) ^^ bt z c):=by unfold fl;rw[oy,yJ h]
theorem jS {c:Nat}(h:c<6) (q z:Nat) (b:Bool):par (tg q c b&&&z)=(par (q&&&z) ^^ (b&&bt z c)):=by
 cases b
 ·simp[tg]
 ·simp[tg,LA h]
theorem iW {c:Nat}(h:c<6) (q z:Nat) (b:Bool):par (q&&&tg z c b)=(par (q&&&z) ^^ (b&&bt q c)):=by rw[eQ,jS h,eQ]
theorem oz {m n c:Nat}(h:n<2^m) (hc:c<m) (b:Bool):tg n c b<2^m:=by cases b<;>simp[tg]<;>first|exact h|exact OS h hc
theorem pT {n a b:Nat}(h:a≠b) (u:Bool):bt (tg n b u) a=bt n a:=by cases u<;>simp[tg,Eb h]
theorem JU (n a:Nat) (u:Bool):bt (tg n a u) a=(bt n a ^^ u):=by cases u<;>simp[tg,OR]
def Ef (n a b:Nat):Nat:=tg (tg n a (bt n a ^^ bt n b)) b (bt n a ^^ bt n b)
def su (r:Rw):Gt→Rw
 | .mix c=>⟨chg r.sg (bt r.x c&&bt r.z c),tg r.x c (bt r.x c ^^ bt r.z c),tg r.z c (bt r.x c ^^ bt r.z c)⟩
 | .flip c=>⟨chg r.sg (bt r.z c),r.x,r.z⟩
 | .sign c=>⟨chg r.sg (bt r.x c),r.x,r.z⟩
 | .eO a b=>⟨r.sg,tg r.x b (bt r.x a),tg r.z a (bt r.z b)⟩
 | .meet a b=>⟨chg r.sg (bt r.x a&&bt r.x b),r.x,tg (tg r.z b (bt r.x a)) a (bt r.x b)⟩
 | .swap a b=>⟨r.sg,Ef r.x a b,Ef r.z a b⟩
theorem Eg {m n a b:Nat}(h:n<2^m) (ha:a<m) (hb:b<m):Ef n a b<2^m:=oz (oz h ha _) hb _
theorem pU {m:Nat}{r:Rw}(h:r.ok m) {g:Gt}(hg:g.ok m):(su r g).ok m:=by
 cases g with
 | mix c=>exact⟨mJ h.s _,oz h.x hg _,oz h.z hg _⟩
 | flip c=>exact⟨mJ h.s _,h.x,h.z⟩
 | sign c=>exact⟨mJ h.s _,h.x,h.z⟩
 | eO a b=>exact⟨h.s,oz h.x hg.2.1 _,oz h.z hg.1 _⟩
 | meet a b=>exact⟨mJ h.s _,h.x,oz (oz h.z hg.2.1 _) hg.1 _⟩
 | swap a b=>exact⟨h.s,Eg h.x hg.1 hg.2.1,Eg h.z hg.1 hg.2.1⟩
theorem oX {a b:Nat}(h:∀i,bt a i=bt b i):a=b:=Nat.eq_of_testBit_eq h
theorem Eh (n c i:Nat) (u:Bool):bt (tg n c u) i=(bt n i ^^ (u&&decide (c=i))):=by
 cases u
 ·simp[tg]
 ·simp only[tg,if_true];unfold fl;rw[tX,Ee,Bool.true_and]
theorem yK {n a b:Nat}(h:a≠b) (i:Nat):bt (Ef n a b) i=if i=a then bt n b else if i=b then bt n a else bt n i:=by
 unfold Ef
 rw[Eh,Eh]
 by_cases h1:i=a
 ·subst h1
  rw[if_pos rfl,decide_eq_true rfl,decide_eq_false (fun z=>h z.symm)]
  cases bt n i<;>cases bt n b<;>rfl
 ·rw[if_neg h1,decide_eq_false (fun z=>h1 z.symm)]
  by_cases h2:i=b
  ·subst h2
   rw[if_pos rfl,decide_eq_true rfl]
   cases bt n i<;>cases bt n a<;>rfl
  ·rw[if_neg h2,decide_eq_false (fun z=>h2 z.symm)]
   cases bt n i<;>cases (bt n a ^^ bt n b)<;>rfl
theorem As {p x a b:Nat}(h:a≠b):Ef (p&&&x) a b=Ef p a b&&&Ef x a b:=oX fun i=>by
 rw[pS,yK h,yK h,yK h,pS,pS,pS]
 split
 ·rfl
 ·split<;>rfl
theorem Au:∀n:Nat,n<64→∀a:Nat,a<6→∀b:Nat,b<6→a≠b→par (Ef n a b)=par n:=by decide +kernel
def bN (b:Bool):Nat:=if b=true then 1 else 0
theorem bB:∀n:Nat,n<64→∀c:Nat,c<6→Builtin.bitAnd ((n:Int)/2^(c:Int).toNat) 1=(bN (bt n c):Nat):=by decide +kernel
theorem xN (a b:Bool):Builtin.bitXor ((bN a:Nat):Int) ((bN b:Nat):Int)=(bN (a ^^ b):Nat):=by rw[rh];cases a<;>cases b<;>rfl
theorem aN (a b:Bool):Builtin.bitAnd ((bN a:Nat):Int) ((bN b:Nat):Int)=(bN (a&&b):Nat):=by rw[nF];cases a<;>cases b<;>rfl
theorem xT (n c:Nat) (b:Bool):Builtin.bitXor (n:Int) (((bN b:Nat):Int)*2^(c:Int).toNat)=(tg n c b:Nat):=by
 cases b
 ·show Builtin.bitXor (n:Int) (((0:Nat):Int)*2^(c:Int).toNat)=_
  rw[show ((0:Nat):Int)*2^(c:Int).toNat=((0:Nat):Int) from Int.zero_mul _,rh,Nat.xor_zero];rfl
 ·show Builtin.bitXor (n:Int) ((1:Int)*2^(c:Int).toNat)=_
  rw[fZ,rh];rfl
theorem Gn {m:Nat}(b:Bool) (h:m≤6):Dp ((bN b:Nat):Int) (m:Int):=⟨Int.natCast_nonneg _,by omega,by cases b<;>decide⟩
theorem Av {n i:Nat}(h:i<n):Gh n (i:Int)=some i:=by unfold Gh;rw[if_pos (by omega),if_pos (by omega)];simp
theorem HG {ys:List Int}{i:Nat}(h:i<ys.length) (v:Int) (q:Nat):cz (ys.set i v) q=if q=i then v else cz ys q:=by
 unfold cz
 rw[List.getD_eq_getElem?_getD,List.getD_eq_getElem?_getD,List.getElem?_set]
 by_cases e:i=q
 ·subst e;rw[if_pos rfl,if_pos h,if_pos rfl];rfl
 ·rw[if_neg e,if_neg (Ne.symm e)]
theorem gh {xs ys:List Int}(hl:xs.length=ys.length) (h:∀q,q<xs.length→cz xs q=cz ys q):xs=ys:=by
 apply List.ext_getElem?
 intro i
 by_cases hi:i<xs.length
 ·rw[d5 hi,d5 (hl▸hi),h i hi]
 ·rw[getElem?_eq_none (by omega),getElem?_eq_none (by omega)]
structure Half (xs ys:List Int) (i:Nat) (g:Gt):Prop where
 l:ys.length=xs.length
 d:∀q,q<i→cz ys q=Uw xs q g
 u:∀q,i≤q→cz ys q=cz xs q
def low (q c:Nat):Nat:=if bt q c=true then fl q c else q
structure HalfM (xs ys:List Int) (i c:Nat):Prop where
 l:ys.length=xs.length
 d:∀q,q<xs.length→low q c<i→cz ys q=Uw xs q (.mix c)
structure sv (xs ys:List Int) (i:Nat) (r:Rw):Prop where
 l:ys.length=xs.length
 d:∀p,p<i→cz ys (p^^^r.x)=ua xs p r
theorem sv.set {m:Nat}{xs ys:List Int}{i:Nat}{r:Rw}(h:sv xs ys i r) (hx:xs.length=2^m) (hi:i<xs.length) (hr:r.x<2^m):sv xs (ys.set (i^^^r.x) (ua xs i r)) (i+1) r :=
 ⟨by rw[List.length_set,h.l],fun p hp=>by
  rw[HG (by rw[h.l,hx];exact ie (hx▸hi) hr)]
  by_cases z:p=i
  ·rw[if_pos (by rw[z]),z]
  ·rw[if_neg (fun w=>z (by have:=congrArg (·^^^r.x) w;simpa[oW] using this))]
   exact h.d p (by omega)⟩
theorem sv.done {m:Nat}{xs ys:List Int}{r:Rw}(h:sv xs ys xs.length r) (hx:xs.length=2^m) (hr:r.x<2^m):ys=lay r xs :=
 gh (by rw[h.l,ax]) fun q hq=>by
  rw[h.l] at hq
  have:=h.d (q^^^r.x) (by rw[hx];exact ie (hx▸hq) hr)
  rw[oW] at this
  rw[this,cO hq]
structure cX (H:Hp) (m:Nat) (as:List Addr) (rs:List Rw):Prop where
 l:as.length=rs.length
 g:∀(i:Nat) (a:Addr),as[i]?=some a→∃r,rs[i]?=some r∧H a=some (.tup r.vals)∧r.ok m
theorem cX.same {H H':Hp}{m:Nat}{as:List Addr}{rs:List Rw}(h:cX H m as rs) (s:aq H H'):cX H' m as rs:=⟨h.l,fun i a e=>by
 obtain⟨r,h1,h2,h3⟩:=h.g i a e
 exact⟨r,h1,s _ _ h2,h3⟩⟩
theorem cX.cat {H:Hp}{m:Nat}{as bs:List Addr}{rs qs:List Rw}(h:cX H m as rs) (h':cX H m bs qs):cX H m (as++bs) (rs++qs):=by
 refine⟨by rw[length_append,length_append,h.l,h'.l],fun i a e=>?_⟩
 rcases Nat.lt_or_ge i as.length with hi|hi
 ·rw[getElem?_append_left hi] at e
  obtain⟨r,h1,h2⟩:=h.g i a e
  exact⟨r,by rw[getElem?_append_left (h.l▸hi)];exact h1,h2⟩
 ·rw[getElem?_append_right hi] at e
  obtain⟨r,h1,h2⟩:=h'.g _ a e
  exact⟨r,by rw[getElem?_append_right (h.l▸hi),←h.l];exact h1,h2⟩
theorem cX.app {H:Hp}{m:Nat}{as:List Addr}{rs:List Rw}(h:cX H m as rs) {a:Addr}{r:Rw}(e:H a=some (.tup r.vals)) (ok:r.ok m):cX H m (as++[a]) (rs++[r]) :=
 h.cat ⟨rfl,fun i x z=>by
  cases i with
  | zero=>cases z;exact⟨r,rfl,e,ok⟩
  | succ i=>cases z⟩
theorem cX.get {H:Hp}{m:Nat}{as:List Addr}{rs:List Rw}(h:cX H m as rs) {i:Nat}(hi:i<rs.length):∃a r,as[i]?=some a∧rs[i]?=some r∧H a=some (.tup r.vals)∧r.ok m:=by
 have:i<as.length:=by rw[h.l];exact hi
 obtain⟨r,h1,h2,h3⟩:=h.g i as[i] (getElem?_eq_getElem this)
 exact⟨as[i],r,getElem?_eq_getElem this,h1,h2,h3⟩
def nK (gs:List Gt) (r:Rw):Rw:=gs.foldl su r
theorem HH (rs:List Rw):rs.map (nK [])=rs:=List.map_id'' (fun _=>rfl) rs
theorem Ei {m:Nat}:∀{gs:List Gt}{r:Rw},r.ok m→(∀g∈gs,g.ok m)→(nK gs r).ok m
 | [],_,h,_=>h
 | g::gs,r,h,hg=>Ei (gs:=gs) (pU h (hg g (mem_cons_self ..))) fun x hx=>hg x (mem_cons_of_mem _ hx)
noncomputable def lets (m:Nat):List Rw:=((List.range m).map fun c=>⟨1,2^c,0⟩)++(List.range m).map fun c=>⟨1,0,2^c⟩
def gaps (gs:List Gt) (xs:List Int):List Int:=gs.foldl (fun ys g=>gap g ys) xs
def sy (a b:Rw):Bool:=par (a.x&&&b.z) ^^ par (a.z&&&b.x)
theorem ub (a b:Rw):Ar a b = !sy a b:=by unfold Ar sy;cases par (a.x&&&b.z)<;>cases par (a.z&&&b.x)<;>rfl
theorem LB {m:Nat}(hm:m≤6) {a b:Rw}(ha:a.ok m) (hb:b.ok m) {g:Gt}(hg:g.ok m):sy (su a g) (su b g)=sy a b:=by
 cases g with
 | mix c =>
  have hc:c<6:=Nat.lt_of_lt_of_le hg hm
  simp only[sy,su,jS hc,iW hc,JU]
  generalize par (a.x&&&b.z)=p
  generalize par (a.z&&&b.x)=q
  have e1:par (a.x&&&b.z)=par (a.x&&&b.z):=rfl
  cases bt a.x c<;>cases bt a.z c<;>cases bt b.x c<;>cases bt b.z c<;>cases p<;>cases q<;>rfl
 | flip c=>rfl
 | sign c=>rfl
 | eO c d =>
  obtain⟨h1,h2,eY⟩:=hg
  have hc:c<6:=by omega
  have hd:d<6:=by omega
  simp only[sy,su,jS hc,iW hc,jS hd,iW hd,pT eY,pT (Ne.symm eY)]
  generalize par (a.x&&&b.z)=p
  generalize par (a.z&&&b.x)=q
  cases bt a.x c<;>cases bt a.z d<;>cases bt b.x c<;>cases bt b.z d<;>cases p<;>cases q<;>rfl
 | meet c d =>
  obtain⟨h1,h2,eY⟩:=hg
  have hc:c<6:=by omega
  have hd:d<6:=by omega
  simp only[sy,su,jS hc,iW hc,jS hd,iW hd]
  generalize par (a.x&&&b.z)=p
  generalize par (a.z&&&b.x)=q
  cases bt a.x c<;>cases bt a.x d<;>cases bt b.x c<;>cases bt b.x d<;>cases p<;>cases q<;>rfl
 | swap c d =>
  obtain⟨h1,h2,eY⟩:=hg
  have hl:∀u v:Nat,u<2^m→par (Ef u c d&&&Ef v c d)=par (u&&&v):=fun u v hu=>by
   rw[←As eY,Au _ (Nat.lt_of_le_of_lt Nat.and_le_left (le64 hm hu)) c (by omega) d (by omega) eY]
  simp only[sy,su,hl _ _ ha.x,hl _ _ ha.z]
theorem HI {m:Nat}(hm:m≤6) {a:Rw}(ha:a.ok m) {g:Gt}(hg:g.ok m):lG (su a g)=lG a:=by
 cases g with
 | mix c =>
  have hc:c<6:=Nat.lt_of_lt_of_le hg hm
  simp only[lG,su,jS hc,iW hc,JU]
  generalize par (a.x&&&a.z)=p
  cases bt a.x c<;>cases bt a.z c<;>cases p<;>rfl
 | flip c=>rfl
 | sign c=>rfl
 | eO c d =>
  obtain⟨h1,h2,eY⟩:=hg
  have hc:c<6:=by omega
  have hd:d<6:=by omega
  simp only[lG,su,jS hd,iW hc,pT (Ne.symm eY)]
  generalize par (a.x&&&a.z)=p
  cases bt a.x c<;>cases bt a.z d<;>cases p<;>rfl
 | meet c d =>
  obtain⟨h1,h2,eY⟩:=hg
  have hc:c<6:=by omega
  have hd:d<6:=by omega
  simp only[lG,su,iW hc,iW hd]
  generalize par (a.x&&&a.z)=p
  cases bt a.x c<;>cases bt a.x d<;>cases p<;>rfl
 | swap c d =>
  obtain⟨h1,h2,eY⟩:=hg
  simp only[lG,su]
  rw[←As eY,Au _ (Nat.lt_of_le_of_lt Nat.and_le_left (le64 hm ha.x)) c (by omega) d (by omega) eY]
def still (t:Rw):Gt→Prop
 | .mix c=>bt t.x c=false∧bt t.z c=false
 | .flip c=>bt t.z c=false
 | .sign c=>bt t.x c=false
 | .eO a b=>bt t.x a=false∧bt t.z b=false
 | .meet a b=>bt t.x a=false∧bt t.x b=false
 | .swap a b=>bt t.x a=false∧bt t.x b=false∧bt t.z a=false∧bt t.z b=false
noncomputable def yL:List Nat→List Gt
 | a::b::l=>.meet a b::yL l
 | _=>[]
noncomputable def evs:List Nat→List Nat
 | a::b::l=>a::b::evs l
 | _=>[]
def lft:List Nat→List Nat
 | _::_::l=>lft l
 | l=>l
def cw (n:Nat):List Nat:=(List.range 6).filter (bt n)
def Gt.al (P:Nat→Prop):Gt→Prop
 | .mix c=>P c
 | .flip c=>P c
 | .sign c=>P c
 | .eO a b=>P a∧P b∧a≠b
 | .meet a b=>P a∧P b∧a≠b
 | .swap a b=>P a∧P b∧a≠b
def tox (r:Rw) (k:Nat):List Gt :=
 yL (cw (r.x&&&r.z))++(cw (r.z^^^(r.x&&&r.z))).map .mix++(cw (r.x|||r.z)).tail.map (.eO ((cw (r.x|||r.z)).headD 0)) ++
  (if (cw (r.x|||r.z)).headD 0≠k then [.swap ((cw (r.x|||r.z)).headD 0) k] else [])
theorem OV {a b:Nat}(h:a<64) (h':b<64):a|||b<64:=Nat.or_lt_two_pow (n:=6) h h'
theorem xor64 {a b:Nat}(h:a<64) (h':b<64):a^^^b<64:=Nat.xor_lt_two_pow (n:=6) h h'
def ws (n k:Nat):Nat:=tg n k (bt n k)
def toz (r:Rw) (k:Nat):List Gt :=
 yL (cw (ws r.x k&&&ws r.z k))++(lft (cw (ws r.x k&&&ws r.z k))).map (.eO · k)++(cw (ws r.x k)).map .mix++(cw (ws r.x k|||ws r.z k)).map (.eO · k)
noncomputable def ra (rs:List Rw) (i:Nat):Rw:=rs.getD i ⟨1,0,0⟩
theorem cf {rs:List Rw}{i:Nat}{r:Rw}(h:rs[i]?=some r):ra rs i=r:=by unfold ra;rw[List.getD_eq_getElem?_getD,h];rfl
theorem dS {rs:List Rw}{i:Nat}(h:i<rs.length):rs[i]?=some (ra rs i):=by
 unfold ra;rw[List.getD_eq_getElem?_getD,getElem?_eq_getElem h];rfl
structure Tb (m:Nat) (rs:List Rw):Prop where
 l:rs.length=2*m
 ok:∀i,i<2*m→(ra rs i).ok m
 ev:∀i,i<2*m→lG (ra rs i)=true
 ag:∀i j,i<j→j<2*m→sy (ra rs i) (ra rs j)=decide (j=i+m)
theorem yM {m:Nat}(hm:m≤6):∀{gs:List Gt},(∀g∈gs,g.ok m)→∀{a b:Rw},a.ok m→b.ok m→sy (nK gs a) (nK gs b)=sy a b
 | [],_,_,_,_,_=>rfl
 | g::gs,h,a,b,ha,hb=>by
  have hg:=h g (mem_cons_self ..)
  show sy (nK gs (su a g)) (nK gs (su b g))=_
  rw[yM hm (gs:=gs) (fun x hx=>h x (mem_cons_of_mem _ hx)) (pU ha hg) (pU hb hg),LB hm ha hb hg]
theorem Aw {m:Nat}(hm:m≤6):∀{gs:List Gt},(∀g∈gs,g.ok m)→∀{a:Rw},a.ok m→lG (nK gs a)=lG a
 | [],_,_,_=>rfl
 | g::gs,h,a,ha=>by
  have hg:=h g (mem_cons_self ..)
  show lG (nK gs (su a g))=_
  rw[Aw hm (gs:=gs) (fun x hx=>h x (mem_cons_of_mem _ hx)) (pU ha hg),HI hm ha hg]
theorem OW {m c:Nat}(hm:m≤6) (hc:c<m) {a b:Rw}(hx:a.x=2^c) (hz:a.z=0):sy a b=bt b.z c:=by
 unfold sy
 rw[hx,hz,Nat.zero_and,yJ (by omega)]
 show (bt b.z c ^^ par 0)=_
 rw[show par 0=false from rfl,Bool.xor_false]
theorem Ej {m c:Nat}(hm:m≤6) (hc:c<m) {a b:Rw}(hx:a.x=0) (hz:a.z=2^c):sy a b=bt b.x c:=by
 unfold sy
 rw[hx,hz,Nat.zero_and,yJ (by omega)]
 show (par 0 ^^ bt b.x c)=_
 rw[show par 0=false from rfl,Bool.false_xor]
theorem d6 (a b:Rw):sy a b=sy b a:=by unfold sy;rw[eQ,eQ a.z,Bool.xor_comm]
structure Dn (m k:Nat) (rs:List Rw):Prop where
 x:∀c,c<k→(ra rs c).x=2^c∧(ra rs c).z=0
 z:∀c,c<k→(ra rs (c+m)).x=0∧(ra rs (c+m)).z=2^c
def ngx (rs:List Rw) (m:Nat):List Nat:=(List.range m).filter fun c=>decide ((ra rs c).sg=-1)
def ngz (rs:List Rw) (m:Nat):List Nat:=(List.range m).filter fun c=>decide ((ra rs (c+m)).sg=-1)
def gfs (rs:List Rw) (m:Nat):List Gt:=(ngx rs m).map .sign++(ngz rs m).map .flip
def ig:Rw:=⟨1,0,0⟩
theorem bC (a b c:Rw):bx (bx a b) c=bx a (bx b c):=by
 unfold bx
 congr 1
 ·dsimp only
  rw[tY,kP,mI,mI,Ed,oy,Int.mul_assoc]
  congr 1
  cases par (a.z&&&b.x)<;>cases par (a.z&&&c.x)<;>cases par (b.z&&&c.x)<;>rfl
 ·exact Nat.xor_assoc ..
 ·exact Nat.xor_assoc ..
theorem gj (a:Rw):bx a ig=a:=by
 unfold bx ig
 simp only[Nat.and_zero,Nat.xor_zero,Int.mul_one]
 rfl
theorem uc (a:Rw):bx ig a=a:=by
 unfold bx ig
 simp only[Nat.zero_and,Nat.zero_xor,Int.one_mul]
 rfl
theorem mK {a b:Rw}(h:sy a b=false):bx a b=bx b a:=by
 unfold bx
 unfold sy at h
 congr 1
 ·rw[Int.mul_comm,eQ b.z a.x]
  revert h
  cases par (a.x&&&b.z)<;>cases par (a.z&&&b.x)<;>simp
 ·exact Nat.xor_comm ..
 ·exact Nat.xor_comm ..
theorem pV {a:Rw}(h:lG a=true) (hs:one a.sg):bx a a=ig:=by
 unfold bx ig
 have:par (a.z&&&a.x)=false:=by rw[eQ];simpa[lG] using h
 rw[this,tZ hs,Nat.xor_self,Nat.xor_self];rfl
theorem iX (a b c:Rw):sy (bx a b) c=(sy a c ^^ sy b c):=by
 unfold sy bx
 dsimp only
 rw[oy,oy]
 cases par (a.x&&&c.z)<;>cases par (b.x&&&c.z)<;>cases par (a.z&&&c.x)<;>cases par (b.z&&&c.x)<;>rfl
theorem HJ {a b:Rw}(h:sy a b=false) (ha:lG a=true) (hb:lG b=true):lG (bx a b)=true:=by
 unfold lG at *
 unfold sy at h
 unfold bx
 dsimp only
 rw[Ed,oy,oy,eQ b.x a.z]
 revert h ha hb
 cases par (a.x&&&b.z)<;>cases par (a.z&&&b.x)<;>cases par (a.x&&&a.z)<;>cases par (b.x&&&b.z)<;>simp
def cb (r:Rw) (j:Nat):Bool:=if j<6 then bt r.x j else bt r.z (j-6)
theorem jT (a b:Rw) (j:Nat):cb (bx a b) j=(cb a j ^^ cb b j):=by
 unfold cb bx
 split
 ·exact tX ..
 ·exact tX ..
theorem LC (j:Nat):cb ig j=false:=by unfold cb ig;split<;>(unfold bt;exact Nat.zero_testBit _)
def ld (r:Rw):Nat:=((List.range 12).find? (cb r)).getD 12
structure Ld (r:Rw) (j:Nat):Prop where
 lt:j<12
 b:cb r j=true
 f:∀i,i<j→cb r i=false
theorem lR {p:Nat→Bool}:∀{n j:Nat},(List.range n).find? p=some j→j<n∧p j=true∧∀i,i<j→p i=false
 | 0,j,h=>by simp at h
 | n+1,j,h=>by
  rw[List.range_succ,List.find?_append] at h
  cases e:(List.range n).find? p with
  | some k =>
   rw[e] at h
   have:k=j:=by simpa using h
   subst this
   obtain⟨h1,h2,h3⟩:=lR e
   exact⟨by omega,h2,h3⟩
  | none =>
   rw[e] at h
   have h':[n].find? p=some j:=by simpa using h
   have hp:p n=true∧n=j:=by
    rw[List.find?_cons] at h'
    cases hq:p n with
    | true=>rw[hq] at h';exact⟨rfl,by simpa using h'⟩
    | false=>rw[hq] at h';simp at h'
   obtain⟨hp,rfl⟩:=hp
   refine⟨by omega,hp,fun i hi=>?_⟩
   have:=List.find?_eq_none.mp e i (mem_range.mpr hi)
   simpa using this
theorem Ld.eq {r:Rw}{j:Nat}(h:Ld r j):ld r=j:=by
 unfold ld
 cases e:(List.range 12).find? (cb r) with
 | none=>exact absurd h.b (by have:=List.find?_eq_none.mp e j (mem_range.mpr h.lt);simpa using this)
 | some k =>
  obtain⟨h1,h2,h3⟩:=lR e
  show k=j
  rcases Nat.lt_trichotomy k j with c|c|c
  ·rw[h.f k c] at h2;cases h2
  ·exact c
  ·have:=h3 j c;rw[h.b] at this;cases this
def nz (r:Rw):Prop:=∃j,j<12∧cb r j=true
theorem nz.ld {r:Rw}(h:nz r):Ld r (ld r):=by
 obtain⟨j,hj,hb⟩:=h
 unfold TC.ld
 cases e:(List.range 12).find? (cb r) with
 | none=>exact absurd hb (by have:=List.find?_eq_none.mp e j (mem_range.mpr hj);simpa using this)
 | some k =>
  obtain⟨h1,h2,h3⟩:=lR e
  exact⟨h1,h2,h3⟩
structure Cm (m:Nat) (rs:List Rw):Prop where
 ok:∀r∈rs,r.ok m
 ev:∀r∈rs,lG r=true
 ag:∀a∈rs,∀b∈rs,sy a b=false
theorem Cm.sub {m:Nat}{rs qs:List Rw}(h:Cm m rs) (s:∀r∈qs,r∈rs):Cm m qs:=⟨fun r hr=>h.ok r (s r hr),fun r hr=>h.ev r (s r hr),fun a ha b hb=>h.ag a (s a ha) b (s b hb)⟩
inductive Sn (rs:List Rw):Rw→Prop where
 | ig:Sn rs ig
 | mul {t r:Rw}(h:Sn rs t) (hr:r∈rs):Sn rs (bx t r)
theorem Sn.gen {rs:List Rw}{r:Rw}(h:r∈rs):Sn rs r:=by have:=Sn.mul (.ig) h;rw[uc] at this;exact this
theorem Sn.bx {rs:List Rw}{a:Rw}(ha:Sn rs a):∀{b:Rw},Sn rs b→Sn rs (bx a b)
 | _,.ig=>by rw[gj];exact ha
 | _,.mul h hr=>by rw[←bC];exact .mul (ha.bx h) hr
theorem Sn.of {rs qs:List Rw}(h:∀r∈rs,Sn qs r):∀{t:Rw},Sn rs t→Sn qs t
 | _,.ig=>.ig
 | _,.mul ht hr=>(Sn.of h ht).bx (h _ hr)
theorem LD (m:Nat):ig.ok m:=⟨.inl rfl,Nat.two_pow_pos m,Nat.two_pow_pos m⟩
theorem Sn.sy {rs:List Rw}{b:Rw}(h:∀a∈rs,sy a b=false):∀{t:Rw},Sn rs t→TC.sy t b=false
 | _,.ig=>by unfold TC.sy TC.ig;simp only[Nat.zero_and];rfl
 | _,.mul ht hr=>by rw[iX,Sn.sy h ht,h _ hr];rfl
theorem Sn.good {m:Nat}{rs:List Rw}(c:Cm m rs):∀{t:Rw},Sn rs t→t.ok m∧lG t=true
 | _,.ig=>⟨LD m,rfl⟩
 | _,.mul ht hr=>⟨nJ (Sn.good c ht).1 (c.ok _ hr),HJ (Sn.sy (fun a ha=>c.ag a ha _ hr) ht) (Sn.good c ht).2 (c.ev _ hr)⟩
theorem Sn.ag {m:Nat}{rs:List Rw}(c:Cm m rs) {a b:Rw}(ha:Sn rs a) (hb:Sn rs b):TC.sy a b=false :=
 Sn.sy (fun x hx=>by rw[d6];exact Sn.sy (fun y hy=>c.ag y hy x hx) hb) ha
noncomputable def pr (p:Rw→Bool):List Rw→Rw
 | []=>ig
 | a::l=>if p a=true then bx a (pr p l) else pr p l
theorem JV (p:Rw→Bool):∀{L:List Rw}{Q:List Rw},(∀r∈L,r∈Q)→Sn Q (pr p L)
 | [],_,_=>.ig
 | a::l,Q,h=>by
  have ih:=JV p (L:=l) (Q:=Q) fun r hr=>h r (mem_cons_of_mem _ hr)
  unfold pr
  split
  ·exact(Sn.gen (h a (mem_cons_self ..))).bx ih
  ·exact ih
theorem ud {p:Rw→Bool}:∀{L:List Rw},(∀a∈L,p a=false)→pr p L=ig
 | [],_=>rfl
 | a::l,h=>by
  unfold pr
  rw[if_neg (by rw[h a (mem_cons_self ..)];decide)]
  exact ud fun b hb=>h b (mem_cons_of_mem _ hb)
theorem wu {p q:Rw→Bool}:∀{L:List Rw},(∀a∈L,p a=q a)→pr p L=pr q L
 | [],_=>rfl
 | a::l,h=>by
  unfold pr
  rw[h a (mem_cons_self ..),wu fun b hb=>h b (mem_cons_of_mem _ hb)]
theorem sA {m:Nat}{p q:Rw→Bool}{r:Rw}:∀{L:List Rw},Cm m L→L.Nodup→r∈L→q r = !p r→(∀a∈L,a≠r→q a=p a)→pr q L=bx (pr p L) r
 | a::l,c,hn,hr,h1,h2=>by
  have cl:=c.sub (qs:=l) fun x hx=>mem_cons_of_mem _ hx
  have CZ:=(List.nodup_cons.mp hn).1
  have ca:∀{t},Sn l t→sy a t=false:=fun {t} ht=>by rw[d6];exact Sn.sy (fun x hx=>c.ag x (mem_cons_of_mem _ hx) a (mem_cons_self ..)) ht
  by_cases e:a=r
  ·subst e
   have hl:pr q l=pr p l:=wu fun b hb=>h2 b (mem_cons_of_mem _ hb) fun z=>CZ (z▸hb)
   have hs:=JV p (L:=l) (Q:=l) fun r hr=>hr
   unfold pr
   rw[hl,h1]
   cases p a with
   | true =>
    rw[if_neg (by decide),if_pos rfl,bC,←mK (ca hs),←bC,pV (c.ev a (mem_cons_self ..)) (c.ok a (mem_cons_self ..)).s,uc]
   | false=>exact mK (ca hs)
  ·have eF:r∈l:=(List.mem_cons.mp hr).resolve_left fun z=>e z.symm
   have ih:=sA (p:=p) (q:=q) cl (List.nodup_cons.mp hn).2 eF h1 fun b hb=>h2 b (mem_cons_of_mem _ hb)
   unfold pr
   rw[h2 a (mem_cons_self ..) e,ih]
   split
   ·rw[bC]
   ·rfl
def RQ (a b:Rw):Prop:=cb a (ld b)=false∧cb b (ld a)=false
structure Rd (L:List Rw):Prop where
 n:∀a∈L,nz a
 p:L.Pairwise RQ
theorem wx {R:Rw→Rw→Prop}(hs:∀a b,R a b→R b a):∀{L:List Rw},L.Pairwise R→∀a∈L,∀b∈L,a≠b→R a b
 | [],_,a,ha,_,_,_=>nomatch ha
 | x::l,h,a,ha,b,hb,eY=>by
  obtain⟨h1,h2⟩:=pairwise_cons.mp h
  rcases List.mem_cons.mp ha with ea|JW<;>rcases List.mem_cons.mp hb with eb|jt
  ·exact absurd (ea.trans eb.symm) eY
  ·rw[ea];exact h1 b jt
  ·rw[eb];exact hs _ _ (h1 a JW)
  ·exact wx hs h2 a JW b jt eY
theorem Rd.off {L:List Rw}(h:Rd L) {a b:Rw}(ha:a∈L) (hb:b∈L) (eY:a≠b):cb a (ld b)=false:=(wx (fun _ _ z=>⟨z.2,z.1⟩) h.p a ha b hb eY).1
theorem Rd.on {L:List Rw}(h:Rd L) {a:Rw}(ha:a∈L):cb a (ld a)=true:=(h.n a ha).ld.b
theorem Rd.nodup {L:List Rw}(h:Rd L):L.Nodup:=by
 refine List.Pairwise.imp_of_mem (fun {a b} ha hb Gp e=>?_) h.p
 subst e
 have:=h.on ha
 rw[Gp.1] at this;cases this
theorem Rd.rep {m:Nat}{L:List Rw}(c:Cm m L) (h:Rd L):∀{t:Rw},Sn L t→t=pr (fun l=>cb t (ld l)) L
 | _,.ig=>(ud fun a _=>LC _).symm
 | _,.mul (t:=t) (r:=r) ht hr=>by
  have ih:=Rd.rep c h ht
  have:=sA (p:=fun l=>cb t (ld l)) (q:=fun l=>cb (bx t r) (ld l)) c h.nodup hr (by rw[jT,h.on hr,Bool.xor_true]) (fun a ha eY=>by rw[jT,h.off hr ha (Ne.symm eY),Bool.xor_false])
  rw[←ih] at this
  exact this.symm
theorem Rd.zero {m:Nat}{L:List Rw}(c:Cm m L) (h:Rd L) {t:Rw}(ht:Sn L t) (h0:∀l∈L,cb t (ld l)=false):t=ig:=by
 rw[h.rep c ht];exact ud h0
def oA (t c:Rw):Rw:=if cb t (ld c)=true then bx t c else t
def ml (C:List Rw) (t:Rw):Rw:=C.foldl oA t
theorem Ek {C:List Rw}{c:Rw}{i:Nat}{t:Rw}(h:C[i]?=some c):ml (C.take (i+1)) t=oA (ml (C.take i) t) c:=by
 unfold ml
 rw[take_add_one,h,List.foldl_append];rfl
theorem LF {Q:List Rw}{t c:Rw}(hc:c∈Q) {s r:Rw}(hs:Sn Q s) (e:t=bx r s):∃s',Sn Q s'∧oA t c=bx r s':=by
 unfold oA
 split
 ·exact⟨bx s c,.mul hs hc,by rw[e,bC]⟩
 ·exact⟨s,hs,e⟩
theorem yN {Q:List Rw}{r:Rw}:∀{C:List Rw}{t s:Rw},(∀c∈C,c∈Q)→Sn Q s→t=bx r s→∃s',Sn Q s'∧ml C t=bx r s'
 | [],_,s,_,hs,e=>⟨s,hs,e⟩
 | c::C,t,s,h,hs,e=>by
  obtain⟨s',h1,h2⟩:=LF (h c (mem_cons_self ..)) hs e
  exact yN (C:=C) (fun x hx=>h x (mem_cons_of_mem _ hx)) h1 h2
theorem Ax:∀{C:List Rw}{t:Rw},C.Pairwise RQ→(∀a∈C,nz a)→∀{x:Rw},(∀a∈C,cb a (ld x)=false)→cb t (ld x)=false→cb (ml C t) (ld x)=false
 | [],_,_,_,_,_,h=>h
 | c::C,t,hp,hn,x,hx,h=>by
  refine Ax (C:=C) (pairwise_cons.mp hp).2 (fun a ha=>hn a (mem_cons_of_mem _ ha)) (fun a ha=>hx a (mem_cons_of_mem _ ha)) ?_
  unfold oA
  split
  ·rw[jT,h,hx c (mem_cons_self ..)];rfl
  ·exact h
theorem ue:∀{C:List Rw}{t:Rw},C.Pairwise RQ→(∀a∈C,nz a)→∀c∈C,cb (ml C t) (ld c)=false
 | c::C,t,hp,hn,d,hd=>by
  obtain⟨h1,h2⟩:=pairwise_cons.mp hp
  have xV:∀a∈C,nz a:=fun a ha=>hn a (mem_cons_of_mem _ ha)
  rcases List.mem_cons.mp hd with e|kJ
  ·subst e
   refine Ax (C:=C) h2 xV (fun a ha=>(h1 a ha).2) ?_
   unfold oA
   by_cases hb:cb t (ld d)=true
   ·rw[if_pos hb,jT,hb,(hn d (mem_cons_self ..)).ld.b];rfl
   ·rw[if_neg hb];simpa using hb
  ·exact ue (C:=C) h2 xV d kJ
theorem HK {c t:Rw}(hc:nz c) (ht:nz t) (h:cb t (ld c)=false):ld (oA c t)=ld c∧nz (oA c t)∧cb (oA c t) (ld t)=false:=by
 have lc:=hc.ld
 have lt:=ht.ld
 unfold oA
 by_cases hb:cb c (ld t)=true
 ·rw[if_pos hb]
  have bR:ld c<ld t:=by
   rcases Nat.lt_trichotomy (ld c) (ld t) with x|x|x
   ·exact x
   ·rw[x,lt.b] at h;cases h
   ·rw[lc.f _ x] at hb;cases hb
  have L:Ld (bx c t) (ld c):=⟨lc.lt,by rw[jT,lc.b,h];rfl,fun i hi=>by rw[jT,lc.f i hi,lt.f i (by omega)];rfl⟩
  exact⟨L.eq,⟨_,L.lt,L.b⟩,by rw[jT,hb,lt.b];rfl⟩
 ·rw[if_neg hb]
  exact⟨rfl,hc,by simpa using hb⟩
def Gq (C:List Rw) (t:Rw):List Rw:=C.map (fun c=>oA c t)++[t]
theorem wy {R S:Rw→Rw→Prop}{f:Rw→Rw}:∀{L:List Rw},(∀a∈L,∀b∈L,R a b→S (f a) (f b))→L.Pairwise R→(L.map f).Pairwise S
 | [],_,_=>.nil
 | a::l,h,hp=>by
  obtain⟨h1,h2⟩:=pairwise_cons.mp hp
  rw[List.map_cons]
  refine pairwise_cons.mpr ⟨fun b hb=>?_,wy (fun x hx y hy=>h x (mem_cons_of_mem _ hx) y (mem_cons_of_mem _ hy)) h2⟩
  obtain⟨c,hc,rfl⟩:=List.mem_map.mp hb
  exact h a (mem_cons_self ..) c (mem_cons_of_mem _ hc) (h1 c hc)
theorem Rd.Gq {C:List Rw}(h:Rd C) {t:Rw}(ht:nz t) (h0:∀c∈C,cb t (ld c)=false):Rd (Gq C t):=by
 have K:∀c∈C,ld (oA c t)=ld c∧nz (oA c t)∧cb (oA c t) (ld t)=false:=fun c hc=>HK (h.n c hc) ht (h0 c hc)
 have off:∀a∈C,∀b∈C,cb a (ld b)=false→cb (oA a t) (ld b)=false:=fun a ha b hb z=>by
  unfold oA
  split
  ·rw[jT,z,h0 b hb];rfl
  ·exact z
 refine⟨fun a ha=>?_,?_⟩
 ·rcases mem_append.mp ha with ha|ha
  ·obtain⟨c,hc,rfl⟩:=List.mem_map.mp ha
   exact(K c hc).2.1
  ·rw[mem_singleton.mp ha];exact ht
 ·refine List.pairwise_append.mpr ⟨wy (fun a ha b hb Gp=>⟨?_,?_⟩) h.p,List.pairwise_singleton ..,fun a ha b hb=>?_⟩
  ·rw[(K b hb).1];exact off a ha b hb Gp.1
  ·rw[(K a ha).1];exact off b hb a ha Gp.2
  ·obtain⟨c,hc,rfl⟩:=List.mem_map.mp ha
   rw[mem_singleton.mp hb]
   exact⟨(K c hc).2.2,by rw[(K c hc).1];exact h0 c hc⟩
structure Fr (m:Nat) (rs ds:List Rw):Prop where
 c:Cm m rs
 l:ds.length=rs.length
 d:∀i j,i<rs.length→j<rs.length→sy (ra rs i) (ra ds j)=decide (i=j)
structure Got (m:Nat) (rs C:List Rw):Prop where
 c:Cm m C
 r:Rd C
 l:C.length=rs.length
 to:∀x∈rs,Sn C x
 Em:∀x∈C,Sn rs x
theorem En {t d:Rw}{m:Nat}(hm:m≤6) (ht:t.ok m) (h:sy t d=true):nz t:=by
 refine Classical.byContradiction fun hn=>?_
 have all:∀j,j<12→cb t j=false:=fun j hj=>by
  cases e:cb t j with
  | false=>rfl
  | true=>exact absurd ⟨j,hj,e⟩ hn
 have ex:t.x=0:=oX fun i=>by
  rcases Nat.lt_or_ge i 6 with hi|hi
  ·have:=all i (by omega)
   unfold cb at this
   rw[if_pos hi] at this
   rw[this];unfold bt;rw[Nat.zero_testBit]
  ·have h1:bt t.x i=false:=Nat.testBit_lt_two_pow (Nat.lt_of_lt_of_le (le64 hm ht.x) (show 2^6≤2^i from Nat.pow_le_pow_right (by decide) hi))
   rw[h1];unfold bt;rw[Nat.zero_testBit]
 have ez:t.z=0:=oX fun i=>by
  rcases Nat.lt_or_ge i 6 with hi|hi
  ·have:=all (i+6) (by omega)
   unfold cb at this
   rw[if_neg (by omega),Nat.add_sub_cancel] at this
   rw[this];unfold bt;rw[Nat.zero_testBit]
  ·have h1:bt t.z i=false:=Nat.testBit_lt_two_pow (Nat.lt_of_lt_of_le (le64 hm ht.z) (show 2^6≤2^i from Nat.pow_le_pow_right (by decide) hi))
   rw[h1];unfold bt;rw[Nat.zero_testBit]
 unfold sy at h
 rw[ex,ez,Nat.zero_and,Nat.zero_and] at h
 exact absurd h (by decide)
theorem Eo {rs:List Rw}{i:Nat}{x:Rw}(h:x∈rs.take i):∃k,k<i∧k<rs.length∧ra rs k=x:=by
 obtain⟨k,hk,e⟩:=List.mem_iff_getElem.mp h
 rw[length_take] at hk
 refine⟨k,by omega,by omega,cf ?_⟩
 rw[List.getElem_take] at e
 rw[getElem?_eq_getElem (by omega),e]
theorem Got.step {m:Nat}(hm:m≤6) {rs ds C:List Rw}(F:Fr m rs ds) {i:Nat}{r:Rw}(hr:rs[i]?=some r) (G:Got m (rs.take i) C):nz (ml C r)∧(ml C r).ok m∧Got m (rs.take (i+1)) (Gq C (ml C r)):=by
 have hi:i<rs.length:=(List.getElem?_eq_some_iff.mp hr).1
 have er:=cf hr
 have pF:r∈rs:=mem_of_getElem? hr
 obtain⟨s,hs,e⟩:=yN (Q:=C) (r:=r) (C:=C) (t:=r) (s:=ig) (fun c hc=>hc) .ig (gj r).symm
 have Uz:Sn (rs.take i) s:=Sn.of G.Em hs
 have hsd:sy s (ra ds i)=false:=Sn.sy (fun a ha=>by
  obtain⟨k,h1,h2,rfl⟩:=Eo ha
  rw[F.d k i h2 hi];exact decide_eq_false (by omega)) Uz
 have aV:s.ok m:=(Sn.good (F.c.sub fun x hx=>List.mem_of_mem_take hx) Uz).1
 have wz:(ml C r).ok m:=by rw[e];exact nJ (F.c.ok r pF) aV
 have JX:nz (ml C r):=En (d:=ra ds i) hm wz (by rw[e,iX,hsd,←er,F.d i i hi hi,decide_eq_true rfl];rfl)
 have h0:=ue (t:=r) G.r.p G.r.n
 have tk:rs.take (i+1)=rs.take i++[r]:=by rw[take_add_one,hr];rfl
 have RS:Cm m (rs.take (i+1)):=F.c.sub fun x hx=>List.mem_of_mem_take hx
 have inc:∀{x},Sn (rs.take i) x→Sn (rs.take (i+1)) x:=fun {x} hx=>Sn.of (fun y hy=>.gen (by rw[tk];exact mem_append_left _ hy)) hx
 have UA:Sn (rs.take (i+1)) (ml C r):=by rw[e];exact(Sn.gen (by rw[tk];exact mem_append_right _ (mem_singleton.mpr rfl))).bx (inc Uz)
 generalize hT:ml C r=t at *
 have Ep:∀x∈Gq C t,Sn (rs.take (i+1)) x:=fun x hx=>by
  rcases mem_append.mp hx with hx|hx
  ·obtain⟨c,hc,rfl⟩:=List.mem_map.mp hx
   unfold oA
   split
   ·exact(inc (G.Em c hc)).bx UA
   ·exact inc (G.Em c hc)
  ·rw[mem_singleton.mp hx];exact UA
 have st:Sn (Gq C t) t:=.gen (mem_append_right _ (mem_singleton.mpr rfl))
 have sC:∀c∈C,Sn (Gq C t) c:=fun c hc=>by
  have Nk:Sn (Gq C t) (oA c t):=.gen (mem_append_left _ (List.mem_map.mpr ⟨c,hc,rfl⟩))
  unfold oA at Nk
  split at Nk
  ·have:=Nk.bx st
   rw[bC,pV (Sn.good RS UA).2 wz.s,gj] at this
   exact this
  ·exact Nk
 refine⟨JX,wz,⟨⟨fun x hx=>(Sn.good RS (Ep x hx)).1,fun x hx=>(Sn.good RS (Ep x hx)).2,fun a ha b hb=>Sn.ag RS (Ep a ha) (Ep b hb)⟩,G.r.Gq JX h0,?_,fun x hx=>?_,Ep⟩⟩
 ·unfold Gq
  rw[length_append,length_map,G.l,tk,length_append];rfl
 ·rw[tk] at hx
  rcases mem_append.mp hx with hx|hx
  ·exact Sn.of sC (G.to x hx)
  ·rw[mem_singleton.mp hx]
   have hss:Sn (Gq C t) s:=Sn.of sC hs
   have rW:bx s s=ig:=pV (Sn.good G.c hs).2 aV.s
   have:r=bx t s:=by rw[e,bC,rW,gj]
   rw[this]
   exact st.bx hss
def Sep (p q:Rw×Rw):Prop:=sy p.1 q.2=false∧sy q.1 p.2=false
structure Fp (m:Nat) (ps:List (Rw×Rw)):Prop where
 c:Cm m (ps.map (·.1))
 p:ps.Pairwise Sep
 o:∀x∈ps,sy x.1 x.2=true
theorem Er {ps:List (Rw×Rw)}{i:Nat}{x:Rw×Rw}(h:ps[i]?=some x):ra (ps.map (·.1)) i=x.1:=cf (by rw[getElem?_map,h];rfl)
theorem Es {ps:List (Rw×Rw)}{i:Nat}{x:Rw×Rw}(h:ps[i]?=some x):ra (ps.map (·.2)) i=x.2:=cf (by rw[getElem?_map,h];rfl)
theorem Fp.fr {m:Nat}{ps:List (Rw×Rw)}(h:Fp m ps):Fr m (ps.map (·.1)) (ps.map (·.2)):=by
 refine⟨h.c,by rw[length_map,length_map],fun i j hi hj=>?_⟩
 rw[length_map] at hi hj
 rw[Er (getElem?_eq_getElem hi),Es (getElem?_eq_getElem hj)]
 have pw:=List.pairwise_iff_getElem.mp h.p
 rcases Nat.lt_trichotomy i j with x|x|x
 ·rw[(pw i j hi hj x).1,decide_eq_false (by omega)]
 ·subst x;rw[h.o _ (List.getElem_mem hi),decide_eq_true rfl]
 ·rw[(pw j i hj hi x).2,decide_eq_false (by omega)]
theorem Fr.fp {m:Nat}{rs ds:List Rw}(h:Fr m rs ds):∃ps:List (Rw×Rw),ps.map (·.1)=rs∧ps.map (·.2)=ds∧Fp m ps:=by
 have e1:(rs.zip ds).map (·.1)=rs:=List.map_fst_zip (by rw[h.l];exact Nat.le_refl _)
 have e2:(rs.zip ds).map (·.2)=ds:=List.map_snd_zip (by rw[h.l];exact Nat.le_refl _)
 have hl:(rs.zip ds).length=rs.length:=by rw[←length_map (f:=(·.1)),e1]
 have key:∀i j (hi:i<(rs.zip ds).length) (hj:j<(rs.zip ds).length),sy ((rs.zip ds)[i]).1 ((rs.zip ds)[j]).2=decide (i=j):=fun i j hi hj=>by
  have:=h.d i j (hl▸hi) (hl▸hj)
  rw[←e1] at this
  rw[Er (getElem?_eq_getElem hi)] at this
  have q:=Es (ps:=rs.zip ds) (getElem?_eq_getElem hj)
  rw[e2] at q
  rw[q] at this
  exact this
 refine⟨rs.zip ds,e1,e2,by rw[e1];exact h.c,List.pairwise_iff_getElem.mpr fun i j hi hj gP=>⟨by rw[key i j hi hj];exact decide_eq_false (by omega),by rw[key j i hj hi];exact decide_eq_false (by omega)⟩,fun x hx=>?_⟩
 obtain⟨i,hi,rfl⟩:=List.mem_iff_getElem.mp hx
 rw[key i i hi hi];exact decide_eq_true rfl
theorem Fr.mul {m:Nat}{rs ds:List Rw}(h:Fr m rs ds) {i j:Nat}(hi:i<rs.length) (hj:j<rs.length) (eY:i≠j) :
  Fr m (rs.set i (bx (ra rs i) (ra rs j))) (ds.set j (bx (ra ds j) (ra ds i)))∧(∀x∈rs.set i (bx (ra rs i) (ra rs j)),Sn rs x)∧∀x∈rs,Sn (rs.set i (bx (ra rs i) (ra rs j))) x:=by
 have mi:ra rs i∈rs:=mem_of_getElem? (dS hi)
 have mj:ra rs j∈rs:=mem_of_getElem? (dS hj)
 have gi:Sn rs (bx (ra rs i) (ra rs j)):=(Sn.gen mi).bx (.gen mj)
 have Em:∀x∈rs.set i (bx (ra rs i) (ra rs j)),Sn rs x:=fun x hx=>by
  rcases List.mem_or_eq_of_mem_set hx with z|z
  ·exact .gen z
  ·rw[z];exact gi
 have rg:∀k,k<rs.length→ra (rs.set i (bx (ra rs i) (ra rs j))) k=if k=i then bx (ra rs i) (ra rs j) else ra rs k:=fun k hk=>by
  refine cf ?_
  rw[List.getElem?_set]
  by_cases e:i=k
  ·subst e;rw[if_pos rfl,if_pos hi,if_pos rfl]
  ·rw[if_neg e,if_neg (Ne.symm e)];exact dS hk
 have dg:∀k,k<rs.length→ra (ds.set j (bx (ra ds j) (ra ds i))) k=if k=j then bx (ra ds j) (ra ds i) else ra ds k:=fun k hk=>by
  refine cf ?_
  rw[List.getElem?_set]
  by_cases e:j=k
  ·subst e;rw[if_pos rfl,if_pos (by rw[h.l];exact hj),if_pos rfl]
  ·rw[if_neg e,if_neg (Ne.symm e)];exact dS (by rw[h.l];exact hk)
 have sj:Sn (rs.set i (bx (ra rs i) (ra rs j))) (ra rs j):=.gen (by
  have q:(rs.set i (bx (ra rs i) (ra rs j)))[j]?=some (ra rs j):=by rw[List.getElem?_set,if_neg eY];exact dS hj
  exact mem_of_getElem? q)
 have to:∀x∈rs,Sn (rs.set i (bx (ra rs i) (ra rs j))) x:=fun x hx=>by
  obtain⟨k,hk,rfl⟩:=List.mem_iff_getElem.mp hx
  have ek:ra rs k=rs[k]:=cf (getElem?_eq_getElem hk)
  rw[←ek]
  have mk:Sn (rs.set i (bx (ra rs i) (ra rs j))) (ra (rs.set i (bx (ra rs i) (ra rs j))) k):=.gen (mem_of_getElem? (dS (by rw[List.length_set];exact hk)))
  rw[rg k hk] at mk
  by_cases e:k=i
  ·subst e
   rw[if_pos rfl] at mk
   have:=mk.bx sj
   rw[bC,pV (h.c.ev _ mj) (h.c.ok _ mj).s,gj] at this
   exact this
  ·rw[if_neg e] at mk;exact mk
 refine⟨⟨⟨fun x hx=>(Sn.good h.c (Em x hx)).1,fun x hx=>(Sn.good h.c (Em x hx)).2,fun a ha b hb=>Sn.ag h.c (Em a ha) (Em b hb)⟩,by rw[List.length_set,List.length_set,h.l],fun a b ha hb=>?_⟩,Em,to⟩
 rw[List.length_set] at ha hb
 rw[rg a ha,dg b hb]
 by_cases e1:a=i<;>by_cases e2:b=j
 ·subst e1;subst e2
  rw[if_pos rfl,if_pos rfl,iX,d6,iX,d6 (ra rs b),iX,d6 (ra ds b) (ra rs a),d6 (ra ds a) (ra rs a),d6 (ra ds b) (ra rs b),d6 (ra ds a) (ra rs b),h.d a b ha hb,h.d a a ha ha,h.d b b hb hb,h.d b a hb ha]
  simp[eY,Ne.symm eY]
 ·subst e1
  rw[if_pos rfl,if_neg e2,iX,h.d a b ha hb,h.d j b hj hb]
  simp[Ne.symm e2]
 ·subst e2
  rw[if_neg e1,if_pos rfl,d6,iX,d6 (ra ds b),d6 (ra ds i),h.d a b ha hb,h.d a i ha hi]
  simp[e1]
 ·rw[if_neg e1,if_neg e2];exact h.d a b ha hb
structure Eqv (rs qs:List Rw):Prop where
 to:∀x∈rs,Sn qs x
 Em:∀x∈qs,Sn rs x
def ulk (k z u:Nat):Nat:=(2^k^^^z)&&&u
theorem HL {a b c d:Rw}(h1:a.x=c.x) (h2:a.z=c.z) (h3:b.x=d.x) (h4:b.z=d.z):sy a b=sy c d:=by unfold sy;rw[h1,h2,h3,h4]
def st (m:Nat):List Int:=1::List.replicate (2^m-1) 0
theorem BR (m:Nat):(st m).length=2^m:=by
 have:=Nat.two_pow_pos m
 unfold st;rw[List.length_cons,length_replicate];omega
theorem HM (m:Nat):cg (st m):=⟨1,mem_cons_self ..,by decide⟩
theorem Et (r:Rw) (d:Int) (xs:List Int):lay r (xs.map (d * ·))=(lay r xs).map (d * ·):=by
 refine gh (by rw[ax,length_map,length_map,ax]) fun q hq=>?_
 rw[ax,length_map] at hq
 rw[cO (by rw[length_map];exact hq),iV,cO hq]
 unfold ua
 rw[iV,kP,←Int.mul_assoc,Int.mul_comm r.sg d,Int.mul_assoc]
theorem kQ {m:Nat}{a b:Rw}(ha:a.ok m) {xs:List Int}(hl:xs.length=2^m):lay (bx a b) xs=lay a (lay b xs):=by
 refine gh (by rw[ax,ax,ax]) fun q hq=>?_
 rw[ax] at hq
 have hx:q^^^a.x<xs.length:=by rw[hl];exact ie (hl▸hq) ha.x
 rw[cO hq,cO (by rw[ax];exact hq)]
 have e1:ua (lay b xs) (q^^^a.x) a=chg (a.sg*ua xs (q^^^a.x^^^b.x) b) (par ((q^^^a.x)&&&a.z)):=by
  unfold ua
  rw[cO hx];rfl
 rw[e1]
 have e2:q^^^(bx a b).x=q^^^a.x^^^b.x:=by show q^^^(a.x^^^b.x)=_;rw[Nat.xor_assoc]
 rw[e2]
 have e3:q^^^a.x=(q^^^a.x^^^b.x)^^^b.x:=(oW _ _).symm
 rw[show par ((q^^^a.x)&&&a.z)=par (((q^^^a.x^^^b.x)^^^b.x)&&&a.z) by rw[←e3]]
 generalize q^^^a.x^^^b.x=p
 unfold ua
 show chg (chg (a.sg*b.sg) (par (a.z&&&b.x))*cz xs p) (par (p&&&(a.z^^^b.z)))=_
 rw[oy,Ed,kP,tY,mI,mI,Int.mul_assoc,eQ b.x a.z]
 congr 1
 cases par (p&&&a.z)<;>cases par (p&&&b.z)<;>cases par (a.z&&&b.x)<;>rfl
theorem HN (xs:List Int):lay ig xs=xs:=by
 refine gh (ax _ _) fun q hq=>?_
 rw[ax] at hq
 rw[cO hq]
 unfold ua ig
 show chg (1*cz xs (q^^^0)) (par ((q^^^0)&&&0))=_
 rw[Nat.xor_zero,Nat.and_zero,pR,Int.one_mul];rfl
theorem Sn.lay {m:Nat}{rs:List Rw}(c:Cm m rs) {xs:List Int}(hl:xs.length=2^m) (h:∀r∈rs,TC.lay r xs=xs):∀{t:Rw},Sn rs t→TC.lay t xs=xs:=by
 intro t ht
 induction ht with
 | ig=>exact HN xs
 | mul ht hr ih=>rw[kQ (Sn.good c ht).1 hl,h _ hr,ih]
def uf (m:Nat):List Rw:=(List.range m).map fun c=>⟨1,0,2^c⟩
def Nq (m:Nat):List Rw:=(List.range m).map fun c=>⟨1,2^c,0⟩
theorem iY (m:Nat):(uf m).length=m:=by unfold uf;rw[length_map,length_range]
theorem Ay {m c:Nat}(h:c<m):(uf m)[c]?=some ⟨1,0,2^c⟩:=by unfold uf;rw[getElem?_map,getElem?_range h];rfl
theorem HQ {m c:Nat}(h:c<m):(Nq m)[c]?=some ⟨1,2^c,0⟩:=by unfold Nq;rw[getElem?_map,getElem?_range h];rfl
theorem pw_lt {m c:Nat}(h:c<m):2^c<2^m:=Nat.pow_lt_pow_right (by decide) h
theorem sD {m c:Nat}(h:c<m):(⟨1,0,2^c⟩:Rw).ok m:=⟨.inl rfl,Nat.two_pow_pos m,pw_lt h⟩
theorem OX {m c:Nat}(h:c<m):(⟨1,2^c,0⟩:Rw).ok m:=⟨.inl rfl,pw_lt h,Nat.two_pow_pos m⟩
theorem oY {m:Nat}{r:Rw}(h:r∈uf m):∃c,c<m∧r=⟨1,0,2^c⟩:=by
 unfold uf at h
 obtain⟨c,hc,rfl⟩:=List.mem_map.mp h
 exact⟨c,mem_range.mp hc,rfl⟩
theorem Eu {m:Nat}(hm:m≤6) {gs:List Gt}(hg:∀g∈gs,g.ok m):Fr m ((uf m).map (nK gs)) ((Nq m).map (nK gs)):=by
 refine⟨⟨fun r hr=>?_,fun r hr=>?_,fun a ha b hb=>?_⟩,by unfold uf Nq;simp,fun i j hi hj=>?_⟩
 ·obtain⟨z,hz,rfl⟩:=List.mem_map.mp hr
  obtain⟨c,hc,rfl⟩:=oY hz
  exact Ei (sD hc) hg
 ·obtain⟨z,hz,rfl⟩:=List.mem_map.mp hr
  obtain⟨c,hc,rfl⟩:=oY hz
  rw[Aw hm hg (sD hc)]
  unfold lG
  show (!par (0&&&2^c))=true
  rw[Nat.zero_and,pR];rfl
 ·obtain⟨z,hz,rfl⟩:=List.mem_map.mp ha
  obtain⟨c,hc,rfl⟩:=oY hz
  obtain⟨y,hy,rfl⟩:=List.mem_map.mp hb
  obtain⟨d,hd,rfl⟩:=oY hy
  rw[yM hm hg (sD hc) (sD hd),Ej hm hc rfl rfl]
  unfold bt
  exact Nat.zero_testBit _
 ·rw[length_map,iY] at hi hj
  have e1:ra ((uf m).map (nK gs)) i=nK gs ⟨1,0,2^i⟩:=cf (by rw[getElem?_map,Ay hi];rfl)
  have e2:ra ((Nq m).map (nK gs)) j=nK gs ⟨1,2^j,0⟩:=cf (by rw[getElem?_map,HQ hj];rfl)
  rw[e1,e2,yM hm hg (sD hi) (OX hj),Ej hm hi rfl rfl,Ee]
  exact decide_eq_decide.mpr ⟨fun h=>h.symm,fun h=>h.symm⟩
theorem HR (gs:List Gt) (g:Gt) (r:Rw):nK (gs++[g]) r=su (nK gs r) g:=by unfold nK;rw[List.foldl_append];rfl
theorem HS {m:Nat}{xs:List Int}(hl:xs.length=2^m) {r:Rw}(hr:r.ok m) (he:lG r=true):lay r (lay r xs)=xs :=
 gh (by rw[ax,ax]) fun q hq=>by
  rw[ax,ax] at hq
  have nj:q^^^r.x<xs.length:=by rw[hl];exact ie (hl▸hq) hr.x
  rw[cO (by rw[ax];exact hq)]
  unfold ua
  rw[cO nj,oW]
  unfold ua
  rw[kP,mI,←Int.mul_assoc,tZ hr.s,Int.one_mul,oy]
  have:par (r.x&&&r.z)=false:=by unfold lG at he;simpa using he
  rw[this]
  cases par (q&&&r.z)<;>rfl
def kS (k:Int) (xs ys:List Int):List Int:=(List.range xs.length).map fun p=>cz xs p+k*cz ys p
theorem aX (k:Int) (xs ys:List Int):(kS k xs ys).length=xs.length:=by unfold kS;simp
theorem iZ {k:Int}{xs ys:List Int}{p:Nat}(h:p<xs.length):cz (kS k xs ys) p=cz xs p+k*cz ys p:=by
 apply eP
 unfold kS
 rw[getElem?_map,getElem?_range h];rfl
theorem HU (s a b k:Int) (c:Bool):chg (s*(a+k*b)) c=chg (s*a) c+k*chg (s*b) c:=by
 rw[Int.mul_add,kP,HE]
 congr 2
 rw[←Int.mul_assoc,Int.mul_comm s k,Int.mul_assoc]
theorem ug {m:Nat}{k:Int}{xs ys:List Int}(hl:xs.length=2^m) (hy:ys.length=xs.length) {r:Rw}(hr:r.ok m):lay r (kS k xs ys)=kS k (lay r xs) (lay r ys) :=
 gh (by rw[ax,aX,aX,ax]) fun q hq=>by
  rw[ax,aX] at hq
  have nj:q^^^r.x<xs.length:=by rw[hl];exact ie (hl▸hq) hr.x
  rw[cO (by rw[aX];exact hq),iZ (by rw[ax];exact hq),cO hq,cO (by rw[hy];exact hq)]
  unfold ua
  rw[iZ nj,HU]
theorem wA {m:Nat}{k:Int}(hk:one k) {xs:List Int}(hl:xs.length=2^m) {r:Rw}(hr:r.ok m) (he:lG r=true):lay r (kS k xs (lay r xs))=(kS k xs (lay r xs)).map (k * ·):=by
 rw[ug hl (ax r xs) hr,HS hl hr he]
 refine gh (by rw[aX,ax,length_map,aX]) fun q hq=>?_
 rw[aX,ax] at hq
 rw[iZ (by rw[ax];exact hq),iV,iZ hq,Int.mul_add,←Int.mul_assoc,tZ hk,Int.one_mul]
 omega
theorem BS {k:Int}(hk:one k) {xs:List Int}{r:Rw}(h:¬cg (kS k xs (lay r xs))):lay r xs=xs.map ((0-k) * ·) :=
 gh (by rw[ax,length_map]) fun q hq=>by
  rw[ax] at hq
  have e:cz (kS k xs (lay r xs)) q=0:=Classical.byContradiction fun z=>h ⟨_,mem_of_getElem? (d5 (by rw[aX];exact hq)),z⟩
  rw[iZ hq] at e
  rw[iV]
  rcases hk with rfl|rfl<;>omega
theorem Ew {k:Int}(hk:one k) {j:Nat}{xs ys:List Int}(h:Sz j xs) (h':Sz j ys) (hl:ys.length=xs.length):Sz (j+1) (kS k xs ys):=fun n hn=>by
 unfold kS at hn
 obtain⟨p,hp,rfl⟩:=List.mem_map.mp hn
 have JP:=mem_range.mp hp
 have a:=h _ (mem_of_getElem? (d5 JP))
 have b:=h' _ (mem_of_getElem? (d5 (by rw[hl];exact JP)))
 rw[Nat.pow_succ]
 rcases hk with rfl|rfl<;>omega
theorem uh {k:Nat}{xs:List Int}{m:Nat}(h:Sz k xs) {r:Rw}(hl:xs.length=2^m) (hr:r.ok m):Sz k (lay r xs):=fun n hn=>by
 unfold lay at hn
 obtain⟨p,hp,rfl⟩:=List.mem_map.mp hn
 have JP:p^^^r.x<xs.length:=by rw[hl];exact ie (hl▸mem_range.mp hp) hr.x
 have:=h _ (mem_of_getElem? (d5 JP))
 unfold ua chg
 rcases hr.s with e|e<;>rw[e]<;>split<;>simp<;>exact this
def lowb (n:Nat):Nat:=(Builtin.bitAnd (n:Int) (0-(n:Int))).toNat
end TC
namespace L2
end L2
namespace TC
open PySem L2
theorem LG:∀m:Nat,m<7→∀x:Nat,x<2^m→((List.range (2^m)).map (·^^^x)).isPerm (List.range (2^m))=true:=by decide +kernel
theorem LH (a:Int) (b:Bool):chg a b*chg a b=a*a:=by cases b<;>simp[chg,Int.neg_mul_neg]
theorem mL {m:Nat}(hm:m≤6) {xs:List Int}(hl:xs.length=2^m) {r:Rw}(hr:r.ok m):dot (lay r xs) (lay r xs)=dot xs xs:=by
 have P:=List.isPerm_iff.mp (LG m (by omega) r.x hr.x)
 unfold dot
 rw[ax,hl,←BO P fun p=>cz xs p*cz xs p]
 refine gG fun p hp=>?_
 rw[cO (by rw[hl];exact hp)]
 unfold ua
 rw[LH]
 rcases hr.s with h|h<;>rw[h]<;>simp[Int.neg_mul_neg]
theorem ui {s:Int}(hs:one s) {xs ys:List Int}(hl:ys.length=xs.length):dot (kS s xs ys) (kS s xs ys)=dot xs xs+2*(s*dot xs ys)+dot ys ys:=by
 unfold dot
 rw[aX,hl,←jR,←jR,←pQ,←pQ]
 refine gG fun p hp=>?_
 rw[iZ hp]
 generalize cz xs p=a
 generalize cz ys p=b
 rcases hs with rfl|rfl
 ·simp only[Int.one_mul,Int.add_mul,Int.mul_add]
  have:=Int.mul_comm a b
  omega
 ·simp only[Int.neg_mul,Int.one_mul,Int.add_mul,Int.mul_add,Int.mul_neg,Int.neg_neg]
  have:=Int.mul_comm a b
  omega
theorem wB {n:Nat}{f:Nat→Int}(h:∀p,p<n→0≤f p):0≤eZ n f:=by
 unfold eZ
 have:∀l:List Nat,(∀p∈l,0≤f p)→0≤(l.map f).sum:=fun l=>by
  induction l with
  | nil=>intro _;exact Int.le_refl 0
  | cons a l ih =>
   intro hh
   rw[List.map_cons,List.sum_cons]
   have:=hh a (mem_cons_self ..)
   have:=ih fun p hp=>hh p (mem_cons_of_mem _ hp)
   omega
 exact this _ fun p hp=>h p (mem_range.mp hp)
theorem HV {n:Nat}{f:Nat→Int}(h:∀p,p<n→0≤f p) {q:Nat}(hq:q<n):f q≤eZ n f:=by
 unfold eZ
 have:∀l:List Nat,(∀p∈l,0≤f p)→q∈l→f q≤(l.map f).sum:=fun l=>by
  induction l with
  | nil=>intro _ h;cases h
  | cons a l ih =>
   intro hh hm
   rw[List.map_cons,List.sum_cons]
   have ha:=hh a (mem_cons_self ..)
   rcases List.mem_cons.mp hm with rfl|hm
   ·have:0≤(l.map f).sum:=by
     clear ih hm
     induction l with
     | nil=>exact Int.le_refl 0
     | cons b l LI =>
      rw[List.map_cons,List.sum_cons]
      have:=hh b (by simp)
      have:=LI fun p hp=>hh p (by rcases List.mem_cons.mp hp with z|z<;>simp[z])
      omega
    omega
   ·have:=ih (fun p hp=>hh p (mem_cons_of_mem _ hp)) hm
    omega
 exact this _ (fun p hp=>h p (mem_range.mp hp)) (mem_range.mpr hq)
theorem JY (a:Int):0≤a*a:=by
 rcases Int.le_total 0 a with h|h
 ·exact Int.mul_nonneg h h
 ·rw[←Int.neg_mul_neg];exact Int.mul_nonneg (by omega) (by omega)
theorem LJ (xs:List Int):0≤dot xs xs:=wB fun p _=>JY _
theorem i0 {xs:List Int}(h:cg xs):0<dot xs xs:=by
 obtain⟨n,hn,h0⟩:=h
 obtain⟨q,hq,rfl⟩:=List.mem_iff_getElem.mp hn
 have e:cz xs q=xs[q]:=eP (getElem?_eq_getElem hq)
 have:=HV (n:=xs.length) (f:=fun p=>cz xs p*cz xs p) (fun p _=>JY _) hq
 have h1:0<cz xs q*cz xs q:=by
  rw[e]
  rcases Int.lt_or_gt_of_ne h0 with z|z
  ·rw[←Int.neg_mul_neg];exact Int.mul_pos (by omega) (by omega)
  ·exact Int.mul_pos z z
 exact Int.lt_of_lt_of_le h1 this
theorem wC {xs:List Int}(h:¬cg xs):dot xs xs=0:=by
 unfold dot
 have:eZ xs.length (fun p=>cz xs p*cz xs p)=eZ xs.length fun _=>0*0:=gG fun p hp=>by
  have:cz xs p=0:=Classical.byContradiction fun z=>h ⟨_,mem_of_getElem? (d5 hp),z⟩
  rw[this]
 rw[this,jR,Int.zero_mul]
def tp (s:Int) (xs:List Int) (r:Rw):Int:=dot xs xs+s*dot xs (lay r xs)
theorem Ex {m:Nat}(hm:m≤6) {xs:List Int}(hl:xs.length=2^m) {r:Rw}(hr:r.ok m) {s:Int}(hs:one s):dot (kS s xs (lay r xs)) (kS s xs (lay r xs))=2*tp s xs r:=by
 rw[ui hs (ax r xs),mL hm hl hr]
 unfold tp
 omega
theorem JZ {m:Nat}(hm:m≤6) {xs:List Int}(hl:xs.length=2^m) {r:Rw}(hr:r.ok m) {s:Int}(hs:one s):0≤tp s xs r:=by
 have:=Ex hm hl hr hs
 have:=LJ (kS s xs (lay r xs))
 omega
theorem HW {m:Nat}(hm:m≤6) {xs:List Int}(hl:xs.length=2^m) {r:Rw}(hr:r.ok m) {s:Int}(hs:one s):tp s xs r≠0↔cg (kS s xs (lay r xs)):=by
 have e:=Ex hm hl hr hs
 constructor
 ·intro h
  refine Classical.byContradiction fun z=>h ?_
  have:=wC z
  omega
 ·intro h
  have:=i0 h
  omega
theorem HX (xs:List Int) (r:Rw) (s:Int):tp s xs r+tp (-s) xs r=2*dot xs xs:=by
 unfold tp;rw[Int.neg_mul];omega
def sgn (t:Nat):Int:=if t=1 then -1 else 1
theorem gW (t:Nat):one (sgn t):=by unfold sgn one;split<;>simp
theorem sgn_not {t:Nat}(h:t<2):sgn (1-t)=- sgn t:=by
 have:t=0∨t=1:=by omega
 rcases this with rfl|rfl<;>rfl
def wD (w:Nat) (xs:List Int) (r:Rw):Nat:=if tp (sgn w) xs r=0 then 1-w else w
theorem LK {w:Nat}(h:w<2) (xs:List Int) (r:Rw):wD w xs r<2:=by unfold wD;split<;>omega
theorem LL {m:Nat}(hm:m≤6) {xs:List Int}(hl:xs.length=2^m) (h0:cg xs) {r:Rw}(hr:r.ok m) {w:Nat}(h:w<2):tp (sgn (wD w xs r)) xs r≠0:=by
 unfold wD
 split
 ·next z =>
  rw[sgn_not h]
  have:=HX xs r (sgn w)
  have:=i0 h0
  omega
 ·next z=>exact z
def bhd (t:Nat) (xs:List Int) (r:Rw):List Int:=tV (kS (sgn t) xs (lay r xs))
theorem Ey {s:Int}{xs:List Int}{r:Rw}(h:lay r xs=xs.map (s * ·)):dot xs (lay r xs)=s*dot xs xs:=by
 rw[h]
 have:=HD 1 s xs xs
 rw[Int.one_mul] at this
 rw[←this]
 congr 1
 exact(List.map_id' xs).symm.trans (map_congr_left fun n _=>(Int.one_mul n).symm)
theorem Az {s:Int}(hs:one s) {xs:List Int}{r:Rw}(h:lay r xs=xs.map (s * ·)):tp s xs r=2*dot xs xs∧tp (-s) xs r=0:=by
 unfold tp
 rw[Ey h]
 rcases hs with rfl|rfl<;>omega
theorem Ez {t w:Nat}(ht:t<2) (hw:w<2) {xs:List Int}(h0:cg xs) {r:Rw}(h:lay r xs=xs.map (sgn t * ·)):wD w xs r=t:=by
 obtain⟨e1,e2⟩:=Az (gW t) h
 have hp:=i0 h0
 unfold wD
 by_cases e:w=t
 ·subst e
  rw[if_neg (by omega)]
 ·have:w=1-t:=by omega
  subst this
  rw[sgn_not ht,if_pos e2];omega
def fr (t b:Nat):List V:=[.int (t/Nat.gcd t b:Nat),.int (b/Nat.gcd t b:Nat)]
theorem HY {n:Nat}(h:0<n):fr n n=[.int 1,.int 1]:=by
 unfold fr
 rw[Nat.gcd_self,Nat.div_self h];rfl
theorem J0 (a b:Nat) (h:0<b):(a:Int).fdiv (b:Int)=((a/b:Nat):Int):=by rw[Lx (by omega) (by omega)];rfl
theorem HZ {n:Nat}{f:Nat→Int}{B:Nat}(h:∀p,p<n→(f p).natAbs≤B):(eZ n f).natAbs≤n*B:=by
 unfold eZ
 have:∀l:List Nat,(∀p∈l,(f p).natAbs≤B)→((l.map f).sum).natAbs≤l.length*B:=fun l=>by
  induction l with
  | nil=>intro _;simp
  | cons a l ih =>
   intro hh
   rw[List.map_cons,List.sum_cons,List.length_cons,Nat.add_mul]
   have h1:=hh a (mem_cons_self ..)
   have h2:=ih fun p hp=>hh p (mem_cons_of_mem _ hp)
   have:=Int.natAbs_add_le (f a) ((l.map f).sum)
   omega
 have:=this (List.range n) fun p hp=>h p (mem_range.mp hp)
 rwa [length_range] at this
theorem EA {k:Nat}{xs ys:List Int}(h:Sz k xs) (h':Sz k ys) (hl:xs.length≤64) (hk:k≤900):(dot xs ys).natAbs<2^1900:=by
 have:=HZ (n:=xs.length) (f:=fun p=>cz xs p*cz ys p) (B:=2^k*2^k) fun p _=>by
  rw[Int.natAbs_mul]
  exact Nat.mul_le_mul (Nat.le_of_lt (h.at p)) (Nat.le_of_lt (h'.at p))
 refine Nat.lt_of_le_of_lt this ?_
 have e1:2^k*2^k≤2^1800:=by rw[←Nat.pow_add];exact Nat.pow_le_pow_right (by decide) (by omega)
 have:xs.length*(2^k*2^k)≤64*2^1800:=Nat.mul_le_mul hl e1
 refine Nat.lt_of_le_of_lt this ?_
 have:(64:Nat)*2^1800=2^1806:=by rw[show (64:Nat)=2^6 from rfl,←Nat.pow_add]
 rw[this]
 exact Nat.pow_lt_pow_right (by decide) (by decide)
def neg (r:Rw):Rw:=⟨0-r.sg,r.x,r.z⟩
noncomputable def es (m s:Nat):List Int:=(List.range (2^m)).map fun p=>if p=s then 1 else 0
theorem map_one (xs:List Int):xs.map ((1:Int) * ·)=xs:=by
 conv=>rhs;rw[←List.map_id xs]
 exact map_congr_left fun n _=>Int.one_mul n
structure Inv (m:Nat) (L:List Rw) (s i:Nat) (v:List Int):Prop where
 l:v.length=2^m
 n:cz v s≠0
 b:∀j r,i≤j→L[j]?=some r→ld r<6→∀p,p<2^m→cz v p≠0→bt p (ld r)=bt s (ld r)
 f:∀j r,j<i→L[j]?=some r→lay r v=v
def lz (r:Rw):Nat:=2^(ld r-6)
def stt (F:List Rw):Nat:=(F.map lz).sum
structure Stt (F:List Rw):Prop where
 lt:stt F<64
 b:∀e,bt (stt F) e=true→∃f∈F,ld f-6=e
end TC
namespace L2
open PySem PySem.Spec PyProof.Rows
def kn (kf:Keyed→Nat) (xs:Array Keyed) (i:Nat):Nat:=(xs[i]?.map kf).getD 0
theorem mM {kf:Keyed→Nat}{xs ys:Array Keyed}{i j:Nat}(e:xs[i]?=ys[j]?):kn kf xs i=kn kf ys j:=by unfold kn;rw[e]
def Up (kf:Keyed→Nat) (xs:Array Keyed) (k:Nat):Prop:=∀i j,i<j→j<k→kn kf xs i<kn kf xs j
def J4 (kf:Keyed→Nat) (xs:Array Keyed) (k:Nat):Prop:=∀i j,i<j→j<k→kn kf xs j<kn kf xs i
structure rj (kd:SortKind) (kf:Keyed→Nat) (z:Array Keyed) (st:SortSt):Prop where
 p:(arrOf st).Perm z
 k:kindOf st=kd
 f:failedOf st=none
 g:pendingOf st=#[]
section
variable {kd:SortKind}{kf:Keyed→Nat}{z:Array Keyed}{st:SortSt}
theorem rj.n (S:rj kd kf z st):(arrOf st).size=z.size:=S.p.size_eq
theorem rj.set (S:rj kd kf z st) {xs:Array Keyed}(e:xs.Perm (arrOf st)):rj kd kf z (setArr st xs):=⟨e.trans S.p,S.k,S.f,S.g⟩
theorem rj.at (S:rj kd kf z st) {i:Nat}(hi:i<z.size):∃x,(arrOf st)[i]?=some x∧x∈z.toList∧kn kf (arrOf st) i=kf x:=by
 have uk:i<(arrOf st).size:=S.n▸hi
 refine⟨(arrOf st)[i],Array.getElem?_eq_getElem uk,?_,?_⟩
 ·exact(Array.perm_iff_toList_perm.mp S.p).mem_iff.mp (Array.mem_toList_iff.mpr (Array.getElem_mem uk))
 ·unfold kn;rw[Array.getElem?_eq_getElem uk];rfl
theorem rj.ne (S:rj kd kf z st) (hz:(z.toList.map kf).Nodup) {i j:Nat}(hi:i<z.size) (hj:j<z.size) (h:i≠j):kn kf (arrOf st) i≠kn kf (arrOf st) j:=by
 have hp:((arrOf st).toList.map kf).Nodup:=((Array.perm_iff_toList_perm.mp S.p).map kf).nodup_iff.mpr hz
 have e:∀{i},i<z.size→((arrOf st).toList.map kf)[i]?=some (kn kf (arrOf st) i):=fun {i} hi=>by
  obtain⟨x,h1,_,h3⟩:=S.at hi
  rw[getElem?_map,Array.getElem?_toList,h1,h3];rfl
 intro q
 refine h ((List.getElem?_inj (l:=(arrOf st).toList.map kf) ?_ hp).mp ?_)
 ·rw[length_map,Array.length_toList,S.n];exact hi
 ·rw[e hi,e hj,q]
def pW (prog:Program) (w:World) (A:Around) (s:Shared) (kd:SortKind) (kf:Keyed→Nat) (z:Array Keyed):Prop :=
 ∀(x y:Keyed) (Q:Bool→Shared→Prop) (E:Value→Shared→Prop),x∈z.toList→y∈z.toList→Q (decide (kf x<kf y)) s→wpAny (model prog w) A (keyLt' kd x.1 y.1) Q E s
variable {prog:Program}{w:World}{A:Around}{E:Value→Shared→Prop}{s:Shared}
theorem pX (C:pW prog w A s kd kf z) (S:rj kd kf z st) {i j:Nat}{Q:Option Bool→SortSt→Prop}(hi:i<z.size) (hj:j<z.size) (h:Q (some (decide (kn kf (arrOf st) i<kn kf (arrOf st) j))) st) :
  (wpS (model prog w) A E s (ltAt' i j) Q st):=by
 obtain⟨x,x1,x2,x3⟩:=S.at hi
 obtain⟨y,y1,y2,y3⟩:=S.at hj
 rw[x3,y3] at h
 rw[ltAt'_eq]
 refine wpS_bind (wpS_get ?_)
 show wpS _ _ _ _ (elem' (arrOf st) i >>= fun a=>elem' (arrOf st) j >>= fun b=>lt' a b) Q st
 rw[elem'_eq,elem'_eq,x1,y1]
 refine(wpS_bind (wpS_pure (wpS_bind (wpS_pure ?_))))
 rw[lt'_eq]
 refine wpS_bind (wpS_get ?_)
 rw[S.k]
 exact wpS_bind (wpS_lift (wpAny_attempt (C x y _ _ x2 y2 ⟨rfl,wpS_pure h⟩)))
theorem Up.step {xs:Array Keyed}{x:Nat}(h:Up kf xs x) (h1:kn kf xs (x-1)<kn kf xs x):Up kf xs (x+1):=fun i j gP hj=>by
 rcases Nat.lt_or_ge j x with q|q
 ·exact h i j gP q
 ·obtain rfl:j=x:=by omega
  rcases Nat.lt_or_ge i (j-1) with q2|q2
  ·exact Nat.lt_trans (h i (j-1) q2 (by omega)) h1
  ·rwa [show i=j-1 by omega]
theorem J4.step {xs:Array Keyed}{x:Nat}(h:J4 kf xs x) (h1:kn kf xs x<kn kf xs (x-1)):J4 kf xs (x+1):=fun i j gP hj=>by
 rcases Nat.lt_or_ge j x with q|q
 ·exact h i j gP q
 ·obtain rfl:j=x:=by omega
  rcases Nat.lt_or_ge i (j-1) with q2|q2
  ·exact Nat.lt_trans h1 (h i (j-1) q2 (by omega))
  ·rwa [show i=j-1 by omega]
theorem AA (C:pW prog w A s kd kf z) (hz:(z.toList.map kf).Nodup) (S:rj kd kf z st) {a m:Nat}{Q:AscSt→SortSt→Prop}(hm:m≤z.size) (h1:1≤a) (UB:a≤m) (hu:Up kf (arrOf st) a)
  (h:∀n,a≤n→n≤m→Up kf (arrOf st) n→(n=m∨kn kf (arrOf st) n<kn kf (arrOf st) (n-1))→Q (none,n) st):wpS (model prog w) A E s (ascLoop a m) Q st:=by
 refine wpS_forRange (fun x c q=>q=st∧c=(none,x)∧Up kf (arrOf st) x) (fun x c q hx J5 hI=>?_) (fun c q hI=>?_) ⟨rfl,rfl,hu⟩
 ·obtain⟨rfl,rfl,mD⟩:=hI
  refine wpS_bind (pX C S (i:=x) (j:=x-1) (by omega) (by omega) ?_)
  dsimp only
  by_cases hc:kn kf (arrOf q) x<kn kf (arrOf q) (x-1)
  ·rw[decide_eq_true hc,if_pos rfl]
   exact wpS_pure (h x hx (Nat.le_of_lt J5) mD (.inr hc))
  ·rw[decide_eq_false hc,if_neg (by decide)]
   have:=S.ne hz (i:=x) (j:=x-1) (by omega) (by omega) (by omega)
   exact wpS_pure ⟨rfl,rfl,mD.step (by omega)⟩
 ·obtain⟨rfl,rfl,mD⟩:=hI
  have e:max a m=m:=by omega
  rw[e] at mD ⊢
  exact h m UB (Nat.le_refl m) mD (.inl rfl)
theorem EB (C:pW prog w A s kd kf z) (hz:(z.toList.map kf).Nodup) (S:rj kd kf z st) {a m:Nat}{Q:DescSt→SortSt→Prop}(hm:m≤z.size) (h1:1≤a) (UB:a≤m) (hd:J4 kf (arrOf st) a)
  (h:∀n,a≤n→n≤m→J4 kf (arrOf st) n→Q (none,n,0) st):wpS (model prog w) A E s (descLoop a m) Q st:=by
 refine wpS_forRange (fun x c q=>q=st∧c=(none,x,0)∧J4 kf (arrOf st) x) (fun x c q hx J5 hI=>?_) (fun c q hI=>?_) ⟨rfl,rfl,hd⟩
 ·obtain⟨rfl,rfl,kJ⟩:=hI
  refine wpS_bind (pX C S (i:=x) (j:=x-1) (by omega) (by omega) ?_)
  dsimp only
  by_cases hc:kn kf (arrOf q) x<kn kf (arrOf q) (x-1)
  ·rw[decide_eq_true hc,if_pos rfl,if_neg (by decide)]
   exact wpS_pure ⟨rfl,rfl,kJ.step hc⟩
  ·rw[decide_eq_false hc,if_neg (by decide)]
   have:=S.ne hz (i:=x) (j:=x-1) (by omega) (by omega) (by omega)
   refine wpS_bind (pX C S (i:=x-1) (j:=x) (by omega) (by omega) ?_)
   dsimp only
   rw[decide_eq_true (by omega:kn kf (arrOf q) (x-1)<kn kf (arrOf q) x),if_pos rfl]
   exact wpS_pure (h x hx (Nat.le_of_lt J5) kJ)
 ·obtain⟨rfl,rfl,kJ⟩:=hI
  have e:max a m=m:=by omega
  rw[e] at kJ ⊢
  exact h m UB (Nat.le_refl m) kJ
theorem J4.turn {xs:Array Keyed}{n:Nat}(hn:n≤xs.size) (h:J4 kf xs n):Up kf (mirror xs 0 n ((n-0)/2)) n:=fun i j gP hj=>by
 have e:∀k,k<n→kn kf (mirror xs 0 n ((n-0)/2)) k=kn kf xs (0+n-1-k):=fun k hk=>mM (by rw[getElem?_mirror_all hn,if_pos ⟨Nat.zero_le k,hk⟩])
 rw[e i (by omega),e j hj]
 exact h _ _ (by omega) (by omega)
theorem Ia (C:pW prog w A s kd kf z) (hz:(z.toList.map kf).Nodup) (S:rj kd kf z st) {m:Nat}{Q:Option Nat→SortSt→Prop}(hm:m≤z.size) (h1:1≤m)
  (h:∀n q,rj kd kf z q→1≤n→n≤m→Up kf (arrOf q) n→Q (some n) q):wpS (model prog w) A E s (countRun' 0 m) Q st:=by
 rw[countRun0_eq]
 refine wpS_bind (AA C hz S hm (Nat.le_refl 1) h1 (fun i j a b=>by omega) fun n n1 nm hu ho=>?_)
 dsimp only
 by_cases hc:n=m
 ·rw[if_pos (by rw[hc];exact beq_self_eq_true m)]
  exact wpS_pure (h n st S n1 nm hu)
 rw[if_neg (by simpa using hc)]
 have bR:=ho.resolve_left hc
 by_cases h2:n > 1
 ·rw[if_pos h2]
  refine wpS_bind (pX C S (i:=0) (j:=n-1) (by omega) (by omega) ?_)
  dsimp only
  rw[decide_eq_true (hu 0 (n-1) (by omega) (by omega)),if_pos rfl]
  exact wpS_pure (h n st S n1 nm hu)
 ·obtain rfl:n=1:=by omega
  rw[if_neg h2]
  refine(wpS_bind (wpS_lift (wpAny_rule ⟨rfl,?_⟩)))
  refine wpS_bind (EB C hz S hm (by omega) (by omega) (fun i j a b=>?_) fun n n1 nm hd=>?_)
  ·obtain rfl:i=0:=by omega
   obtain rfl:j=1:=by omega
   exact bR
  dsimp only
  rw[if_neg (by decide)]
  refine(wpS_bind (wpS_reverse ?_))
  have S':=S.set (mirror_perm (arrOf st) 0 n ((n-0)/2))
  exact wpS_bind (AA C hz S' hm (by omega) nm (hd.turn (by rw[S.n];omega)) fun n' a b u _=>wpS_pure (h n' _ S' (by omega) b u))
theorem Ib (C:pW prog w A s kd kf z) (hz:(z.toList.map kf).Nodup) (S:rj kd kf z st) {n ok:Nat}{Q:Bool→SortSt→Prop}(hn:n≤z.size) (h1:1≤ok) (aV:ok≤n) (hu:Up kf (arrOf st) ok)
  (h:∀q,rj kd kf z q→Up kf (arrOf q) n→Q true q):wpS (model prog w) A E s (binarySort' 0 n ok) Q st:=by
 rw[binarySort'_eq]
 refine wpS_bind (wpS_mono (wpS_forRange (Q:=fun c q=>c=(none,())∧rj kd kf z q∧Up kf (arrOf q) n) (fun k c q=>c=(none,())∧rj kd kf z q∧Up kf (arrOf q) k) (fun k c q hk Ic hI=>?_) (fun c q hI=>?_) ⟨rfl,S,by rw[show max ok 1=ok by omega];exact hu⟩) fun c q hI=>?_)
 ·obtain⟨rfl,S',mD⟩:=hI
  have RT:k<z.size:=by omega
  have rk:k<(arrOf q).size:=by rw[S'.n];exact RT
  refine wpS_bind (wpS_mono (wpS_forRange (Q:=fun c r=>r=q∧∃l,c.1=none∧c.2.1=l∧l≤k∧(∀i,i<l→kn kf (arrOf q) i<kn kf (arrOf q) k)∧∀i,l≤i→i<k→kn kf (arrOf q) k<kn kf (arrOf q) i)
   (fun x c r=>r=q∧∃l u,c=(none,l,u)∧l≤u∧u≤k∧u-l≤k-x∧(∀i,i<l→kn kf (arrOf q) i<kn kf (arrOf q) k)∧∀i,u≤i→i<k→kn kf (arrOf q) k<kn kf (arrOf q) i)
   (fun x c r _ hx hI=>?_) (fun c r hI=>?_) ⟨rfl,0,k,rfl,Nat.zero_le k,Nat.le_refl k,by omega,fun i hi=>absurd hi (Nat.not_lt_zero i),fun i a b=>by omega⟩) fun c r hI=>?_)
  ·obtain⟨rfl,l,u,rfl,UC,Ie,hw,tI,BU⟩:=hI
   dsimp only
   by_cases vI:l ≥ u
   ·rw[if_pos vI]
    obtain rfl:l=u:=by omega
    exact wpS_pure ⟨rfl,l,rfl,rfl,Ie,tI,BU⟩
   rw[if_neg vI]
   refine wpS_bind (pX C S' (i:=0+k) (j:=0+(l+u)/2) (by omega) (by omega) ?_)
   rw[Nat.zero_add,Nat.zero_add]
   dsimp only
   by_cases hc:kn kf (arrOf r) k<kn kf (arrOf r) ((l+u)/2)
   ·rw[decide_eq_true hc,if_pos rfl]
    refine wpS_pure ⟨rfl,l,(l+u)/2,rfl,by omega,by omega,by omega,tI,fun i a b=>?_⟩
    rcases Nat.lt_or_ge ((l+u)/2) i with e|e
    ·exact Nat.lt_trans hc (mD _ _ e b)
    ·rwa [show i=(l+u)/2 by omega]
   ·rw[decide_eq_false hc,if_neg (by decide)]
    have eY:=S'.ne hz (i:=k) (j:=(l+u)/2) RT (by omega) (by omega)
    refine wpS_pure ⟨rfl,(l+u)/2+1,u,rfl,by omega,Ie,by omega,fun i a=>?_,BU⟩
    rcases Nat.lt_or_ge i ((l+u)/2) with e|e
    ·have:=mD i ((l+u)/2) e (by omega);omega
    ·rw[show i=(l+u)/2 by omega];omega
  ·obtain⟨rfl,l,u,rfl,UC,Ie,hw,tI,BU⟩:=hI
   obtain rfl:l=u:=by omega
   exact⟨rfl,l,rfl,rfl,Ie,tI,BU⟩
  ·obtain⟨rfl,l,e1,e2,hlk,tI,BU⟩:=hI
   obtain⟨c1,c2,c3⟩:=c
   obtain rfl:c1=none:=e1
   obtain rfl:c2=l:=e2
   show wpS _ _ _ _ (moveDown' (0+k) (0+c2) >>= fun _=>pure (ForInStep.yield (none,()))) _ _
   rw[moveDown'_eq,Nat.zero_add,Nat.zero_add]
   refine wpS_bind (wpS_modify (wpS_pure ⟨rfl,S'.set (bubble_perm _ _ _),fun i j gP hj=>?_⟩))
   have e:∀t,kn kf (bubble (arrOf r) k (k-c2)) t=if t=c2 then kn kf (arrOf r) k else if c2<t∧t≤k then kn kf (arrOf r) (t-1) else kn kf (arrOf r) t:=fun t=>by
    have g:=getElem?_bubble rk (k-c2) (by omega) t
    rw[show k-(k-c2)=c2 by omega] at g
    by_cases q1:t=c2
    ·rw[if_pos q1] at g ⊢;exact mM g
    ·rw[if_neg q1] at g ⊢
     by_cases q2:c2<t∧t≤k
     ·rw[if_pos q2] at g ⊢;exact mM g
     ·rw[if_neg q2] at g ⊢;exact mM g
   show kn kf (bubble (arrOf r) k (k-c2)) i<kn kf (bubble (arrOf r) k (k-c2)) j
   rw[e,e]
   by_cases i1:i=c2
   ·rw[if_pos i1,if_neg (by omega),if_pos (by omega)]
    exact BU _ (by omega) (by omega)
   ·rw[if_neg i1]
    by_cases i2:c2<i∧i≤k
    ·rw[if_pos i2,if_neg (by omega),if_pos (by omega)]
     exact mD _ _ (by omega) (by omega)
    ·rw[if_neg i2]
     by_cases j1:j=c2
     ·rw[if_pos j1];exact tI _ (by omega)
     ·rw[if_neg j1]
      by_cases j2:c2<j∧j≤k
      ·rw[if_pos j2]
       exact mD _ _ (by omega) (by omega)
      ·rw[if_neg j2];exact mD _ _ gP (by omega)
 ·obtain⟨rfl,S',mD⟩:=hI
  rw[show max (max ok 1) n=n by omega] at mD
  exact⟨rfl,S',mD⟩
 ·obtain⟨rfl,S',mD⟩:=hI
  exact wpS_pure (h q S' mD)
theorem Ig (C:pW prog w A s kd kf z) (hz:(z.toList.map kf).Nodup) (S:rj kd kf z st) {Q:Unit→SortSt→Prop}(h2:2≤z.size) (RU:z.size<64)
  (h:∀q,(arrOf q).Perm z→failedOf q=none→Up kf (arrOf q) z.size→Q () q):wpS (model prog w) A E s sortRuns' Q st:=by
 rw[sortRuns'_eq]
 refine wpS_bind (wpS_get ?_)
 have hmr:minRun' z.size z.size 0=z.size:=by
  match hs:z.size,h2,RU with
  | n+2,_,bR=>show (if n+2<64 then n+2+0 else _)=n+2;rw[if_pos bR]
 dsimp only
 rw[S.n,hmr]
 refine wpS_bind (wpS_mono (wpS_forRange (Q:=fun c q=>c=(none,z.size)∧(arrOf q).Perm z∧failedOf q=none∧(pendingOf q).size=1∧Up kf (arrOf q) z.size)
  (fun x c q=>(x=0∧c=(none,0)∧rj kd kf z q)∨(1≤x∧c=(none,z.size)∧(arrOf q).Perm z∧failedOf q=none∧(pendingOf q).size=1∧Up kf (arrOf q) z.size))
  (fun x c q _ hx hI=>?_) (fun c q hI=>?_) (.inl ⟨rfl,rfl,S⟩)) fun c q hI=>?_)
 ·rcases hI with⟨rfl,rfl,S'⟩|⟨x1,rfl,hp,hf,hg,hu⟩
  ·dsimp only
   rw[if_neg (by omega),Nat.sub_zero]
   refine wpS_bind (Ia C hz S' (Nat.le_refl _) (by omega) fun n r Sr n1 nz hu=>?_)
   dsimp only
   have fin:∀r,rj kd kf z r→Up kf (arrOf r) z.size→(1≤0+1∧((none,0+z.size):Option Unit×Nat)=(none,z.size)∧(arrOf (setPending r ((pendingOf r).push (0,z.size,0)))).Perm z∧failedOf (setPending r ((pendingOf r).push (0,z.size,0)))=none∧(pendingOf (setPending r ((pendingOf r).push (0,z.size,0)))).size=1∧Up kf (arrOf (setPending r ((pendingOf r).push (0,z.size,0)))) z.size):=fun r Sr hu =>
    ⟨by omega,by rw[Nat.zero_add],Sr.p,Sr.f,by show ((pendingOf r).push _).size=1;rw[Sr.g];rfl,hu⟩
   by_cases hc:n<z.size
   ·rw[if_pos hc]
    refine(wpS_bind (wpS_lift (wpAny_rule ⟨rfl,?_⟩)))
    rw[Nat.min_self]
    refine wpS_bind (Ib C hz Sr (Nat.le_refl _) n1 nz hu fun r2 S2 UD=>?_)
    rw[if_neg (by decide)]
    refine wpS_bind (wpS_get ?_)
    rw[show (pendingOf r2).back?=none by rw[S2.g];rfl]
    exact wpS_bind (wpS_modify (wpS_pure (.inr (fin r2 S2 UD))))
   ·obtain rfl:n=z.size:=by omega
    rw[if_neg hc]
    refine wpS_bind (wpS_get ?_)
    rw[show (pendingOf r).back?=none by rw[Sr.g];rfl]
    exact wpS_bind (wpS_modify (wpS_pure (.inr (fin r Sr hu))))
  ·dsimp only
   rw[if_pos (Nat.le_refl _)]
   exact wpS_pure ⟨rfl,hp,hf,hg,hu⟩
 ·rcases hI with⟨hx,_,_⟩|⟨_,rfl,hI⟩
  ·exfalso;omega
  ·exact⟨rfl,hI⟩
 ·obtain⟨rfl,hp,hf,hg,hu⟩:=hI
  dsimp only
  refine wpS_bind (wpS_mono (wpS_forRange (Q:=fun c r=>c.1=none∧r=q) (fun _ c r=>c.1=none∧r=q) (fun x c r _ hx hI=>?_) (fun c r hI=>hI) ⟨rfl,rfl⟩) fun c r hI=>?_)
  ·obtain⟨e,rfl⟩:=hI
   refine wpS_bind (wpS_get ?_)
   rw[if_pos (by rw[hg];exact Nat.le_refl 1)]
   exact wpS_pure ⟨rfl,rfl⟩
  ·obtain⟨e,rfl⟩:=hI
   rw[e]
   exact wpS_pure (h r hp hf hu)
theorem sE {o:Bool}{a b:Int}{t u:Tok}{Q:Bool→Shared→Prop}(h:Q (decide (a<b)) s):wpAny (model prog w) A (oneLt' o (.int a t) (.int b u)) Q E s:=by
 cases o with
 | true=>exact oneLt_int h
 | false =>
  rw[oneLt'_eq]
  simp only[Bool.false_eq_true,if_false,pure_bind]
  refine wpAny_bind (wpAny_richCompare_same (op:=.Lt) (T:="int") (typeIs_int s a t) (typeIs_int s b u) slot_int_lt (call_int_lt ⟨(by intro z;cases z),?_⟩))
  exact wpAny_truthy_bool h
theorem EC {c:Bool}{a b:Addr}{p q p' q':Int}{t u t' u':Tok}{o o':Obj}{n n':Nat}{Q:Bool→Shared→Prop}(h1:s.heap.get? a=some o) (d1:o.data = .seq #[.int p t,.int q u] n) (h2:s.heap.get? b=some o') (d2:o'.data = .seq #[.int p' t',.int q' u'] n')
  (h:Q (decide (p<p'∨(p=p'∧q<q'))) s):wpAny (model prog w) A (keyLt' (tuples' c) (.ref a) (.ref b)) Q E s:=by
 refine wpAny_bind (listItems_at h1 d1 ?_)
 refine wpAny_bind (listItems_at h2 d2 ?_)
 show wpAny _ _ (forIn [((Value.int p t,Value.int p' t'),0),((Value.int q u,Value.int q' u'),1)] _ _ >>= _) _ _ _
 refine wpAny_bind ?_
 rw[List.forIn_cons]
 refine wpAny_bind ?_
 refine(wpAny_bind (wpAny_eqBool_int ?_))
 by_cases e:p=p'
 ·subst e
  rw[if_neg (by simp)]
  refine wpAny_pure ?_
  dsimp only
  rw[List.forIn_cons]
  refine wpAny_bind ?_
  refine(wpAny_bind (wpAny_eqBool_int ?_))
  by_cases e2:q=q'
  ·subst e2
   rw[if_neg (by simp)]
   refine wpAny_pure ?_
   dsimp only
   rw[List.forIn_nil]
   refine(wpAny_pure (wpAny_pure ?_))
   have:decide (p<p∨p=p∧q<q)=decide (#[Value.int p t,Value.int q u].size < #[Value.int p t',Value.int q u'].size):=by
    rw[decide_eq_false (by omega),decide_eq_false (by show ¬(2<2);omega)]
   rw[←this];exact h
  ·rw[if_pos (by simpa using e2)]
   refine wpAny_bind (sE (o:=c&&1 == 0) (wpAny_pure (wpAny_pure (wpAny_pure ?_))))
   have:decide (p<p∨p=p∧q<q')=decide (q<q'):=by congr 1;exact propext ⟨fun z=>by omega,fun z=>.inr ⟨rfl,z⟩⟩
   rw[←this];exact h
 ·rw[if_pos (by simpa using e)]
  refine wpAny_bind (sE (o:=c&&0 == 0) (wpAny_pure (wpAny_pure (wpAny_pure ?_))))
  have:decide (p<p'∨p=p'∧q<q')=decide (p<p'):=by congr 1;exact propext ⟨fun z=>by omega,fun z=>.inl z⟩
  rw[←this];exact h
def Pr (h:Heap) (v:Value) (p q:Int):Prop:=∃a o t u n,v = .ref a∧h.get? a=some o∧o.cls = .type "tuple"∧o.data = .seq #[.int p t,.int q u] n
theorem sF:∀{vs:List Value}{Q:List (Option Value)→Shared→Prop},(∀v∈vs,∃p q,Pr s.heap v p q)→(∀fs:List (Option Value),(∀f∈fs,∃p t,f=some (.int p t))→Q fs s)→wpAny (model prog w) A (vs.mapM firstOfTuple') Q E s
 | [],Q,_,h=>by rw[List.mapM_nil];exact wpAny_pure (h [] fun _ z=>nomatch z)
 | v::r,Q,hv,h=>by
  rw[List.mapM_cons]
  obtain⟨p,q,a,o,t,u,n,rfl,ho,hc,hd⟩:=hv v mem_cons_self
  refine wpAny_bind ?_
  refine(wpAny_bind (wpAny_typeOf (T:="tuple") ⟨o,ho,hc⟩ ?_))
  rw[if_neg (by decide)]
  refine(wpAny_bind (listItems_at ho hd (wpAny_pure ?_)))
  refine wpAny_bind (sF (fun v Gg=>hv v (mem_cons_of_mem _ Gg)) fun fs RV=>wpAny_pure (h _ fun f hf=>?_))
  rcases List.mem_cons.mp hf with rfl|hf
  ·exact⟨p,t,rfl⟩
  ·exact RV f hf
theorem wF:∀{us:List Value}{Q:List Value→Shared→Prop},(∀v∈us,∃p t,v = .int p t)→(∀ts,Q ts s)→wpAny (model prog w) A (us.mapM typeOf) Q E s
 | [],Q,_,h=>by rw[List.mapM_nil];exact wpAny_pure (h [])
 | v::r,Q,hv,h=>by
  rw[List.mapM_cons]
  obtain⟨p,t,rfl⟩:=hv v mem_cons_self
  exact wpAny_bind (wpAny_typeOf (typeIs_int s p t) (wpAny_bind (wF (fun v Gg=>hv v (mem_cons_of_mem _ Gg)) fun ts=>wpAny_pure (h _))))
theorem yO {vs:List Value}{Q:SortKind→Shared→Prop}(hv:∀v∈vs,∃p q,Pr s.heap v p q) (h:∀c,Q (tuples' c) s):wpAny (model prog w) A (keyKind' vs.toArray) Q E s:=by
 rw[keyKind'_eq,List.mapM_toArray]
 refine wpAny_bind ?_
 show wpAny _ _ (List.toArray <$> vs.mapM firstOfTuple') _ _ _
 rw[map_eq_pure_bind]
 refine wpAny_bind (sF hv fun fs RV=>wpAny_pure ?_)
 rw[if_pos (by rw[List.all_toArray,all_eq_true];intro f hf;obtain⟨p,t,rfl⟩:=RV f hf;rfl)]
 refine(wpAny_bind (wpAny_rule ?_))
 refine wpAny_bind ?_
 rw[oneTypeOnly'_eq]
 refine wpAny_bind ?_
 rw[show (fs.toArray.filterMap id)=(fs.filterMap id).toArray by simp,List.mapM_toArray,map_eq_pure_bind]
 refine wpAny_bind (wF (fun v Gg=>?_) fun ts=>wpAny_pure ?_)
 ·obtain⟨f,hf,e⟩:=List.mem_filterMap.mp Gg
  obtain⟨p,t,rfl⟩:=RV f hf
  exact⟨p,t,(Option.some.inj e).symm⟩
 cases ts.toArray[0]? with
 | none=>exact wpAny_pure (wpAny_pure (h _))
 | some t=>exact wpAny_pure (wpAny_pure (h _))
theorem nN {f q:Addr}{vs:List Value}{J:List Value→Shared→Prop}{g:Value→PUnit→Sem (ForInStep PUnit)}{Q:PUnit→Shared→Prop}
  (hg:∀(x:Value) (s1:Shared) (R:ForInStep PUnit→Shared→Prop),wpAny (model prog w) A (call (.ref f) [x]) (fun k s2=>wpAny (model prog w) A (Builtin.List.listUpdate (.ref q) fun xs=>xs.push k) (fun _ s3=>R (.yield ⟨⟩) s3) E s2) (fun _ _=>False) s1→wpAny (model prog w) A (g x ⟨⟩) R E s1)
  (hc:∀(ks:List Value) (x:Value) (s1:Shared),vs[ks.length]?=some x→J ks s1→wpAny (model prog w) A (call (.ref f) [x]) (fun k s2=>wpAny (model prog w) A (Builtin.List.listUpdate (.ref q) fun xs=>xs.push k) (fun _ s3=>J (ks++[k]) s3) E s2) (fun _ _=>False) s1)
  (hd:∀ks s1,ks.length=vs.length→J ks s1→Q ⟨⟩ s1):∀(r:List Value) (ks:List Value) (s1:Shared),vs.drop ks.length=r→ks.length≤vs.length→J ks s1→wpAny (model prog w) A (forIn r ⟨⟩ g) Q E s1
 | [],ks,s1,hr,hl,hJ=>by
  rw[List.forIn_nil]
  exact wpAny_pure (hd ks s1 (by have:=congrArg List.length hr;rw[List.length_drop] at this;simp at this;omega) hJ)
 | x::r,ks,s1,hr,hl,hJ=>by
  rw[List.forIn_cons]
  have hx:vs[ks.length]?=some x:=by rw[←List.head?_drop,hr];rfl
  have bR:ks.length<vs.length:=(List.getElem?_eq_some_iff.mp hx).1
  refine wpAny_bind (hg x s1 _ (wpAny_mono (hc ks x s1 hx hJ) (fun k s2 h2=>wpAny_mono h2 (fun _ s3 h3=>?_) fun _ _ z=>z) fun _ _ z=>z))
  refine nN hg hc hd r (ks++[k]) s3 ?_ (by rw[length_append];exact bR) h3
  rw[length_append,show ks.length + [k].length=ks.length+1 from rfl,←List.drop_drop,hr];rfl
theorem Ih {l f:Addr}{vs:List Value}{n:Nat}{P:Fin→Shared→Prop}(J:Nat→List Value→Shared→Prop) (ho:s.heap.get? l=some (seqObj "list" vs.toArray n)) (hn:vs.length<64)
  (h0:∀ep,(s.heap.update l (Obj.mapSeq fun _=>#[])).get? l=some (seqObj "list" #[] ep)→J ep [] { s with heap:=((s.heap.update l (Obj.mapSeq fun _=>#[])).push (seqObj "tuple" vs.toArray 0)).push (seqObj "list" #[] 0) })
  (hc:∀(ep:Nat) (ks:List Value) (x:Value) (s1:Shared),vs[ks.length]?=some x→J ep ks s1→wpAny (model prog w) A (call (.ref f) [x]) (fun k s2=>wpAny (model prog w) A (Builtin.List.listUpdate (.ref (s.heap.objs.size+1)) fun xs=>xs.push k) (fun _ s3=>J ep (ks++[k]) s3) E s2) (fun _ _=>False) s1)
  (hd:∀(ep:Nat) (ks:List Value) (s1:Shared),ks.length=vs.length→J ep ks s1→∃(m:Nat) (kf:Keyed→Nat),s1.heap.get? (s.heap.objs.size+1)=some (seqObj "list" ks.toArray m)∧s1.heap.get? l=some (seqObj "list" #[] ep)∧s.heap.objs.size+1≠l ∧
   (∀k∈ks,∃p q,Pr s1.heap k p q)∧((ks.zip vs).map kf).Nodup∧(∀c,pW prog w A s1 (tuples' c) kf (ks.toArray.zip vs.toArray)) ∧
   ∀xs:Array Keyed,xs.Perm (ks.toArray.zip vs.toArray)→Up kf xs vs.length→P (.done (.ret .none)) { s1 with heap:=(s1.heap.update (s.heap.objs.size+1) (Obj.mapSeq fun _=>#[])).update l (Obj.mapSeq fun _=>xs.map (·.2)) }) :
  wpAny (model prog w) A (Builtin.«list.sort» ⟨[.ref l],[("key",.ref f)]⟩) P E s:=by
 have e0:([("key",Value.ref f)]:List (Str×Value)).lookup ("key":Str)=some (.ref f):=rfl
 have e1:([("key",Value.ref f)]:List (Str×Value)).lookup ("reverse":Str)=none:=rfl
 unfold Builtin.«list.sort»
 dsimp only
 rw[if_neg (by show ¬(0+1 > 2);decide),if_neg (by show ¬((!true)=true);decide)]
 refine wpAny_bind ?_
 rw[List.forIn_cons]
 refine wpAny_bind ?_
 rw[if_neg (by show ¬((("key":Str) != "key"&&("key":Str) != "reverse")=true);decide)]
 refine wpAny_pure ?_
 dsimp only
 rw[List.forIn_nil]
 refine wpAny_pure ?_
 rw[e1,e0]
 refine(wpAny_bind (wpAny_pure ?_))
 have hf:(((some (Value.ref f)).getD Value.none != Value.none)=true):=rfl
 refine(wpAny_bind (listItems_at ho rfl ?_))
 refine(wpAny_bind (listUpdate_at ho rfl ?_))
 obtain⟨ep,Lh⟩:∃ep,(s.heap.update l (Obj.mapSeq fun _=>#[])).get? l=some (seqObj "list" #[] ep):=⟨_,get?_update_seq ho (fun _=>#[])⟩
 refine(wpAny_bind (seqEpoch_at Lh rfl ?_))
 refine(wpAny_bind (wpAny_newTuple ?_))
 refine(wpAny_bind (wpAny_newList ?_))
 refine wpAny_holding ?_
 rw[if_pos hf]
 refine(wpAny_bind (wpAny_rule ?_))
 refine wpAny_bind ?_
 have hsz:(s.heap.update l (Obj.mapSeq fun _=>#[])).objs.size=s.heap.objs.size:=Heap.size_update ..
 show wpAny _ _ (forIn vs.toArray PUnit.unit _) _ _ { s with heap:=((s.heap.update l (Obj.mapSeq fun _=>#[])).push (seqObj "tuple" vs.toArray 0)).push (seqObj "list" #[] 0) }
 rw[List.forIn_toArray]
 refine nN (f:=f) (q:=s.heap.objs.size+1) (vs:=vs) (J:=J ep) (fun x s1 R hx=>?_) (hc ep) (fun ks s1 rk hJ=>?_) vs [] _ rfl (Nat.zero_le _) (h0 ep Lh)
 ·refine wpAny_bind (wpAny_attempt (wpAny_mono hx (fun k s2 h2=>?_) fun _ _ z=>False.elim z))
  dsimp only
  refine wpAny_bind ?_
  rw[size_push',hsz]
  exact wpAny_mono h2 (fun _ s3 h3=>wpAny_pure h3) fun _ _ z=>z
 ·obtain⟨m,kf,hq,hl,eY,Nr,vH,LM,hP⟩:=hd ep ks s1 rk hJ
  rw[if_pos hf]
  simp only[size_push',hsz]
  refine wpAny_bind (listItems_at hq rfl ?_)
  rw[if_neg (by decide)]
  have hsv:vs.toArray.size=vs.length:=by simp
  have big:(64:Nat)≤sizeLine:=Nat.le_trans (by decide) fQ
  by_cases h2:(vs.toArray.size<2)
  ·rw[if_pos h2]
   refine(wpAny_bind (wpAny_pure ?_))
   rw[if_pos h2]
   refine wpAny_bind (wpAny_mono (Q:=fun a s'=>s'=s1∧(arrOf a.2).Perm (ks.toArray.zip vs.toArray)∧failedOf a.2=none∧Up kf (arrOf a.2) vs.length) ?_ ?_ fun _ _ z=>z)
   ·rw[StateT.run_pure]
    exact wpAny_pure ⟨rfl,Array.Perm.refl _,rfl,fun i j a b=>by omega⟩
   ·rintro⟨⟨⟩,st⟩ s' ⟨rfl,hp,ED,LO⟩
    rw[if_pos hf]
    have Nt:(ks.toArray.zip vs.toArray).size=vs.length:=by simp[rk]
    refine wpAny_bind (listUpdate_at hq rfl ?_ (by rw[List.size_toArray];omega) (Nat.zero_le _))
    refine(wpAny_bind (wpAny_letGo ?_))
    have vG:(s'.heap.update (s.heap.objs.size+1) (Obj.mapSeq fun _=>#[])).get? l=some (seqObj "list" #[] ep):=(Heap.get?_update_other _ _ eY).trans hl
    refine wpAny_bind (seqEpoch_at vG rfl ?_)
    refine wpAny_bind (listUpdate_at vG rfl ?_ (Nat.zero_le _) (by rw[if_neg (by decide),Array.size_map];have nj:(arrOf st).size=_:=hp.size_eq;show (arrOf st).size≤_;omega))
    dsimp only at ED
    rw[show (sortPriv% PySem.Builtin.SortState.failed) (((),st):Unit×SortSt).snd=none from ED]
    dsimp only
    rw[if_neg (by simp)]
    exact wpAny_pure (hP (arrOf st) hp LO)
  ·rw[if_neg h2]
   refine wpAny_bind (yO Nr fun c=>?_)
   rw[if_neg h2]
   refine wpAny_bind (wpAny_mono (Q:=fun a s'=>s'=s1∧(arrOf a.2).Perm (ks.toArray.zip vs.toArray)∧failedOf a.2=none∧Up kf (arrOf a.2) vs.length) ?_ ?_ fun _ _ z=>z)
   ·have Nt:(ks.toArray.zip vs.toArray).size=vs.length:=by simp[rk]
    have UE:((ks.toArray.zip vs.toArray).toList.map kf).Nodup:=by simpa using vH
    refine Ig (kd:=tuples' c) (kf:=kf) (z:=ks.toArray.zip vs.toArray) (st:=SortSt.mk' (tuples' c) (ks.toArray.zip vs.toArray) #[] 7 none) (Q:=fun _ q=>(arrOf q).Perm (ks.toArray.zip vs.toArray)∧failedOf q=none∧Up kf (arrOf q) vs.length) (LM c) UE ⟨Array.Perm.refl _,rfl,rfl,rfl⟩ (by omega) (by omega) fun q q1 q2 q3=>⟨q1,q2,?_⟩
    rw[←Nt];exact q3
   ·rintro⟨⟨⟩,st⟩ s' ⟨rfl,hp,ED,LO⟩
    rw[if_pos hf]
    have Nt:(ks.toArray.zip vs.toArray).size=vs.length:=by simp[rk]
    refine wpAny_bind (listUpdate_at hq rfl ?_ (by rw[List.size_toArray];omega) (Nat.zero_le _))
    refine(wpAny_bind (wpAny_letGo ?_))
    have vG:(s'.heap.update (s.heap.objs.size+1) (Obj.mapSeq fun _=>#[])).get? l=some (seqObj "list" #[] ep):=(Heap.get?_update_other _ _ eY).trans hl
    refine wpAny_bind (seqEpoch_at vG rfl ?_)
    refine wpAny_bind (listUpdate_at vG rfl ?_ (Nat.zero_le _) (by rw[if_neg (by decide),Array.size_map];have nj:(arrOf st).size=_:=hp.size_eq;show (arrOf st).size≤_;omega))
    dsimp only at ED
    rw[show (sortPriv% PySem.Builtin.SortState.failed) (((),st):Unit×SortSt).snd=none from ED]
    dsimp only
    rw[if_neg (by simp)]
    exact wpAny_pure (hP (arrOf st) hp LO)
theorem sG {α β:Type}(g:α→β) {zs ys:List β}(h:zs.Perm ys):∀T:List α,T.map g=ys→∃T':List α,T'.Perm T∧T'.map g=zs:=by
 induction h with
 | nil=>intro T e;exact⟨T,.refl T,e⟩
 | cons x _ ih =>
  intro T e
  match T,e with
  | a::r,e =>
   rw[List.map_cons] at e
   obtain⟨e1,e2⟩:=List.cons.inj e
   obtain⟨r',p,q⟩:=ih r e2
   exact⟨a::r',p.cons a,by rw[List.map_cons,e1,q]⟩
 | swap x y l =>
  intro T e
  match T,e with
  | a::b::r,e =>
   rw[List.map_cons,List.map_cons] at e
   obtain⟨e1,e'⟩:=List.cons.inj e
   obtain⟨e2,e3⟩:=List.cons.inj e'
   exact⟨b::a::r,.swap a b r,by rw[List.map_cons,List.map_cons,e1,e2,e3]⟩
 | trans _ _ OY LI =>
  intro T e
  obtain⟨T1,p1,q1⟩:=LI T e
  obtain⟨T2,p2,q2⟩:=OY T1 q1
  exact⟨T2,p2.trans p1,q2⟩
noncomputable def rm (h:Heap) (x:Keyed):Nat:=match x.1 with
 | .ref c=>(match h.get? c with
  | some ob=>(match ob.data with
   | .seq its _=>(match its.toList with
    | [.int p _,.int q _]=>p.toNat*2^64+q.toNat
    | _=>0)
   | _=>0)
  | none=>0)
 | _=>0
theorem um {h:Heap}{v u:Value}{p q:Int}(e:Pr h v p q):rm h (v,u)=p.toNat*2^64+q.toNat:=by
 obtain⟨a,o,t,t',n,rfl,ho,_,hd⟩:=e
 unfold rm
 simp only[ho,hd]
theorem Ii {prog:Program}{w:World}{A:Around}{s:Shared}{c:Bool}{z:Array Keyed}(hz:∀x∈z.toList,∃p q,Pr s.heap x.1 p q∧0≤p∧0≤q∧q<2^64):pW prog w A s (tuples' c) (rm s.heap) z:=by
 intro x y Q E hx hy h
 obtain⟨p,q,e1,p0,q0,q1⟩:=hz x hx
 obtain⟨p',q',e2,p0',q0',q1'⟩:=hz y hy
 obtain⟨x1,x2⟩:=x
 obtain⟨y1,y2⟩:=y
 rw[um e1,um e2] at h
 obtain⟨a,o,t,t',n,rfl,ho,_,hd⟩:=e1
 obtain⟨a',o',u,u',n',rfl,jq,_,kJ⟩:=e2
 refine EC ho hd jq kJ ?_
 have:decide (p<p'∨p=p'∧q<q')=decide (p.toNat*2^64+q.toNat<p'.toNat*2^64+q'.toNat):=by
  congr 1
  refine propext ⟨fun z=>?_,fun z=>?_⟩
  ·omega
  ·omega
 rw[this];exact h
theorem mO (a b:Value):argsOk "sorted" ⟨[a],[("key",b)]⟩:=by unfold argsOk;kernel_rfl
theorem pY (a b:Value):argsOk "list.sort" ⟨[a],[("key",b)]⟩:=by unfold argsOk;kernel_rfl
def kv (kp:V→Int×Int) (x:V):Nat:=(kp x).1.toNat*2^64+(kp x).2.toNat
def yP (l:Addr) (ep:Nat):HO:=.ext fun h=>h.get? l=some (seqObj "list" #[] ep)
def SJ (X:Cx) (π:List (Addr×Obj)) (σ:St) (H:Hp) (kp:V→Int×Int) (xs:List V) (l q:Addr) (ep:Nat) (ks:List Value) (s1:Shared):Prop :=
 ∃(H1:Hp) (as:List Addr),Inv X π σ H1 s1∧aq H H1∧H1 l=some (yP l ep)∧H1 q=some (.lst (as.map V.ref))∧ks=as.map Value.ref∧∀(i:Nat) (x:V) (a:Addr),xs[i]?=some x→as[i]?=some a→H1 a=some (.tup [.int (kp x).1,.int (kp x).2])
theorem nO:∀{as:List Addr}{its:List Value},Vals (as.map V.ref) its→its=as.map Value.ref
 | [],_,h=>by cases h;rfl
 | a::r,_,h=>by
  cases h with
  | cons h1 h2=>rw[nO h2,show _=Value.ref a from h1];rfl
variable {X:Cx}{π:List (Addr×Obj)}{σ:St}{H:Hp}{k:Nat}{f:Addr}{fd:FuncData}{p:Str}{sp:Sp}{l0:Addr}{xs:List V}{kp:V→Int×Int}{Q:VK}
theorem OZ {H1:Hp}{s1:Shared}{a:Addr}{u v:Int}(I:Inv X π σ H1 s1) (e:H1 a=some (.tup [.int u,.int v])):Pr s1.heap (.ref a) u v:=by
 obtain⟨_,its,r,o,ho,hc,n,hd⟩:=I.aV a _ e
 obtain⟨w1,w2,rfl,⟨t,rfl⟩,⟨t',rfl⟩⟩:=r.two
 exact⟨a,o,t,t',n,rfl,ho,hc,hd⟩
theorem EE (F:fj X.prog X.w X.K X.mg X.base aS k f fd [p] sp) (hb:Binds X.K fd [p] []) (hr:bF (k+2) X.A)
  (hk:∀x H1 (Q':VK),x∈xs→aq H H1→(∀q H2,aq H1 H2→H2 q=some (.tup [.int (kp x).1,.int (kp x).2])→Q' (.ref q) H2)→sp [x] H1 Q' E0)
  {vs:List Value}(r:Vals xs vs) (hn:xs.length<64) {l q:Addr}(UG:l≠q) (UH:H q=none) (ep:Nat) (ks:List Value) (x:Value) (s1:Shared) (hx:vs[ks.length]?=some x) (hJ:SJ X π σ H kp xs l q ep ks s1) :
  wpAny (model X.prog X.w) X.A.in1.in1 (call (.ref f) [x]) (fun c s2=>wpAny (model X.prog X.w) X.A.in1.in1 (Builtin.List.listUpdate (.ref q) fun xs=>xs.push c) (fun _ s3=>SJ X π σ H kp xs l q ep (ks++[c]) s3) X.xe s2) (fun _ _=>False) s1:=by
 obtain⟨H1,as,I1,Ij,EF,Ik,rfl,J6⟩:=hJ
 rw[length_map] at hx
 have bR:as.length<xs.length:=by rw[r.length];exact(List.getElem?_eq_some_iff.mp hx).1
 obtain⟨y,hy⟩:∃y,xs[as.length]?=some y:=⟨xs[as.length],getElem?_eq_getElem bR⟩
 obtain⟨u,hu,ru⟩:=r.get hy
 rw[hx] at hu
 cases hu
 have pF:y∈xs:=mem_of_getElem? hy
 have hp:=hk y H1 (fun v H2=>∃a,v = .ref a∧aq H1 H2∧H2 a=some (.tup [.int (kp y).1,.int (kp y).2])) pF Ij fun a H2 s2 e2=>⟨a,rfl,s2,e2⟩
 refine wpAny_call (codeAny_mono (F.run X.A.in1.in1 X.stack s1 H1 ⟨[x],[]⟩ [x] [y] _ E0 hr.in1.in1 I1.BC.in1.in1 (hb s1 [x] I1.oG rfl) (.cons ru .nil) hp) fun r' s2 nj=>?_)
 cases r' with
 | error e=>exact nj
 | ok fl =>
  cases fl with
  | next=>exact nj
  | brk=>exact nj
  | cont=>exact nj
  | ret c =>
   obtain⟨v,H2,I2,rv,a,rfl,J7,ea⟩:=I1.after nj
   obtain rfl:c = .ref a:=rv
   have Gr:=J7 _ _ Ik
   obtain⟨hz,its,n,ri,RH,eo⟩:=I2.yw Gr
   obtain rfl:=nO ri
   refine listUpdate_at eo rfl ?_ (by rw[←RH] at *;simpa using hz) (by rw[Array.size_push,List.size_toArray,length_map];have:=fQ;omega)
   have e2:(as.map Value.ref).toArray.push (Value.ref a)=(as.map Value.ref++[Value.ref a]).toArray:=by simp
   have I3:=I2.G8 (t':=s2.toks) (f:=fun xs=>xs.push (.ref a)) (ys:=(as++[a]).map V.ref) (its':=as.map Value.ref++[Value.ref a]) Gr eo e2 (by rw[List.map_append];exact ri.append (.cons rfl .nil)) (by rw[length_map,length_append];have:=fQ;show as.length+1≤_;omega)
   have hqa:∀b o,H2 b=some (.tup o)→b≠q:=fun b o e z=>by rw[z,Gr] at e;cases e
   refine⟨_,as++[a],I3,(Ij.trans J7).upd UH,?_,aj,by simp,fun i z b yB jt=>?_⟩
   ·rw[aA UG];exact J7 _ _ EF
   ·rcases Nat.lt_or_ge i as.length with hi|hi
    ·rw[getElem?_append_left hi] at jt
     have:=J7 _ _ (J6 i z b yB jt)
     rw[aA (hqa _ _ this)];exact this
    ·have uk:i=as.length:=by
      have:=(List.getElem?_eq_some_iff.mp jt).1
      rw[length_append] at this
      have:i<as.length+1:=this
      omega
     subst uk
     rw[getElem?_append_right (Nat.le_refl _),Nat.sub_self] at jt
     cases jt
     rw[hy] at yB
     cases yB
     rw[aA (hqa _ _ ea)];exact ea
end
end L2
set_option maxHeartbeats 4000000
namespace L2
open PySem PySem.Spec PyProof.Rows
theorem uo:∀{T:List (V×Keyed)},(∀t∈T,RelV t.1 t.2.2)→Vals (T.map (·.1)) (T.map (·.2.2))
 | [],_=>.nil
 | t::r,h=>.cons (h t mem_cons_self) (uo fun t' LP=>h t' (mem_cons_of_mem _ LP))
section
variable {X:Cx}{π:List (Addr×Obj)}{σ:St}{H:Hp}{s:Shared}{k:Nat}{f:Addr}{fd:FuncData}{p:Str}{sp:Sp}{l0:Addr}{xs:List V}{kp:V→Int×Int}{Q:VK}
theorem yQ (F:fj X.prog X.w X.K X.mg X.base aS k f fd [p] sp) (hb:Binds X.K fd [p] []) (hr:bF (k+2) X.A) (I:Inv X π σ H s) (hl:bP X.K H l0 xs) (hn:xs.length<64)
  (hk:∀x H1 (Q':VK),x∈xs→aq H H1→(∀q H2,aq H1 H2→H2 q=some (.tup [.int (kp x).1,.int (kp x).2])→Q' (.ref q) H2)→sp [x] H1 Q' E0)
  (wG:∀x∈xs,0≤(kp x).1∧0≤(kp x).2∧(kp x).2<2^64) (vH:(xs.map (kv kp)).Nodup)
  (hQ:∀l H' ws,aq H H'→H l=none→H' l=some (.lst ws)→ws.Perm xs→ws.Pairwise (fun x y=>kv kp x<kv kp y)→Q (.ref l) H') :
  wpAny (model X.prog X.w) X.A (call (.builtin "sorted") [.ref l0] [("key",.ref f)]) (EP X π σ Q) X.xe s:=by
 obtain⟨vs,r,⟨o,n,ho,hc,hdc,hd⟩,hz⟩:=I.list hl
 have hlen:=r.length
 have UI:s.heap.IsList l0 vs.toArray:=⟨o,ho,hc,n,hd⟩
 refine call_function_entry_kw kind_sorted plain_sorted entry_sorted (mO _ _) ?_
 unfold Builtin.«sorted»
 refine(wpAny_bind (m:=checkCount "sorted" 1 1 _) (wpAny_pure ?_))
 have lb:=fQ
 refine wpAny_bind (collect_list UI ?_ (by omega))
 refine wpAny_bind (wpAny_newList ?_ (by omega))
 have hsz:((s.heap.push (seqObj "list" #[] 0)).update s.heap.objs.size (Obj.mapSeq (·++vs.toArray))).objs.size=s.heap.objs.size+1:=(Heap.size_update ..).trans (size_push' ..)
 have wH:∀b u,s.heap.get? b=some u→(((s.heap.push (seqObj "list" #[] 0)).update s.heap.objs.size (Obj.mapSeq (·++vs.toArray))).push (seqObj "list" vs.toArray 0)).get? b=some u:=fun b u e=>by
  have:b≠s.heap.objs.size:=Nat.ne_of_lt (Heap.lt_size e)
  exact Heap.get?_push_of_some _ ((Heap.get?_update_other _ _ (Ne.symm this)).trans (Heap.get?_push_of_some _ e))
 have uq:(((s.heap.push (seqObj "list" #[] 0)).update s.heap.objs.size (Obj.mapSeq (·++vs.toArray))).push (seqObj "list" vs.toArray 0)).get? (s.heap.objs.size+1)=some (seqObj "list" vs.toArray 0):=by
  (rw[←hsz];exact Heap.get?_push_size _ rfl)
 have LQ:(((s.heap.push (seqObj "list" #[] 0)).update s.heap.objs.size (Obj.mapSeq (·++vs.toArray))).push (seqObj "list" vs.toArray 0)).objs.size=s.heap.objs.size+2:=by rw[size_push',hsz]
 change wpAny _ _ _ _ _ { s with heap:=((s.heap.push (seqObj "list" #[] 0)).update s.heap.objs.size (Obj.mapSeq (·++vs.toArray))).push (seqObj "list" vs.toArray 0) }
 rw[show ((s.heap.push (seqObj "list" #[] 0)).update s.heap.objs.size (Obj.mapSeq (·++vs.toArray))).objs.size=s.heap.objs.size+1 from hsz]
 generalize ((s.heap.push (seqObj "list" #[] 0)).update s.heap.objs.size (Obj.mapSeq (·++vs.toArray))).push (seqObj "list" vs.toArray 0)=h1 at wH uq LQ ⊢
 generalize hL:s.heap.objs.size+1=l at uq ⊢
 have CV:h1.objs.size=l+1:=by omega
 have LR:H l=none:=I.aV.fresh (by omega)
 have LS:H (l+2)=none:=I.aV.fresh (by omega)
 refine wpAny_bind (wpAny_holding (wpAny_call_entry_kw slot_list_sort ⟨_,uq,rfl⟩ entry_list_sort (Ih (s:={ s with heap:=h1 }) (SJ X π σ H kp xs l (l+2)) uq (by omega) (fun ep UJ=>?_) (fun ep ks x s1 hx hJ=>?_) (fun ep ks s1 rk hJ=>?_)) (pY _ _)))
 ·have eY:∀b u,s.heap.get? b=some u→b≠l:=fun b u e=>Nat.ne_of_lt (Nat.lt_of_lt_of_le (Heap.lt_size e) (by omega))
  have kA:∀b u,s.heap.get? b=some u→((h1.update l (Obj.mapSeq fun _=>#[])).push (seqObj "tuple" vs.toArray 0)).get? b=some u:=fun b u e =>
   Heap.get?_push_of_some _ ((Heap.get?_update_other _ _ (Ne.symm (eY b u e))).trans (wH b u e))
  have eA:((h1.update l (Obj.mapSeq fun _=>#[])).push (seqObj "tuple" vs.toArray 0)).get? l=some (seqObj "list" #[] ep):=Heap.get?_push_of_some _ UJ
  have zA:((h1.update l (Obj.mapSeq fun _=>#[])).push (seqObj "tuple" vs.toArray 0)).objs.size=l+2:=by rw[size_push',Heap.size_update,CV]
  have IA:Inv X π σ (upd H l (yP l ep)) { s with heap:=(h1.update l (Obj.mapSeq fun _=>#[])).push (seqObj "tuple" vs.toArray 0) } :=
   I.laid (t':=s.toks) kA (by omega) ⟨eA,⟨_,eA⟩,fun _ _ e kk=>kk _ e⟩
  generalize (h1.update l (Obj.mapSeq fun _=>#[])).push (seqObj "tuple" vs.toArray 0)=hA at kA eA zA IA ⊢
  have IB:=IA.Oj (t':=s.toks) (ys:=[]) (its:=[]) .nil (Nat.zero_le _)
  have UK:({ s with heap:=hA }:Shared).heap.objs.size=l+2:=zA
  rw[UK] at IB
  refine⟨_,[],IB,(aq.new LR).trans (aq.new ?_),?_,aj,rfl,fun i x b _ jt=>by cases jt⟩
  ·rw[aA (Nat.ne_of_gt (by omega:l<l+2))];exact LS
  ·rw[aA (Nat.ne_of_lt (by omega:l<l+2)),aj]
 ·have e:({ s with heap:=h1 }:Shared).heap.objs.size+1=l+2:=by show h1.objs.size+1=_;rw[CV]
  rw[e]
  exact EE F hb hr hk r hn (Nat.ne_of_lt (by omega:l<l+2)) LS ep ks x s1 hx hJ
 ·obtain⟨H1,as,I1,Ij,EF,Ik,rfl,J6⟩:=hJ
  have e:({ s with heap:=h1 }:Shared).heap.objs.size+1=l+2:=by show h1.objs.size+1=_;rw[CV]
  rw[e]
  rw[length_map] at rk
  obtain⟨_,its,m,ri,_,eo⟩:=I1.yw Ik
  obtain rfl:=nO ri
  have eL:s1.heap.get? l=some (seqObj "list" #[] ep):=(I1.aV l _ EF).1
  have Nr:∀(i:Nat) (x:V),xs[i]?=some x→∃b,as[i]?=some b∧Pr s1.heap (.ref b) (kp x).1 (kp x).2:=fun i x hx=>by
   have hi:i<as.length:=by rw[rk,←hlen];exact(List.getElem?_eq_some_iff.mp hx).1
   exact⟨as[i],getElem?_eq_getElem hi,OZ I1 (J6 i x _ hx (getElem?_eq_getElem hi))⟩
  have UL:∀(i:Nat) (b:Addr),as[i]?=some b→∃x,xs[i]?=some x∧x∈xs:=fun i b jt=>by
   have hi:i<xs.length:=by rw[hlen,←rk];exact(List.getElem?_eq_some_iff.mp jt).1
   exact⟨xs[i],getElem?_eq_getElem hi,List.getElem_mem hi⟩
  have BV:∀(i:Nat) (x:V),xs[i]?=some x→∃b u,as[i]?=some b∧vs[i]?=some u∧RelV x u∧((as.map Value.ref).zip vs)[i]?=some (.ref b,u)∧Pr s1.heap (.ref b) (kp x).1 (kp x).2∧rm s1.heap (.ref b,u)=kv kp x:=fun i x hx=>by
   obtain⟨b,e1,e2⟩:=Nr i x hx
   obtain⟨u,hu,ru⟩:=r.get hx
   exact⟨b,u,e1,hu,ru,List.getElem?_zip_eq_some.mpr ⟨by rw[getElem?_map,e1];rfl,hu⟩,e2,um e2⟩
  have Nu:((as.map Value.ref).zip vs).length=xs.length:=by rw[List.length_zip,length_map];omega
  have EG:∀y,y∈(as.map Value.ref).zip vs→∃i x,xs[i]?=some x∧x∈xs∧((as.map Value.ref).zip vs)[i]?=some y:=fun y hy=>by
   obtain⟨i,hi⟩:=mem_iff_getElem?.mp hy
   have bR:i<xs.length:=by rw[←Nu];exact(List.getElem?_eq_some_iff.mp hi).1
   exact⟨i,xs[i],getElem?_eq_getElem bR,List.getElem_mem bR,hi⟩
  have ez:((as.map Value.ref).zip vs).map (rm s1.heap)=xs.map (kv kp):=by
   apply List.ext_getElem?
   intro i
   rw[getElem?_map,getElem?_map]
   cases hx:xs[i]? with
   | none =>
    rw[getElem?_eq_none (by rw[Nu];exact List.getElem?_eq_none_iff.mp hx)];rfl
   | some x =>
    obtain⟨b,u,_,_,_,e3,_,e5⟩:=BV i x hx
    rw[e3]
    show some (rm s1.heap (.ref b,u))=some (kv kp x)
    rw[e5]
  have O0:((as.map Value.ref).toArray.zip vs.toArray).toList=(as.map Value.ref).zip vs:=by simp
  refine⟨m,rm s1.heap,eo,eL,Nat.ne_of_gt (by omega:l<l+2),?_,?_,?_,?_⟩
  ·intro kx UM
   obtain⟨b,jt,rfl⟩:=List.mem_map.mp UM
   obtain⟨i,hi⟩:=mem_iff_getElem?.mp jt
   obtain⟨x,hx,_⟩:=UL i b hi
   obtain⟨b2,e1,e2⟩:=Nr i x hx
   rw[hi] at e1
   cases e1
   exact⟨_,_,e2⟩
  ·rw[ez];exact vH
  ·intro c
   refine Ii fun y hy=>?_
   rw[O0] at hy
   obtain⟨i,x,hx,hm,e⟩:=EG y hy
   obtain⟨b,u,_,_,_,e3,e4,_⟩:=BV i x hx
   rw[e] at e3
   cases e3
   obtain⟨b1,b2,b3⟩:=wG x hm
   exact⟨_,_,e4,b1,b2,b3⟩
  ·intro zs UN O1
   refine⟨_,rfl,wpAny_pure ⟨_,rfl,?_⟩⟩
   have LU:zs.toList.Perm ((as.map Value.ref).zip vs):=by rw[←O0];exact Array.perm_iff_toList_perm.mp UN
   have J8:(xs.zip ((as.map Value.ref).zip vs)).map Prod.snd=(as.map Value.ref).zip vs:=List.map_snd_zip (by omega)
   have UO:(xs.zip ((as.map Value.ref).zip vs)).map Prod.fst=xs:=List.map_fst_zip (by omega)
   have hT:∀t∈xs.zip ((as.map Value.ref).zip vs),RelV t.1 t.2.2∧rm s1.heap t.2=kv kp t.1:=fun t ht=>by
    obtain⟨i,hi⟩:=mem_iff_getElem?.mp ht
    obtain⟨e1,e2⟩:=List.getElem?_zip_eq_some.mp hi
    obtain⟨b,u,_,_,ru,e3,_,e5⟩:=BV i t.1 e1
    rw[e2] at e3
    have:t.2=(.ref b,u):=Option.some.inj e3
    rw[this]
    exact⟨ru,e5⟩
   obtain⟨T,hp,hm⟩:=sG Prod.snd LU _ J8
   have Nv:∀t∈T,RelV t.1 t.2.2∧rm s1.heap t.2=kv kp t.1:=fun t ht=>hT t (hp.mem_iff.mp ht)
   have hv:=uo fun t ht=>(Nv t ht).1
   have O2:(T.map (·.1)).Perm xs:=by have:=hp.map Prod.fst;rw[UO] at this;exact this
   have K2:(T.map (·.1)).length≤sizeLine:=by rw[O2.length_eq];omega
   have UP:zs.map (·.2)=(T.map (·.2.2)).toArray:=by
    apply Array.toList_inj.mp
    rw[Array.toList_map,←hm,List.map_map];rfl
   rw[UP]
   have I2:=I1.G8 (t':=s1.toks) (f:=fun _=>#[]) (ys:=[]) (its':=[]) Ik eo rfl .nil (Nat.zero_le _)
   have O3:(s1.heap.update (l+2) (Obj.mapSeq fun _=>#[])).get? l=some (seqObj "list" #[] ep):=(Heap.get?_update_other _ _ (Nat.ne_of_gt (by omega:l<l+2))).trans eL
   have Il:=get?_update_seq O3 (fun _=>(T.map (·.2.2)).toArray)
   have vG:upd H1 (l+2) (.lst []) l=some (yP l ep):=by rw[aA (Nat.ne_of_lt (by omega:l<l+2))];exact EF
   have mu:GD (upd H1 (l+2) (.lst []) l):=by rw[vG];exact trivial
   have I3:Inv X π σ (upd (upd H1 (l+2) (.lst [])) l (.lst (T.map (·.1)))) { s1 with heap:=(s1.heap.update (l+2) (Obj.mapSeq fun _=>#[])).update l (Obj.mapSeq fun _=>(T.map (·.2.2)).toArray) }:=by
    generalize s1.heap.update (l+2) (Obj.mapSeq fun _=>#[])=h5 at I2 O3 Il ⊢
    have kk:∀b u,b≠l→h5.get? b=some u→(h5.update l (Obj.mapSeq fun _=>(T.map (·.2.2)).toArray)).get? b=some u:=fun b u jt hu=>(Heap.get?_update_other _ _ (Ne.symm jt)).trans hu
    generalize h5.update l (Obj.mapSeq fun _=>(T.map (·.2.2)).toArray)=h6 at Il kk ⊢
    exact I2.write (t':=s1.toks) (h':=h6) mu (.inl rfl) kk ⟨_,Il⟩ ⟨K2,_,_,hv,Il⟩
   refine⟨.ref l,_,I3,rfl,hQ l _ _ ((Ij.upd LS).upd LR) LR aj O2 ?_⟩
   rw[pairwise_map,List.pairwise_iff_getElem]
   intro i j hi hj gP
   have hTl:T.length=vs.length:=by have:=hp.length_eq;rw[List.length_zip] at this;omega
   have g:∀i (hi:i<T.length),kn (rm s1.heap) zs i=kv kp (T[i]).1:=fun i hi=>by
    rw[←(Nv _ (List.getElem_mem hi)).2]
    unfold kn
    have:zs[i]?=some (T[i]).2:=by rw[←Array.getElem?_toList,←hm,getElem?_map,getElem?_eq_getElem hi];rfl
    rw[this];rfl
   have:=O1 i j gP (by omega)
   rw[g i hi,g j hj] at this
   exact this
def J9 (K:Frag) (sp:Sp) (Q:VK) (x:V) (H1:Hp):Prop:=∃(l0:Addr) (xs:List V) (kp:V→Int×Int),x = .ref l0∧bP K H1 l0 xs∧xs.length<64 ∧
 (∀x H2 (Q':VK),x∈xs→aq H1 H2→(∀q H3,aq H2 H3→H3 q=some (.tup [.int (kp x).1,.int (kp x).2])→Q' (.ref q) H3)→sp [x] H2 Q' E0) ∧
 (∀x∈xs,0≤(kp x).1∧0≤(kp x).2∧(kp x).2<2^64)∧(xs.map (kv kp)).Nodup ∧
 ∀l H' ws,aq H1 H'→H1 l=none→H' l=some (.lst ws)→ws.Perm xs→ws.Pairwise (fun x y=>kv kp x<kv kp y)→Q (.ref l) H'
def O4 (K:Frag) (sp:Sp) (te:TE):TE:=fun σ H Q=>te σ H (J9 K sp Q)
def O5 (W:V→Hp→Prop):List V→Hp→Prop
 | [x],H=>W x H
 | _,_=>False
variable {x:Str}{pn:Pos}{pk:Pos}{GW:Pos}{pos:Pos}{e:Expr}{te:TE}
theorem BW (K:Frag) (C:bh X.prog X.w X.K X.mg X.base aS k x [p] sp) (hr:bF (k+2) X.A) (gH:X.mg "sorted"=none) (ha:PE X e te) (LV:Gl X "sorted":=by rfl) (hg:Gl X x:=by rfl) (oJ:(x == ("__debug__":Str))=false:=by decide) (hK:X.K=K:=by rfl)
  (hv:bootBuiltins "sorted"=some (.builtin "sorted"):=by decide +kernel) (he:starEach [e] X.env=[(false,eval e X.env)]:=by rfl) :
  PE X (.Call (.Name "sorted" pn) [e] [⟨some "key",.Name x pk,GW⟩] pos) (O4 K sp te):=by
 subst hK
 obtain⟨f,fd,F,hm,kp',hb⟩:=C.ex
 intro π s σ H Q I h
 refine wpAny_Call_Name_kw (jE I LV gH hv ?_ (by decide) (by decide))
 refine callWith_kw (bL ((aa ha ah he:PA X [e] _) pos π s σ H (O5 (J9 X.K sp Q)) I h) fun us s1 ⟨vs,H1,I1,r,q⟩=>?_) (by rw[he];rfl) (by rw[he];rfl)
 match vs,r,q with
 | [v],r,q =>
  obtain⟨u,rfl,ru⟩:=r.one
  obtain⟨l0,xs,kp,rfl,hl,hn,hk,wG,vH,hQ⟩:=q
  obtain rfl:u = .ref l0:=ru
  refine kws_cons (gR I1 hg hm (kws_nil ?_) oJ)
  exact yQ F hb hr I1 hl hn hk wG vH hQ
def isT:Value→Bool
 | .bool b=>b
 | _=>false
def RW:V→List V→Hp→VK→Prop:=fun x vs H Q=>∃(l:Addr) (bs:List Bool),x = .ref l∧vs=[.bl true]∧H l=some (.lst (bs.map V.bl))∧Q (.int (bs.countP id:Nat)) H
end
end L2
namespace TC
open PySem L2
end TC
namespace L2
open PySem PySem.Spec PyProof.Rows
section
variable {κ:Type}[DecidableEq κ]
noncomputable def dc (aB:List (κ×V)) (k:κ):Option V:=(aB.find? fun kv=>decide (kv.1=k)).map (·.2)
noncomputable def putK (aB:List (κ×V)) (k:κ) (v:V):List (κ×V) :=
 if (aB.any fun kv=>decide (kv.1=k))=true then aB.map (fun kv=>if kv.1=k then (kv.1,v) else kv) else aB++[(k,v)]
def O6 (aB:List (κ×V)) (k:κ):List (κ×V):=aB.filter fun kv=>decide (kv.1≠k)
theorem du {p:κ×V}{r:List (κ×V)}{k:κ}(e:p.1=k):dc (p::r) k=some p.2:=by simp[dc,List.find?_cons,e]
theorem dw {p:κ×V}{r:List (κ×V)}{k:κ}(e:¬p.1=k):dc (p::r) k=dc r k:=by simp[dc,List.find?_cons,e]
theorem iF (k:κ):∀aB:List (κ×V),(aB.any fun kv=>decide (kv.1=k))=(dc aB k).isSome
 | []=>rfl
 | p::r=>by
  rw[List.any_cons]
  by_cases e:p.1=k
  ·simp only[du e,decide_eq_true e,Bool.true_or,Option.isSome_some]
  ·rw[dw e,decide_eq_false e,Bool.false_or];exact iF k r
theorem wI (k j:κ) (y:V):∀aB:List (κ×V),dc (aB.map fun kv=>if kv.1=k then (kv.1,y) else kv) j=(dc aB j).map fun x=>if j=k then y else x
 | []=>rfl
 | p::r=>by
  have ih:=wI k j y r
  rw[List.map_cons]
  by_cases h:p.1=k
  ·rw[if_pos h]
   by_cases e:p.1=j
   ·rw[du (p:=(p.1,y)) e,du e,Option.map_some,if_pos (e.symm.trans h)]
   ·rw[dw (p:=(p.1,y)) e,dw e,ih]
  ·rw[if_neg h]
   by_cases e:p.1=j
   ·rw[du (p:=p) e,du e,Option.map_some,if_neg (fun z=>h (e.trans z))]
   ·rw[dw (p:=p) e,dw e,ih]
theorem sH (k j:κ) (y:V):∀aB:List (κ×V),dc aB k=none→dc (aB++[(k,y)]) j=if j=k then some y else dc aB j
 | [],_=>by
  by_cases e:k=j
  ·rw[if_pos e.symm];exact du (p:=(k,y)) e
  ·rw[if_neg (fun z=>e z.symm)];exact dw (p:=(k,y)) e
 | p::r,hn=>by
  rw[List.cons_append]
  have hk:¬p.1=k:=fun z=>by rw[du z] at hn;cases hn
  rw[dw hk] at hn
  have ih:=sH k j y r hn
  by_cases e:p.1=j
  ·rw[du e,du e,if_neg (fun z=>hk (e.trans z))]
  ·rw[dw e,dw e,ih]
theorem pZ (aB:List (κ×V)) (k j:κ) (y:V):dc (putK aB k y) j=if j=k then some y else dc aB j:=by
 unfold putK
 by_cases a:(aB.any fun kv=>decide (kv.1=k))=true
 ·rw[if_pos a,wI]
  rw[iF] at a
  by_cases e:j=k
  ·obtain⟨x,hx⟩:=Option.isSome_iff_exists.mp a
   rw[if_pos e,e,hx,Option.map_some,if_pos rfl]
  ·rw[if_neg e]
   cases dc aB j with
   | none=>rfl
   | some x=>rw[Option.map_some,if_neg e]
 ·rw[if_neg a]
  refine sH k j y aB ?_
  rw[iF] at a
  cases q:dc aB k with
  | none=>rfl
  | some x=>rw[q] at a;exact(a rfl).elim
theorem jU (aB:List (κ×V)) (k:κ) (v:V):(putK aB k v).length≤aB.length+1:=by
 unfold putK
 split
 ·rw[length_map];omega
 ·rw[length_append,List.length_cons,List.length_nil];omega
theorem EH {aB:List (κ×V)}{k:κ}(v:V) (h:dc aB k=none):putK aB k v=aB++[(k,v)]:=by
 unfold putK
 rw[iF,h]
 exact if_neg (by decide)
theorem iC.nP {o:Option V}{u:Option Value}(r:iC o u):o.isSome=u.isSome:=by
 cases o with
 | none=>cases u with
  | none=>rfl
  | some _=>exact(show False from r).elim
 | some _=>cases u with
  | none=>exact(show False from r).elim
  | some _=>rfl
theorem KV.val {aB:List (κ×V)}{vs:List (κ×Value)}(r:KV aB vs) (k:κ):iC (dc aB k) (valueAt vs k):=by
 unfold KV at r
 induction r with
 | nil=>exact True.intro
 | @cons p q ps qs h t ih =>
  obtain⟨h1,h2⟩:=h
  by_cases e:p.1=k
  ·have e':q.1=k:=h1.symm.trans e
   have b:valueAt (q::qs) k=some q.2:=by simp[valueAt,List.find?_cons,e']
   rw[du e,b];exact h2
  ·have e':¬q.1=k:=fun z=>e (h1.trans z)
   have b:valueAt (q::qs) k=valueAt qs k:=by simp[valueAt,List.find?_cons,e']
   rw[dw e,b];exact ih
theorem KV.any {aB:List (κ×V)}{vs:List (κ×Value)}(r:KV aB vs) (k:κ):(aB.any fun kv=>decide (kv.1=k))=vs.any fun kv=>decide (kv.1=k):=by
 unfold KV at r
 induction r with
 | nil=>rfl
 | cons h t ih=>rw[List.any_cons,List.any_cons,ih,h.1]
theorem KV.LW {aB:List (κ×V)}{vs:List (κ×Value)}(r:KV aB vs) (k:κ) {y:V}{u:Value}(ry:RelV y u) :
  KV (aB.map fun kv=>if kv.1=k then (kv.1,y) else kv) (vs.map fun kv=>if kv.1=k then (kv.1,u) else kv):=by
 unfold KV at r ⊢
 induction r with
 | nil=>exact .nil
 | @cons p q ps qs h t ih =>
  rw[List.map_cons,List.map_cons]
  refine .cons ?_ ih
  obtain⟨h1,h2⟩:=h
  by_cases e:p.1=k
  ·rw[if_pos e,if_pos (h1.symm.trans e)];exact⟨h1,ry⟩
  ·rw[if_neg e,if_neg (fun z=>e (h1.trans z))];exact⟨h1,h2⟩
theorem KV.put {aB:List (κ×V)}{vs:List (κ×Value)}(r:KV aB vs) (k:κ) {y:V}{u:Value}(ry:RelV y u):KV (putK aB k y) (stored vs k u):=by
 unfold putK stored
 rw[r.any k]
 by_cases e:(vs.any fun kv=>decide (kv.1=k))=true
 ·rw[if_pos e,if_pos e];exact r.LW k ry
 ·rw[if_neg e,if_neg e];exact Paired.snoc r ⟨rfl,ry⟩
theorem KV.length {aB:List (κ×V)}{vs:List (κ×Value)}(r:KV aB vs):aB.length=vs.length:=Paired.length r
end
theorem AB {P:Program}{w:World}{k:Key}{u:Value}(r:RelV (kV k) u):(df P w).is k u=true:=by
 cases k with
 | inl i=>obtain⟨t,e⟩:=(show ∃t,u=Value.int i t from r);subst e;exact vL P w i t
 | inr x=>obtain⟨t,e⟩:=(show ∃t,u=Value.str x t from r);subst e;exact vM P w x t
theorem sI {P:Program}{w:World}:∀{ks:List Key}{us:List Value},Vals (ks.map kV) us→ItemsAre (df P w) ks us
 | [],_,r=>by rw[List.map_nil] at r;cases r;exact .nil
 | k::ks,_,r=>by
  rw[List.map_cons] at r
  cases r with
  | cons h t=>exact .cons (AB h) (sI t)
abbrev KT (H:Hp):List (List Key×V)→List (List Key×Addr×Value)→Prop:=Paired fun p q=>p.1=q.1∧H q.2.1=some (.tup (p.1.map kV))∧RelV p.2 q.2.2
theorem KT.val {H:Hp}{aB:List (List Key×V)}{xs:List (List Key×Addr×Value)}(r:KT H aB xs) (k:List Key):iC (dc aB k) ((atKey xs k).map (·.2)):=by
 induction r with
 | nil=>exact True.intro
 | @cons p q ps qs h t ih =>
  obtain⟨h1,_,h2⟩:=h
  by_cases e:p.1=k
  ·have e':q.1=k:=h1.symm.trans e
   have b:atKey (q::qs) k=some q.2:=by simp[atKey,List.find?_cons,e']
   rw[du e,b];exact h2
  ·have e':¬q.1=k:=fun z=>e (h1.trans z)
   have b:atKey (q::qs) k=atKey qs k:=by simp[atKey,List.find?_cons,e']
   rw[dw e,b];exact ih
theorem KT.LW {H:Hp}{aB:List (List Key×V)}{xs:List (List Key×Addr×Value)}(r:KT H aB xs) (k:List Key) {y:V}{u:Value}(ry:RelV y u) :
  KT H (aB.map fun kv=>if kv.1=k then (kv.1,y) else kv) (xs.map (putAt k u)):=by
 induction r with
 | nil=>exact .nil
 | @cons p q ps qs h t ih =>
  rw[List.map_cons,List.map_cons]
  refine .cons ?_ ih
  obtain⟨h1,h2,h3⟩:=h
  unfold putAt
  by_cases e:p.1=k
  ·rw[if_pos e,if_pos (h1.symm.trans e)];exact⟨h1,h2,ry⟩
  ·rw[if_neg e,if_neg (fun z=>e (h1.trans z))];exact⟨h1,h2,h3⟩
theorem KT.put {H:Hp}{aB:List (List Key×V)}{xs:List (List Key×Addr×Value)}(r:KT H aB xs) (k:List Key) {b:Addr}{y:V}{u:Value}(hb:H b=some (.tup (k.map kV))) (ry:RelV y u) :
  KT H (putK aB k y) (storedH xs k b u):=by
 have e:(aB.any fun kv=>decide (kv.1=k))=(atKey xs k).isSome:=by
  rw[iF,(r.val k).nP,Option.isSome_map]
 unfold putK storedH
 rw[e]
 by_cases q:(atKey xs k).isSome=true
 ·rw[if_pos q,if_pos q];exact r.LW k ry
 ·rw[if_neg q,if_neg q];exact Paired.snoc r ⟨rfl,hb,ry⟩
theorem KT.keeps {H H':Hp}{aB:List (List Key×V)}{xs:List (List Key×Addr×Value)}(r:KT H aB xs) (ht:∀b ys,H b=some (.tup ys)→H' b=some (.tup ys)):KT H' aB xs :=
 Paired.Kz r fun _ _ z=>⟨z.1,ht _ _ z.2.1,z.2.2⟩
section
variable {P:Program}{w:World}{H:Hp}{h:Heap}{a:Addr}
theorem Ka {u:HO}(ok:iB P w H h) (e:Rd H a u):bI P w H h a u:=e.ok ok
theorem EI {aB:List (Key×V)}(ok:iB P w H h) (e:Rd H a (.dK aB)):aB.length≤sizeLine∧(a == sysModules)=false∧∃vs,KV aB vs∧h.DictOf (df P w) a vs :=
 show bI P w H h a (.dK aB) from Ka ok e
theorem Kb {aB:List (Key×V)}(ok:iB P w H h) (e:H a=some (.dK aB)):aB.length≤sizeLine∧(a == sysModules)=false∧∃vs,KV aB vs∧h.DictOf (df P w) a vs:=EI ok (.inl e)
theorem ur {ks:List Key}(ok:iB P w H h) (e:H a=some (.tup (ks.map kV))):(tupleKind (df P w)).is h ks a:=by
 obtain⟨_,its,r,o,h1,h2,n,h3⟩:=(show bI P w H h a (.tup (ks.map kV)) from ok a _ e)
 exact⟨o,its.toArray,n,h1,h2,h3,by simpa using sI r⟩
theorem EJ {aB:List (List Key×V)}(ok:iB P w H h) (e:Rd H a (.dT aB)):aB.length≤sizeLine∧(a == sysModules)=false ∧
  ∃xs,KT H aB xs∧h.DictOfH (tupleKind (df P w)) a xs:=by
 obtain⟨z,y,xs,r,o,es,ep,h1,h2,h3,h4,h5⟩:=(show bI P w H h a (.dT aB) from Ka ok e)
 refine⟨z,y,xs,r,o,es,ep,h1,h2,h3,h4,fun x hx=>?_,h5⟩
 have all:∀{l:List (List Key×V)}{m:List (List Key×Addr×Value)},KT H l m→∀x∈m,(tupleKind (df P w)).is h x.1 x.2.1:=by
  intro l m q
  induction q with
  | nil=>intro x hx;exact nomatch hx
  | @cons p q ps qs hq t ih =>
   intro x hx
   rcases List.mem_cons.mp hx with e|hx
   ·subst e
    exact ur ok (by rw[←hq.1];exact hq.2.1)
   ·exact ih x hx
 exact all r x hx
theorem O7 {aB:List (List Key×V)}(ok:iB P w H h) (e:H a=some (.dT aB)):aB.length≤sizeLine∧(a == sysModules)=false ∧
  ∃xs,KT H aB xs∧h.DictOfH (tupleKind (df P w)) a xs:=EJ ok (.inl e)
def wJ (H:Hp) (a:Addr) (y:V) (r:Option V):Prop :=
 (∃aB k,Rd H a (.dK aB)∧y=kV k∧r=dc aB k)∨∃aB k b,Rd H a (.dT aB)∧y = .ref b∧H b=some (.tup (k.map kV))∧r=dc aB k
def Im (H:Hp) (a:Addr) (y v:V) (H':Hp):Prop :=
 (∃aB k,H a=some (.dK aB)∧y=kV k∧aB.length<sizeLine∧H'=upd H a (.dK (putK aB k v))) ∨
 ∃aB k b,H a=some (.dT aB)∧y = .ref b∧H b=some (.tup (k.map kV))∧aB.length<sizeLine∧H'=upd H a (.dT (putK aB k v))
theorem wJ.k {H:Hp}{a:Addr}{aB:List (Key×V)}{k:Key}(e:H a=some (.dK aB)):wJ H a (kV k) (dc aB k):=.inl ⟨aB,k,.inl e,rfl,rfl⟩
theorem Im.k {H:Hp}{a:Addr}{aB:List (Key×V)}{k:Key}{v:V}(e:H a=some (.dK aB)) (hl:aB.length<sizeLine):Im H a (kV k) v (upd H a (.dK (putK aB k v))):=.inl ⟨aB,k,e,rfl,hl,rfl⟩
variable {X:Cx}{π:List (Addr×Obj)}{σ:St}{s:Shared}{y:V}{v:V}{u:Value}{r:Value}{o:Option V}{A:Around}{E:Value→Shared→Prop}
theorem Inv.big (I:Inv X π σ H s):sysModules<s.heap.objs.size:=by
 have h:mainGlobals<s.heap.objs.size:=(I.mod.glob.keeps I.bk).lt
 exact Nat.lt_trans (by decide) h
theorem BX {Q:Value→Shared→Prop}(hu:A.units+1<cLine) (I:Inv X π σ H s) (g:wJ H a y (some v)) (ry:RelV y u) (h:∀w' s',Inv X π σ H s'→RelV v w'→Q w' s') :
  wpAny (model X.prog X.w) A (getItem (.ref a) u) Q E s:=by
 rcases g with⟨aB,k,e,ey,l⟩|⟨aB,k,b,e,ey,eb,l⟩
 ·subst ey
  obtain⟨z,hd,vs,rel,dd⟩:=EI I.aV e
  obtain⟨w',hw,KY⟩:=iC.some_of (v:=v) (o:=valueAt vs k) (by rw[l];exact rel.val k)
  exact wpAny_getItem_of (AB ry) dd.mapOf hw (h w' _ (I.tok _) KY)
 ·subst ey
  cases (show u=Value.ref b from ry)
  obtain⟨z,hd,xs,rel,dd⟩:=EJ I.aV e
  obtain⟨w',hw,KY⟩:=iC.some_of (v:=v) (o:=(atKey xs k).map (·.2)) (by rw[l];exact rel.val k)
  obtain⟨p,hp,Nw⟩:=Option.map_eq_some_iff.mp hw
  refine wpAny_getItem_heap (tupleKind_room_in1 hu) (ur I.aV eb) dd hp ?_
  rw[Nw]
  exact h w' _ (I.tok _) KY
theorem Io {Q:Value→Shared→Prop}(hu:A.units+1<cLine) (I:Inv X π σ H s) (g:wJ H a y o) (ry:RelV y u) (h:∀s',Inv X π σ H s'→Q (.bool (!o.isSome)) s') :
  wpAny (model X.prog X.w) A (compareOp .NotIn u (.ref a)) Q E s:=by
 rcases g with⟨aB,k,e,ey,l⟩|⟨aB,k,b,e,ey,eb,l⟩
 ·subst ey
  obtain⟨z,hd,vs,rel,dd⟩:=EI I.aV e
  refine wpAny_notIn_of (AB ry) hd dd.mapOf ?_
  rw[←(rel.val k).nP,←l]
  exact h _ (I.tok _)
 ·subst ey
  cases (show u=Value.ref b from ry)
  obtain⟨z,hd,xs,rel,dd⟩:=EJ I.aV e
  refine wpAny_notIn_heap (tupleKind_room_in1 hu) (ur I.aV eb) hd dd ?_
  have q:=(rel.val k).nP
  rw[Option.isSome_map] at q
  rw[←q,←l]
  exact h _ (I.tok _)
theorem AD {h':Heap}{t':Nat}{ob:HO}(I:Inv X π σ H s) (mu:GD (H a)) (hs:Heap.SameBut a s.heap h') (he:∃q,h'.get? a=some q) (new:bI X.prog X.w (upd H a ob) h' a ob) :
  Inv X π σ (upd H a ob) { s with heap:=h',toks:=t' } :=
 I.write (x:=a) (e:=a) mu (.inl rfl) (fun b q hb z=>(hs.2 b hb).trans z) he new
theorem LX {P:Program}{w:World}{H':Hp}{h':Heap}{aB:List (Key×V)}{vs:List (Key×Value)}(z:aB.length≤sizeLine) (hd:(a == sysModules)=false) (rel:KV aB vs) (dd:h'.DictOf (df P w) a vs) :
  bI P w H' h' a (.dK aB):=⟨z,hd,vs,rel,dd⟩
theorem BY {H':Hp}{Q:Unit→Shared→Prop}(hu:A.units+1<cLine) (I:Inv X π σ H s) (g:Im H a y v H') (ry:RelV y u) (rv:RelV v r) (h:∀s',Inv X π σ H' s'→Q () s') :
  wpAny (model X.prog X.w) A (setItem (.ref a) u r) Q E s:=by
 rcases g with⟨aB,k,e,ey,l,eH⟩|⟨aB,k,b,e,ey,eb,l,eH⟩
 ·subst ey eH
  obtain⟨z,hd,vs,rel,dd⟩:=Kb I.aV e
  have hz:vs.length≤sizeLine:=by rw[←rel.length];exact z
  have hl:(putK aB k v).length≤sizeLine:=by have:=jU aB k v;omega
  refine wpAny_setItem_pairs (hsz:=hz) (AB ry) dd fun h' RX hs=>h _ ?_
  have he:∃q,h'.get? a=some q:=let ⟨q,_,_,hq,_⟩:=RX;⟨q,hq⟩
  exact AD I (by rw[e];exact True.intro) hs he (LX hl hd (rel.put k rv) RX)
 ·subst ey eH
  cases (show u=Value.ref b from ry)
  obtain⟨z,hd,xs,rel,dd⟩:=O7 I.aV e
  have hz:xs.length≤sizeLine:=by rw[←Paired.length rel];exact z
  have hl:(putK aB k v).length≤sizeLine:=by have:=jU aB k v;omega
  refine wpAny_setItem_heap (hsz:=hz) (tupleKind_room_in1 hu) (ur I.aV eb) dd fun h' RX hs=>h _ ?_
  obtain⟨q,es,ep,hq,h2,h3,h4,_,h5⟩:=RX
  refine AD I (by rw[e];exact True.intro) hs ⟨q,hq⟩ ⟨hl,hd,_,(rel.put k eb rv).keeps fun c ys ec=>?_,q,es,ep,hq,h2,h3,h4,h5⟩
  rw[aA (oj ec e (fun z=>nomatch z))]
  exact ec
def RawD (h:Heap) (d:Addr) (es:Array DictEntry) (ep:Nat):Prop:=∃o,h.get? d=some o∧o.ExactDict∧o.data = .dict es ep
variable {P0:Program}{w0:World}{A0:Around}{E1:Value→Shared→Prop}{s0:Shared}{I:Addr}{d:Addr}{es:Array DictEntry}{ep:Nat}{i:Nat}
def UQ:List V→Hp→VK→Prop:=fun xs H Q=>∃(a:Addr) (aB:List (List Key×V)),xs=[.ref a]∧H a=some (.dT aB) ∧
 ∀(bs:List Addr) (l:Addr),bs.length=aB.length→(∀(i:Nat) b k v,bs[i]?=some b→aB[i]?=some (k,v)→H b=some (.tup (k.map kV)))→H l=none→Q (.ref l) (upd H l (.lst (bs.map V.ref)))
def rInD:R2:=fun x y H Q=>∃(a b:Addr) (aB:List (List Key×V)) (k:List Key),x = .ref b∧y = .ref a∧H a=some (.dT aB)∧H b=some (.tup (k.map kV))∧Q (.bl (dc aB k).isSome) H
def rSetD:Bs:=fun o i v H Q=>∃(a b:Addr) (aB:List (List Key×V)) (k:List Key),o = .ref a∧i = .ref b∧H a=some (.dT aB)∧H b=some (.tup (k.map kV))∧aB.length<sizeLine∧Q (upd H a (.dT (putK aB k v)))
def tD1 (tk tv:TE):TE:=fun σ H Q=>∀p,H p=none→tk σ (upd H p (.dT [])) fun x H1=>tv σ H1 fun y H2=>∃(b:Addr) (k:List Key),x = .ref b∧H2 b=some (.tup (k.map kV))∧H2 p=some (.dT [])∧Q (.ref p) (upd H2 p (.dT [(k,y)]))
def rEqTs (K:Frag):R2:=fun x y H Q=>∃(p q:Addr) (as bs:List Addr) (e:Nat→Bool),x = .ref p∧y = .ref q∧bP K H p (as.map V.ref)∧bP K H q (bs.map V.ref)∧as.length=bs.length ∧
 (∀(j:Nat) a b,as[j]?=some a→bs[j]?=some b→(a=b∧e j=true)∨(a≠b∧∃xs ys,eV K H a xs∧eV K H b ys∧xs.all e8=true∧ys.all e8=true∧hZ xs ys=e j))∧Q (.bl ((List.range as.length).all e)) H
end
end L2
namespace TC
open PySem L2
structure Pds (rs ps:List Rw):Prop where
 n:ps.Nodup
 s:∀p∈ps,Sn rs p
 u:ig∈ps
 c:∀p∈ps,∀r∈rs,bx p r∈ps
def sJ (rs:List Rw) (n:Nat):Nat→Rw
 | 0=>ig
 | i+1=>if n.testBit i=true then bx (sJ rs n i) (ra rs i) else sJ rs n i
def pm (rs:List Rw) (n:Nat):Rw:=sJ rs n rs.length
theorem uu {rs:List Rw}(n:Nat):∀i,i≤rs.length→Sn rs (sJ rs n i)
 | 0,_=>.ig
 | i+1,h=>by
  unfold sJ
  have ih:=uu (rs:=rs) n i (by omega)
  split
  ·exact .mul ih (mem_of_getElem? (dS (by omega)))
  ·exact ih
theorem EK (rs:List Rw) (n:Nat):Sn rs (pm rs n):=uu n _ (Nat.le_refl _)
theorem AE {m:Nat}{rs:List Rw}(c:Cm m rs) {a b:Rw}(ha:Sn rs a) (hb:Sn rs b):bx a b=bx b a:=mK (Sn.ag c ha hb)
theorem O8 {m:Nat}{rs:List Rw}(c:Cm m rs) {a:Rw}(ha:Sn rs a):bx a a=ig:=pV (Sn.good c ha).2 (Sn.good c ha).1.s
theorem AF {m:Nat}{rs:List Rw}(c:Cm m rs) (n k:Nat):∀i,i≤rs.length→sJ rs (n^^^k) i=bx (sJ rs n i) (sJ rs k i)
 | 0,_=>by unfold sJ;rw[gj]
 | i+1,h=>by
  have ih:=AF c n k i (by omega)
  have hn:=uu (rs:=rs) n i (by omega)
  have hk:=uu (rs:=rs) k i (by omega)
  have hr:Sn rs (ra rs i):=.gen (mem_of_getElem? (dS (by omega)))
  unfold sJ
  rw[Nat.testBit_xor,ih]
  generalize sJ rs n i=a at hn;generalize sJ rs k i=b at hk;generalize ra rs i=r at hr
  cases n.testBit i<;>cases k.testBit i
  ·rfl
  ·show bx (bx a b) r=bx a (bx b r);rw[bC]
  ·show bx (bx a b) r=bx (bx a r) b
   rw[bC,AE c hk hr,←bC]
  ·show bx a b=bx (bx a r) (bx b r)
   rw[bC,←bC r b r,AE c hr hk,bC b r r,O8 c hr,gj]
theorem uv {m:Nat}{rs:List Rw}(c:Cm m rs) (n k:Nat):pm rs (n^^^k)=bx (pm rs n) (pm rs k):=AF c n k _ (Nat.le_refl _)
theorem AG {rs:List Rw}(i:Nat):∀j,sJ rs (2^i) j=if i<j then bx ig (ra rs i) else ig
 | 0=>by unfold sJ;rw[if_neg (by omega)]
 | j+1=>by
  unfold sJ
  rw[Nat.testBit_two_pow,AG i j]
  by_cases e:i=j
  ·subst e
   rw[if_pos (by simp),if_neg (by omega),if_pos (by omega)]
  ·rw[if_neg (by simpa using e)]
   by_cases h:i<j
   ·rw[if_pos h,if_pos (by omega)]
   ·rw[if_neg h,if_neg (by omega)]
theorem LY {rs:List Rw}{i:Nat}(h:i<rs.length):pm rs (2^i)=ra rs i:=by unfold pm;rw[AG,if_pos h,uc]
theorem AH {m:Nat}{rs ds:List Rw}(F:Fr m rs ds) (n:Nat) {j:Nat}(hj:j<rs.length):∀i,i≤rs.length→sy (sJ rs n i) (ra ds j)=(decide (j<i)&&n.testBit j)
 | 0,_=>by
  unfold sJ
  have:sy ig (ra ds j)=false:=by
   unfold sy ig
   simp
  rw[this];simp
 | i+1,h=>by
  have ih:=AH F n hj i (by omega)
  unfold sJ
  by_cases e:i=j
  ·subst e
   cases ht:n.testBit i with
   | true =>
    rw[if_pos rfl,iX,ih,F.d i i (by omega) (by omega)]
    simp
   | false=>rw[if_neg (by decide),ih];simp[ht]
  ·have hd:decide (j<i+1)=decide (j<i):=by
    by_cases h':j<i
    ·rw[decide_eq_true h',decide_eq_true (by omega)]
    ·rw[decide_eq_false h',decide_eq_false (by omega)]
   rw[hd]
   split
   ·rw[iX,ih,F.d i j (by omega) (by omega),decide_eq_false e,Bool.xor_false]
   ·exact ih
theorem EL {m:Nat}{rs ds:List Rw}(F:Fr m rs ds) (n:Nat) {j:Nat}(hj:j<rs.length):sy (pm rs n) (ra ds j)=n.testBit j:=by
 unfold pm
 rw[AH F n hj _ (Nat.le_refl _),decide_eq_true hj,Bool.true_and]
theorem LZ {m:Nat}{rs ds:List Rw}(F:Fr m rs ds) {n k:Nat}(hn:n<2^rs.length) (hk:k<2^rs.length) (hx:(pm rs n).x=(pm rs k).x) (hz:(pm rs n).z=(pm rs k).z):n=k:=by
 refine Nat.eq_of_testBit_eq fun j=>?_
 by_cases hj:j<rs.length
 ·rw[←EL F n hj,←EL F k hj,HL hx hz rfl rfl]
 ·rw[Nat.testBit_lt_two_pow (Nat.lt_of_lt_of_le hn (Nat.pow_le_pow_right (by decide) (by omega))),Nat.testBit_lt_two_pow (Nat.lt_of_lt_of_le hk (Nat.pow_le_pow_right (by decide) (by omega)))]
def sc (s:Int) (r:Rw):Rw:=⟨s*r.sg,r.x,r.z⟩
theorem L0 (s:Int) (a b:Rw):bx (sc s a) b=sc s (bx a b):=by
 unfold bx sc
 simp only[Rw.mk.injEq,and_true]
 unfold chg
 split
 ·rw[Int.mul_assoc,Int.mul_neg]
 ·rw[Int.mul_assoc]
theorem O9 (s:Int) (r:Rw) (j:Nat):cb (sc s r) j=cb r j:=rfl
theorem EN (s:Int):∀(C:List Rw) (t:Rw),ml C (sc s t)=sc s (ml C t)
 | [],t=>rfl
 | c::C,t=>by
  show ml C (oA (sc s t) c)=sc s (ml C (oA t c))
  have:oA (sc s t) c=sc s (oA t c):=by
   unfold oA
   rw[O9]
   split
   ·rw[L0]
   ·rfl
  rw[this,EN s C]
theorem EO {m:Nat}{rs L:List Rw}(G:Got m rs L) {t:Rw}(s:Int) (h:Sn rs t):ml L (sc s t)=sc s ig:=by
 rw[EN]
 congr 1
 have ht:Sn L t:=Sn.of G.to h
 obtain⟨s',DR,e⟩:=yN (Q:=L) (r:=t) (C:=L) (t:=t) (s:=ig) (fun _ h=>h) .ig (gj t).symm
 have hc:Sn L (ml L t):=by rw[e];exact ht.bx DR
 exact G.r.zero G.c hc fun l hl=>ue G.r.p G.r.n l hl
end TC
namespace L2
open PySem PySem.Spec PyProof.Rows
section
variable {X:Cx}
def rIxD:R2:=fun x y H Q=>∃(a b:Addr) (aB:List (List Key×V)) (k:List Key) (v:V),x = .ref a∧y = .ref b∧H a=some (.dT aB)∧H b=some (.tup (k.map kV))∧dc aB k=some v∧Q v H
def UR (K:Frag):R2:=fun x y H Q=>∃p q xs ys,x = .ref p∧y = .ref q∧eV K H p xs∧eV K H q ys∧xs.length=ys.length∧(∀(j:Nat) x y,xs[j]?=some x→ys[j]?=some y→OP K H x y)∧Q (.bl true) H
end
end L2
namespace TC
open PySem L2
theorem ER {m n i:Nat}(h:n<2^m) (b:bt n i=true):i<m:=by
 refine Classical.byContradiction fun z=>?_
 unfold bt at b
 rw[Nat.testBit_lt_two_pow (Nat.lt_of_lt_of_le h (Nat.pow_le_pow_right (by decide) (by omega)))] at b
 exact nomatch b
theorem Pa {r:Rw}{m:Nat}(hr:r.ok m) (h:nz r):(ld r<6→ld r<m)∧(¬ld r<6→ld r-6<m):=by
 have b:=h.ld.b
 unfold cb at b
 constructor
 ·intro x;rw[if_pos x] at b;exact ER hr.x b
 ·intro x;rw[if_neg x] at b;exact ER hr.z b
def C0 (l:Rw):Rw:=if ld l<6 then ⟨1,0,2^ld l⟩ else ⟨1,2^(ld l-6),0⟩
theorem L1 {m:Nat}{l:Rw}(hl:l.ok m) (hn:nz l):(C0 l).ok m:=by
 have h:=Pa hl hn
 unfold C0
 by_cases x:ld l<6
 ·rw[if_pos x];exact⟨.inl rfl,Nat.two_pow_pos m,pw_lt (h.1 x)⟩
 ·rw[if_neg x];exact⟨.inl rfl,pw_lt (h.2 x),Nat.two_pow_pos m⟩
theorem L5 {m:Nat}(hm:m≤6) {a b:Rw}(hb:b.ok m) (hn:nz b):sy a (C0 b)=cb a (ld b):=by
 have h:=Pa hb hn
 rw[d6]
 unfold C0 cb
 by_cases x:ld b<6
 ·rw[if_pos x,if_pos x];exact Ej hm (h.1 x) rfl rfl
 ·rw[if_neg x,if_neg x];exact OW hm (h.2 x) rfl rfl
theorem L6 {m:Nat}(hm:m≤6) {L:List Rw}(c:Cm m L) (h:Rd L):Fr m L (L.map C0):=by
 refine⟨c,by rw[length_map],fun i j hi hj=>?_⟩
 obtain⟨a,ha⟩:∃a,L[i]?=some a:=⟨_,getElem?_eq_getElem hi⟩
 obtain⟨b,hb⟩:∃b,L[j]?=some b:=⟨_,getElem?_eq_getElem hj⟩
 have haL:=mem_of_getElem? ha
 have US:=mem_of_getElem? hb
 rw[cf ha,cf (show (L.map C0)[j]?=some (C0 b) by rw[getElem?_map,hb];rfl),L5 hm (c.ok b US) (h.n b US)]
 by_cases e:i=j
 ·subst e
  rw[ha] at hb;cases hb
  rw[h.on haL,decide_eq_true rfl]
 ·have eY:a≠b:=fun z=>e (by
   subst z
   exact(List.getElem?_inj hi h.nodup).mp (ha.trans hb.symm))
  rw[h.off haL US eY,decide_eq_false e]
theorem ES (s:Int) (r:Rw) (xs:List Int):lay (sc s r) xs=(lay r xs).map (s * ·):=by
 refine gh (by rw[ax,length_map,ax]) fun q hq=>?_
 rw[ax] at hq
 rw[cO hq,iV,cO hq]
 unfold ua sc
 dsimp only
 rw[Int.mul_assoc,kP]
theorem ET {m:Nat}(hm:m≤6) {xs ys:List Int}(hl:xs.length=2^m) (hy:ys.length=xs.length) {r:Rw}(hr:r.ok m):dot (lay r xs) (lay r ys)=dot xs ys:=by
 have e1:=ui (s:=1) (.inl rfl) hy
 have e2:=ui (s:=1) (.inl rfl) (xs:=lay r xs) (ys:=lay r ys) (by rw[ax,ax,hy])
 rw[←ug hl hy hr,mL hm (by rw[aX];exact hl) hr,e1,mL hm hl hr,mL hm (by rw[hy];exact hl) hr] at e2
 omega
theorem EU {a b:Rw}(ha:one a.sg) (hb:one b.sg) (h:sy a b=true):bx a b=sc (-1) (bx b a):=by
 have e:=(Lz ha hb).2 (by rw[ub,h];rfl)
 have ex:=OT a b
 have ez:=OU a b
 generalize bx a b=p at *
 generalize bx b a=q at *
 obtain⟨s,x,z⟩:=p
 unfold sc
 dsimp only at *
 subst ex ez
 rw[e]
 congr 1
 omega
theorem p5 {m:Nat}{ys:List Int}(hl:ys.length=2^m) {a t:Rw}(ha:a.ok m) (ht:t.ok m) (h:sy a t=false):lay a (lay t ys)=lay t (lay a ys):=by
 rw[←kQ ha hl,mK h,kQ ht hl]
theorem p6 {m:Nat}{s:Int}{ys:List Int}(hl:ys.length=2^m) {a t:Rw}(ha:a.ok m) (ht:t.ok m) (hk:lay a ys=ys) (h:sy a t=false):lay a (kS s ys (lay t ys))=kS s ys (lay t ys):=by
 rw[ug hl (ax t ys) ha,hk,p5 hl ha ht h,hk]
def adj (a t d:Rw):Rw:=if sy d t=true then bx d a else d
end TC
namespace L2
open PySem PySem.Spec PyProof.Rows
def asc (z:Str):Prop:=(z.cps.all fun x=>decide (x<128))=true
def Its (z:Str):It :=
 ⟨fun i H=>∃c,z.cps[i]?=some c,fun i H x H'=>∃p c,H p=none∧x = .ref p∧H'=upd H p (.tup [.int i,.str ⟨#[c]⟩])∧z.cps[i]?=some c,fun i H=>z.cps.size≤i⟩
section
variable {X:Cx}
def UT (ta:TA):TI:=fun σ H R=>ta σ H fun vs H1=>∃z,vs=[.str z]∧asc z∧R (Its z) H1
def Itx (z:Str):It :=
 ⟨fun i H=>∃c,z.cps[i]?=some c,fun i H x H'=>H'=H∧∃c,z.cps[i]?=some c∧x = .str ⟨#[c]⟩,fun i H=>z.cps.size≤i⟩
variable {tg:Expr}
def iText (tl:TE):TI:=fun σ H R=>tl σ H fun x H1=>∃z,x = .str z∧asc z∧R (Itx z) H1
def jn (sep:Str):List Str→Str
 | [z]=>z
 | zs=>Builtin.Str.glued sep zs
def rJoin (K:Frag):V→List V→Hp→VK→Prop:=fun x vs H Q=>∃(sep:Str) (a:Addr) (zs:List Str),x = .str sep∧vs=[.ref a]∧bP K H a (zs.map V.str)∧zs.toArray.foldl (fun n z=>n+z.length+sep.length) 0≤sizeLine∧(jn sep zs).length≤sizeLine∧Q (.str (jn sep zs)) H
end
end L2
namespace TC
open PySem L2
structure Kpt (m:Nat) (L:List Rw) (u:List Int):Prop where
 c:Cm m L
 r:Rd L
 l:L.length=m
 v:u.length=2^m
 s:cg u
 k:∀r∈L,lay r u=u
def xo (r:Rw):Rw:=⟨1,r.x,0⟩
def XB (L:List Rw):List Rw:=(L.filter fun l=>decide (ld l<6)).map xo
def zz (p:Rw→Bool):List Rw→Nat
 | []=>0
 | w::W=>(if p w then 2^ld w else 0)+zz p W
structure Xrd (m:Nat) (W:List Rw):Prop where
 c:Cm m W
 r:Rd W
 x:∀w∈W,w=xo w
def Mv (m:Nat) (v:List Int) (x:Nat):Prop:=∀p,p<2^m→cz v p≠0→cz v (p^^^x)≠0
structure Wys (m:Nat) (v:List Int) (s i:Nat) (W:List Rw):Prop where
 x:Xrd m W
 o:W.Pairwise fun a b=>ld a<ld b
 a:∀p,p<i→p<2^m→cz v p≠0→Sn W ⟨1,p^^^s,0⟩
 b:∀w∈W,Mv m v w.x
def csg (v:List Int) (s a b:Nat):Bool:=(decide (cz v (s^^^a)<0) ^^ decide (cz v (s^^^b)<0)) ^^ decide (cz v (s^^^a^^^b)<0)
def rkp (v:List Int) (s x z:Nat):Rw:=⟨chg (if cz v (s^^^x)<0 then -1 else 1) (par (s&&&z)),x,z⟩
def alg (v:List Int) (s:Nat) (W:List Rw) (w:Rw):Rw:=rkp v s w.x (zz (fun u=>csg v s w.x u.x) W)
def acr (v:List Int) (s:Nat) (W:List Rw) (c:Nat):Rw:=rkp v s 0 (2^c+zz (fun u=>bt u.x c) W)
def nol (W:List Rw) (c:Nat):Prop:=∀w∈W,ld w≠c
def oth (m:Nat) (W:List Rw):List Nat:=(List.range m).filter fun c=>!bt (zz (fun _=>true) W) c
def fit (v:List Int) (s m:Nat) (W:List Rw):List Rw:=W.map (alg v s W)++(oth m W).map (acr v s W)
noncomputable def sst (bs:List Bool):Str:=⟨(bs.map fun b=>if b then 43 else 48).toArray⟩
def chl (bs:List Bool) (c:Nat):Rw:=if bs.getD c false then ⟨1,2^c,0⟩ else ⟨1,0,2^c⟩
def chd (bs:List Bool) (c:Nat):Rw:=if bs.getD c false then ⟨1,0,2^c⟩ else ⟨1,2^c,0⟩
def chs (bs:List Bool) (m:Nat) (gs:List Gt):List Rw:=(List.range m).map fun c=>nK gs (chl bs c)
def fcs (bs:List Bool):Nat:=(List.range 6).foldr (fun c n=>(if bs.getD c true then 0 else 2^c)^^^n) 0
noncomputable def slt (m f:Nat):List Int:=(List.range (2^m)).map fun p=>if p&&&f=0 then 1 else 0
end TC
namespace L2
open PySem PySem.Spec PyProof.Rows
def ju (a:Addr) (cls:Value) (od:Option Addr:=none):HO:=.ext fun h=>∃o vs t,h.get? a=some o∧o.cls=cls∧o.dict=od∧o.data = .fields vs∧vs[0]?=some (.ref t)∧vs[1]?=some .none∧vs[2]?=some .none
theorem uw {P:Program}{w:World}{H:Hp}{h:Heap}{a:Addr}{cls:Value}{od:Option Addr}(x:∃o vs t,h.get? a=some o∧o.cls=cls∧o.dict=od∧o.data = .fields vs∧vs[0]?=some (Value.ref t)∧vs[1]?=some .none∧vs[2]?=some .none):bI P w H h a (ju a cls od):=by
 have x':=x
 obtain⟨o,vs,t,e,r⟩:=x
 exact⟨x',⟨o,e⟩,fun ha hb ⟨o,vs,t,z1,z⟩ k=>⟨o,vs,t,k o z1,z⟩⟩
theorem oZ {P:Program}{w:World}{H:Hp}{h:Heap}{a:Addr}{cls:Value}{od:Option Addr}(x:bI P w H h a (ju a cls od)):∃o vs t,h.get? a=some o∧o.cls=cls∧o.dict=od∧o.data = .fields vs∧vs[0]?=some (Value.ref t)∧vs[1]?=some .none∧vs[2]?=some .none:=x.1
def gI (H:Hp) (e:Addr):Hp:=fun b=>if b=e then none else H b
theorem lS {H:Hp}{e:Addr}:gI H e e=none:=if_pos rfl
theorem eR {H:Hp}{e b:Addr}(h:b≠e):gI H e b=H b:=if_neg h
theorem aq.gI {H H':Hp}{e:Addr}(s:aq H H') (n:H e=none):aq H (L2.gI H' e):=fun a o h=>by
 have:a≠e:=fun z=>by rw[z,n] at h;cases h
 rw[eR this];exact s a o h
theorem EV {H:Hp}{a:Addr}{o:HO}(h:H a=some o):upd H a o=H:=by
 funext b
 by_cases e:b=a
 ·rw[e,aj,h]
 ·rw[aA e]
section
variable {X:Cx}{π:List (Addr×Obj)}{σ:St}{H:Hp}{s:Shared}{e:Addr}{φ:Heap→Prop}
theorem iB.gI {P:Program}{w:World}{h:Heap}(ok:iB P w H h) (hx:H e=some (.ext φ)):iB P w (L2.gI H e) h:=fun a o q=>by
 have ne:a≠e:=fun z=>by rw[z,lS] at q;cases q
 rw[eR ne] at q
 refine(ok a o q).lN (fun _ _ _ z=>z) (fun b z=>?_) fun b xs z=>?_
 ·rw[eR (oj z hx (by intro y;cases y))];exact z
 ·rw[eR (oj z hx (by intro y;cases y))];exact z
theorem Inv.gI (I:Inv X π σ H s) (hx:H e=some (.ext φ)):Inv X π σ (L2.gI H e) s:=by
 refine I.si (h':=s.heap) (g':=s.gens) (d':=s.drawn) (t':=s.toks) (ch:=[]) (fun b hb=>nomatch hb) (fun b o _ _ _ q _=>q) (fun b o _ _ _ q _=>⟨o.slots,q⟩) (fun b o _ _ n=>?_) (fun b o _ q=>⟨o,q⟩) (fun b xs q=>?_) (fun b o u q=>?_) (fun b ps q=>⟨#[],?_⟩) (fun m hm=>hm) (I.aV.gI hx) I.bare
 ·by_cases z:b=e
  ·rw[z];exact lS
  ·rw[eR z];exact n
 ·rw[eR (oj q hx (by intro y;cases y))];exact q
 ·rw[eR (oj q hx (by intro y;cases y))];exact q
 ·rw[eR (oj q hx (by intro y;cases y)),q];simp
theorem Inv.lD {h':Heap}{o:HO}{t':Nat}(I:Inv X π σ H s) (hex:X.ex=[]) (k:∀b u,s.heap.get? b=some u→h'.get? b=some u) (hn:s.heap.get? e=none) (new:bI X.prog X.w (upd H e o) h' e o):Inv X π σ (upd H e o) { s with heap:=h',toks:=t' }:=by
 obtain⟨n1,n2⟩:=I.wg hex hn
 have I2:Inv X π σ H { s with heap:=h',toks:=t' }:=I.kept k
 refine I2.si (s:={ s with heap:=h',toks:=t' }) (h':=h') (g':=s.gens) (d':=s.drawn) (t':=t') (ch:=[e]) (fun b hb=>?_) (fun b o _ _ _ q _=>q) (fun b o _ _ _ q _=>⟨o.slots,q⟩) (fun b o hb q n=>?_)
  (fun b o _ q=>⟨o,q⟩) (fun b xs q=>by rw[aA (aF q n1)];exact q) (fun b o u q=>by rw[aA (aF q n1)];exact q) (fun b ps q=>⟨#[],by rw[aA (aF q n1),q];simp⟩) (fun m hm=>hm) (I2.aV.lD n1 new) I2.bare
 ·have z:=mem_singleton.mp hb
  subst z
  refine⟨.inr n2.1,fun z=>?_,fun y c hc z=>?_,n2.2⟩
  ·obtain⟨m,⟨o',es,ep,jq,_⟩,_⟩:=I.loc
   rw[z,jq] at hn;cases hn
  ·obtain⟨v,o',jq,_⟩:=I.cell y c hc
   rw[z,hn] at jq;cases jq
 ·rw[aA (by intro z;exact hb (by simp[z]))];exact n
end
def lH (K:Frag) (C f:Addr):Bool:=match K.lookup C with
 | some ⟨.type "type",_,.cls cd,sl⟩=>(match cd.mro,sl.toList with
  | .ref C'::bm,[_,_,_,_,some (.builtin n),_]=>C' == C&&n == "ValueError.__new__"&&!cd.hasDel&&PySem.W.tailIn K Hj bm&&PySem.W.nsOkIn K cd.ns&&nsIn K cd.ns "__init__" == some (some (.ref f))
  | _,_=>false)
 | _=>false
theorem rn {K:Frag}{h:Heap}{N:Addr}{x:Str}{v:Value}(X:K.In h) (e:PySem.W.nsOkIn K N=true) (q:nsIn K N x=some (some v)):h.nsMap N x=some v:=by
 obtain⟨o,es,ep,ho,hd,_,hf⟩:=Heap.Ns.of_isNs (PySem.W.isNs_of_in X e)
 unfold nsIn at q
 split at q
 ·rename_i c d Rn n' sl jq
  have z:=(X _ _ jq).symm.trans ho
  cases z
  dsimp only at hd
  cases hd
  split at q
  ·rename_i en he
   rw[←hf]
   unfold nsFind findBy
   rw[←Array.find?_toList,he]
   cases q
   rfl
  ·split at q<;>cases q
 ·cases q
section
variable {X:Cx}{C f:Addr}{x:Str}{np dB pos:Pos}{e:Expr}{es:List Expr}{t:TA}{E:XS}
theorem sL {K:Frag}{h:Heap}(X:K.In h) (q:lH K C f=true) :
  ∃bm N nm qn bs hdct sn sub ab col dd k0 k1 k2 k3 k5 mN,h.get? C=some (excClassObj nm qn C N bs bm hdct sn sub ab col dd k0 k1 k2 k3 k5 "ValueError.__new__")∧h.Ns N mN∧mN "__init__"=some (.ref f)∧OwnTail h Hj bm:=by
 unfold lH at q
 split at q
 ·rename_i dd cd sl ho
  split at q
  ·rename_i C' bm k0 k1 k2 k3 n k5 hm hs
   simp only[Bool.and_eq_true,beq_iff_eq,Bool.not_eq_true'] at q
   obtain⟨⟨⟨⟨⟨rfl,rfl⟩,Pb⟩,ht⟩,aV⟩,D3⟩:=q
   obtain⟨nm,bs,mro,ns,qn,hd,sn,sub,ab,col,del⟩:=cd
   dsimp only at hm Pb aV D3
   subst hm Pb
   have UU:sl=#[k0,k1,k2,k3,some (.builtin "ValueError.__new__"),k5]:=by
    obtain⟨l⟩:=sl
    simp only at hs
    rw[hs]
   subst UU
   exact⟨bm,ns,nm,qn,bs,hd,sn,sub,ab,col,dd,k0,k1,k2,k3,k5,_,X _ _ ho,.of_isNs (PySem.W.isNs_of_in X aV),rn X aV D3,PySem.W.tail_of_in X ht⟩
  ·cases q
 ·cases q
def AI (C:Addr) (sp:Sp) (E:XS) (t:TA):TS:=fun _ σ H=>t σ H fun vs H1=>vs.length≤sizeLine∧∀e,H1 e=none →
 sp (.ref e::vs) (upd H1 e (ju e (.ref C))) (fun v H2=>v = .cH∧∃od,H2 e=some (ju e (.ref C) od)∧E (.ref C) od σ (gI H2 e)) (fun _ _ _=>False)
theorem BZ {k:Nat}{fd:FuncData}{ps:List Str}{sp:Sp}(hc:X.calm=true) (hex:X.ex=[]) (hg:Gl X x) (hm:X.mg x=some (.ref C)) (q:lH X.K C f=true) (qf:PySem.W.typeIn X.K (.ref f)=some (.type "function"))
  (F:fj X.prog X.w X.K X.mg X.base aS k f fd ps sp) (hr:bF (k+1) X.A) (hb:Binds X.K fd ps []) (R:Rs X E) (ha:PA X (e::es) t)
  (oJ:(x == ("__debug__":Str))=false:=by decide) (he:starEach (e::es) X.env=(false,eval e X.env)::starEach es X.env:=by rfl) (lq:(backTo dB (starEach es X.env)).any (·.1)=false:=by rfl) :
  PS X (.Raise (some (.Call (.Name x np) (e::es) [] dB)) none pos) (AI C sp E t):=by
 intro π s σ H D I h
 obtain⟨tl,N,nm,qn,bs,hdct,sn,sub,ab,col,dd,k0,k1,k2,k3,k5,mN,hC,hN,D3,T⟩:=sL I.ok.mod.C8 q
 obtain⟨of,UW,Lw⟩:=Option.map_eq_some_iff.mp (show (X.K.lookup f).map (·.cls)=some (.type "function") from qf)
 have hof:X.base.get? f=some of:=I.ok.mod.C8 _ _ UW
 refine BM (C:=C) (nm:=nm) (q:=qn) (N:=N) (bs:=bs) (bm:=tl) (hdct:=hdct) (sn:=sn) (sub:=sub) (ab:=ab) (col:=col) (dd:=dd) (k0:=k0) (k1:=k1) (k2:=k2) (k3:=k3) (k5:=k5)
  PySem.F.excBase_ValueError (by decide +kernel) PySem.F.excBase_ValueError (mN:=mN) (of:=of) (f:=f) (T.hasType PySem.F.excBase_ValueError.hasBase) (I.ok.hd hc) (by rw[he];show (false||(backTo dB (starEach es X.env)).any (·.1))=false;rw[lq];rfl) D3 Lw (gR I hg hm ⟨rfl,?_⟩ oJ)
 have JW:=ha dB π s σ H _ I h
 rw[he] at JW ⊢
 refine Calls.evalArgs_plain (bL JW fun us s1 ⟨vs,H1,I1,r,hz,q⟩=>?_)
 refine⟨rfl,by show us.length≤sizeLine;rw[←r.length];exact hz,I1.bk _ _ hC,hN.keeps I1.bk,T.keeps I1.bk,I1.bk _ _ hof,fun h' ea me=>?_⟩
 obtain⟨n1,n2⟩:=I1.wg hex me.new
 obtain⟨tt,m1,m2,m3⟩:=me.there
 have I3:Inv X π σ (upd H1 ea (ju ea (.ref C))) { s1 with heap:=h',toks:=s1.toks }:=I1.lD (t':=s1.toks) hex me.keeps me.new (uw ⟨_,_,tt,m1,rfl,rfl,rfl,rfl,rfl,rfl⟩)
 have hq:=q ea n1
 have r2:Vals (V.ref ea::vs) (Value.ref ea::us):=.cons rfl r
 have hl:(Value.ref ea::us++[]).length=ps.length:=by
  rw[List.append_nil,←r2.length];exact F.len _ _ _ _ hq
 refine wpAny_call (codeAny_mono (F.run _ X.stack _ _ ⟨Value.ref ea::us,[]⟩ (Value.ref ea::us) _ _ _ (hr.make C us []) (I3.BC.make C us []) (by have:=hb _ (Value.ref ea::us) I3.oG hl;rwa [List.append_nil] at this) r2 hq) fun r s' pj=>?_)
 cases r with
 | error v=>exact False.elim pj
 | ok fl =>
  cases fl with
  | ret u =>
   obtain⟨v,H2,I4,rv,ev,od,hx,q4⟩:=I3.after pj
   subst ev
   obtain⟨o,fs,t4,g1,g2,g3,g4,g5,g6,g7⟩:=oZ (I4.aV ea _ hx)
   have RD:s'.heap.get? ea=some ⟨.ref C,od,.fields fs,o.slots⟩:=by rw[g1,←g2,←g3,←g4]
   refine⟨rv,I4.bk _ _ hC,⟨od,fs,o.slots,RD,g6⟩,?_⟩
   exact R π σ (gI H2 ea) s' ea (.ref C) od (I4.gI hx) ⟨lS,n2,_,_,RD,rfl,rfl,rfl,(Array.getElem?_eq_some_iff.mp g6).1,g7,.inl g6⟩ q4
  | next=>exact False.elim pj
  | brk=>exact False.elim pj
  | cont=>exact False.elim pj
end
end L2
namespace L2
open PySem PySem.Spec PyProof.Rows Builtin Builtin.ObjectAttr
section
variable {X:Cx}{π:List (Addr×Obj)}{σ:St}{H:Hp}{s:Shared}{a C f:Addr}{od:Option Addr}{A:Around}{E:Value→Shared→Prop}
theorem B0 {rest:List Value}{Q:Value→Shared→Prop}(I:Inv X π σ H s) (q:lH X.K C f=true) (hx:H a=some (ju a (.ref C) od)) (hl:rest.length≤sizeLine) (h:∀s',Inv X π σ H s'→Q .none s') :
  wpAny (model X.prog X.w) A (call (.builtin "ValueError.__init__") (.ref a::rest)) Q E s:=by
 obtain⟨tl,N,nm,qn,bs,hdct,sn,sub,ab,col,dd,k0,k1,k2,k3,k5,mN,hC,hN,D3,T⟩:=sL I.ok.mod.C8 q
 obtain⟨o,vs,tt,g1,g2,g3,g4,g5,g6,g7⟩:=oZ (I.aV a _ hx)
 have Uk:=I.bk _ _ hC
 have T':=T.keeps I.bk
 have fin:∀s',Inv X π σ H s'→Q .none s':=h
 have I':=I
 obtain⟨hp,gg,dr,tk,os⟩:=s
 refine wpAny_call (codeAny_call_builtin F.excBase_ValueError.init.plain F.excBase_ValueError.initEntry (wpAny_check_init_subU F.excBase_ValueError T' Uk g1 g2 ?_))
 unfold Builtin.«BaseException.__init__» newTuple Builtin.BaseException.bexcPut
 dsimp only
 rw[if_neg (show ¬((!([]:List (Str×Value)).isEmpty)=true) by simp)]
 have sz:0<vs.size:=(Array.getElem?_eq_some_iff.mp g5).1
 have e1:=Heap.get?_push_of_some (h:=hp) { cls:=.type "tuple",data:=.seq rest.toArray } g1
 refine wpAny_bind (wpAny_newObj_type ?_ (by show rest.toArray.size≤sizeLine;rw[List.size_toArray];exact hl))
 refine wpAny_bind (wpAny_bind (wpAny_field e1 g4 g5 (wpAny_bind (wpAny_setField e1 g4 sz ?_))))
 refine wpAny_letGo (wpAny_pure ?_)
 refine fin _ ?_
 have I1:Inv X π σ H ⟨hp.push { cls:=.type "tuple",data:=.seq rest.toArray },gg,dr,tk,os⟩:=I'.kept (t':=tk) fun b u e=>Heap.get?_push_of_some _ e
 have e2:=Heap.get?_update_self (Obj.mapFields (·.setIfInBounds 0 (Value.ref hp.objs.size))) e1 (Obj.isFreed_of_fields (Obj.data_mapFields g4 _))
 have w:=I1.write (x:=a) (e:=a) (o:=ju a (.ref C) od) (t':=tk) (h':=(hp.push { cls:=.type "tuple",data:=.seq rest.toArray }).update a (Obj.mapFields (·.setIfInBounds 0 (Value.ref hp.objs.size)))) (by rw[hx];exact True.intro) (.inl rfl) (fun b u hb e=>(Heap.get?_update_other _ _ (Ne.symm hb)).trans e) ⟨_,e2⟩
  (uw ⟨_,_,hp.objs.size,e2,(Obj.cls_mapFields _ _).trans g2,(tJ _ _).trans g3,Obj.data_mapFields g4 _,by rw[Array.getElem?_setIfInBounds_self_of_lt sz],by rw[Array.getElem?_setIfInBounds_ne (by decide)];exact g6,by rw[Array.getElem?_setIfInBounds_ne (by decide)];exact g7⟩)
 rw[EV hx] at w
 exact w
variable {B:Addr}{mc:Value}{x:Str}{np:Pos}{apos:Pos}{pos:Pos}{e:Expr}{es:List Expr}{t:TA}{pl:Sem Bool}
def L7 (C:Addr) (t:TA):TE:=fun σ H Q=>t σ H fun vs H1=>∃a od rest,vs = .ref a::rest∧H1 a=some (ju a (.ref C) od)∧rest.length≤sizeLine∧Q .cH H1
structure L8 (K:Frag) (B:Addr):Prop where
 ga:PySem.W.specialIn K (.ref B) "__getattribute__"=some (some (.builtin "type.__getattribute__"))
 rd:PySem.W.readsIn K B (.type "type")=true
 ini:PySem.W.findCls K (.ref B) (.type "type") "__init__"=some (.val (.builtin "ValueError.__init__"))
theorem EW (hg:Gl X x) (hm:X.mg x=some (.ref B)) (b:L8 X.K B) (q:lH X.K C f=true) (ha:PA X (e::es) t)
  (oJ:(x == ("__debug__":Str))=false:=by decide) (Dh:starEach (e::es) X.env=(false,eval e X.env)::starEach es X.env:=by rfl) (lq:(backTo pos (starEach es X.env)).any (·.1)=false:=by rfl)
  (ht:eval (.Call (.Attribute (.Name x np) "__init__" apos) (e::es) [] pos) X.env=(do
   let ov ←eval (.Name x np) X.env
   standAt apos.atName
   let (f,first) ←holding [ov] (getMethod ov "__init__" pl)
   callWith pos f first (backTo pos (starEach (e::es) X.env)) (backToKw pos (keywordEach [] X.env))):=by rfl) :
  PE X (.Call (.Attribute (.Name x np) "__init__" apos) (e::es) [] pos) (L7 C t):=by
 intro π s σ H Q I h
 refine PySem.W.methodCall_KW (pl:=pl) (gR I hg hm ?_ oJ) ht
 refine PySem.W.method_cls I.oG b.ga (PySem.W.cls_value I.oG b.rd b.ini (by decide +kernel) ?_)
 have I0:Inv X π σ H { s with toks:=s.toks+1 }:=I.tok _
 have hA:=ha pos π _ σ H _ I0 h
 rw[Dh] at hA ⊢
 refine Calls.callWith_builtin (by show (false||(backTo pos (starEach es X.env)).any (·.1))=false;rw[lq]<;>rfl) (Calls.evalArgs_plain (bL hA fun us s2 ⟨vs,H2,I2,r2,q2⟩=>?_))
 obtain⟨a,od,rest,rfl,hx,hl,q2⟩:=q2
 cases r2 with
 | @cons _ u _ us ru r2 =>
  cases (show u=Value.ref a from ru)
  exact B0 I2 q hx (by rw[←r2.length];exact hl) fun s' I'=>⟨.cH,H2,I',rfl,q2⟩
end
def isRef:Value→Bool
 | .ref _=>true
 | _=>false
def ux:List Value→Bool
 | []=>false
 | v::r=>(v::r) == Hj||(isRef v&&ux r)
def yR (K:Frag) (C:Addr):Bool:=(PySem.W.clsIn K C).any fun cd=>ux cd.mro
theorem lI (self:Value):∀{l:List Value},ux l=true→refuseLoop self "__setattr__" l=pure ()
 | [],e=>by cases e
 | v::r,e=>by
  rcases Bool.or_eq_true_iff.mp e with e|e
  ·rw[beq_iff_eq.mp e];exact F.store_ValueError.passes self
  ·obtain⟨e1,e2⟩:=Bool.and_eq_true_iff.mp e
   cases v with
   | ref c=>rw[refuseLoop_ref];exact lI self e2
   | _=>cases e1
theorem p7:∀{l:List Value},ux l=true→l.contains (.type "object")=true
 | [],e=>by cases e
 | v::r,e=>by
  rcases Bool.or_eq_true_iff.mp e with e|e
  ·rw[beq_iff_eq.mp e];decide +kernel
  ·obtain⟨e1,e2⟩:=Bool.and_eq_true_iff.mp e
   rw[List.contains_cons,p7 e2,Bool.or_true]
structure L9 (K:Frag) (C:Addr):Prop where
 sa:PySem.W.findIn K (.ref C) "__setattr__"=some (some (.builtin "object.__setattr__"))
 ov:yR K C=true
 hd:PySem.W.hasDictIn K C=true
section
variable {prog:Program}{w:World}{A:Around}{E:Value→Shared→Prop}{s:Shared}{K:Frag}{x C:Addr}{name:Str}{v:Value}{ox:Obj}
theorem wK {tk:Tok}{R:Result→Shared→Prop}(X:K.In s.heap) (hx:s.heap.get? x=some ox) (mm:ox.cls = .ref C) (c:L9 K C) (hn:bz K C name)
  (h:wpAny (model prog w) A.in1 (storeInOwnDict (.ref x) (.ref C) (.str name tk) name v false) (fun fin s'=>match fin with | .done f=>R (.ok f) s' | .again c'=>c'.quiet=true∧codeAny (model prog w) A c' R s') (fun e s'=>R (.error e) s') s) :
  codeAny (model prog w) A (.call (.builtin "object.__setattr__") ⟨[.ref x,.str name tk,v],[]⟩) R s:=by
 have SF:=F.store_object
 obtain⟨cd,hc,ho⟩:=PySem.W.any_some c.ov
 have ty:PySem.W.Looks (model prog w) s.heap (typeOf (.ref x)) (.ref C):=mm▸(PySem.W.Looks.ld hx).andThen .now
 have ne:cd.mro.isEmpty=false:=by
  cases q:cd.mro with
  | nil=>rw[q] at ho;cases ho
  | cons _ _=>rfl
 have sub:PySem.W.Looks (model prog w) s.heap (isInstance (.ref x) (.type "object")) true:=ty.andThen (PySem.W.looks_mroIn X (by unfold PySem.W.mroIn;rw[hc,Option.bind_some,if_neg (by rw[ne];decide),p7 ho]))
 refine codeAny_call_builtin SF.slot.plain SF.entry (@PySem.W.check_slot (model prog w) _ _ s "object.__setattr__" "object" "__setattr__" (.ref x) [.str name tk,v] [] _ SF.kind SF.split sub (SF.args (.ref x) (.str name tk) v) ?_)
 have mro:PySem.W.Looks (model prog w) s.heap (mroOf (.ref C)) cd.mro:=(PySem.W.looks_clsIn X hc).andThen .now
 rw[PySem.W.osa_eq,refuse_eq]
 refine wpAny_bind (wpAny_bind (ty.here (wpAny_bind (mro.here ?_))))
 rw[lI _ ho]
 have fnd:PySem.W.Looks (model prog w) s.heap (typeLookup (.ref C) name) none:=PySem.W.looks_findIn X hn
 refine wpAny_pure (wpAny_bind (ty.here (wpAny_bind (fnd.here (wpAny_bind (wpAny_pure ?_))))))
 exact h
theorem EX {vs:Array Value}{Q:Unit→Shared→Prop}(X:K.In s.heap) (hx:s.heap.get? x=some ox) (mm:ox.cls = .ref C) (AJ:ox.data = .fields vs) (AK:ox.dict=none) (c:L9 K C) (hn:bz K C name)
  (h:∀h' d tk,(∀b o,b≠x→s.heap.get? b=some o→h'.get? b=some o)→s.heap.objs.size≤d→h'.get? x=some { ox with dict:=some d }→h'.Ns1 d (fun y=>if y=name then some v else none)→Q () { s with heap:=h',toks:=tk }) :
  wpAny (model prog w) A (setAttr (.ref x) name v) Q E s:=by
 have J:PySem.W.InstAt s.heap x ox C none:=⟨hx,mm,by unfold PySem.W.notCls;rw[AJ],by rw[AK];exact True.intro⟩
 refine PySem.W.set_plain X J c.sa (wK (s:={ s with toks:=s.toks+1 }) X hx mm c hn ?_)
 obtain⟨cd,hc,kJ⟩:=PySem.W.any_some c.hd
 obtain⟨oc,od,oda,nv⟩:=ox
 dsimp only at mm AK AJ
 subst mm AK AJ
 have ne:x≠s.heap.objs.size:=Nat.ne_of_lt (Heap.lt_size hx)
 refine wpAny_bind (wpAny_pure (wpAny_bind (wpAny_bind (wpAny_loadPart hx (wpAny_bind (PySem.W.Looks.here (s:={ s with toks:=s.toks+1 }) (PySem.W.looks_clsIn X hc) ?_))))))
 rw[kJ]
 have e1:=Heap.get?_push_of_some (h:=s.heap) { cls:=.type "dict",data:=.dict #[] } hx
 refine wpAny_bind (wpAny_alloc (wpAny_bind (wpAny_update e1 (wpAny_pure ?_))))
 show wpAny _ _ (storeInDict s.heap.objs.size (.str name s.toks) name v) _ _ _
 have e2:((s.heap.push { cls:=.type "dict",data:=.dict #[] }).update x fun o=>{ cls:=o.cls,dict:=some s.heap.objs.size,data:=o.data,slots:=o.slots }).get? x=some { cls:=.ref C,dict:=some s.heap.objs.size,data:=.fields vs,slots:=nv }:=Heap.get?_update_self _ e1 rfl
 have e3:((s.heap.push { cls:=.type "dict",data:=.dict #[] }).update x fun o=>{ cls:=o.cls,dict:=some s.heap.objs.size,data:=o.data,slots:=o.slots }).get? s.heap.objs.size=some { cls:=.type "dict",data:=.dict #[] }:=(Heap.get?_update_other _ _ ne).trans (Heap.get?_push_size _ rfl)
 have e4:∀b o,b≠x→s.heap.get? b=some o→((s.heap.push { cls:=.type "dict",data:=.dict #[] }).update x fun o=>{ cls:=o.cls,dict:=some s.heap.objs.size,data:=o.data,slots:=o.slots }).get? b=some o:=fun b o hb e=>(Heap.get?_update_other _ _ (Ne.symm hb)).trans (Heap.get?_push_of_some _ e)
 dsimp only
 generalize ((s.heap.push { cls:=.type "dict",data:=.dict #[] }).update x fun o=>{ cls:=o.cls,dict:=some s.heap.objs.size,data:=o.data,slots:=o.slots })=h1 at e2 e3 e4 ⊢
 have nn:h1.Ns s.heap.objs.size (fun _=>none):=⟨_,#[],_,e3,rfl,fun e he=>absurd he (by simp),fun _=>rfl⟩
 unfold storeInDict newKeyGuard
 refine wpAny_bind (wpAny_pure (wpAny_bind (wpAny_nsSet1 (Heap.Ns1.of_empty nn) fun h2 n2 sb=>?_)))
 obtain⟨oD,esD,epD,S8,S9,Ta⟩:=n2.count (Within.cons name v Within.nil)
 refine wpAny_bind (wpAny_lookBehind S8 (by rw[S9];exact pastItsLine_dict (Nat.le_trans Ta (by rw[List.length_cons,List.length_nil,sizeLine_eq];omega))) (wpAny_pure ?_))
 exact h h2 s.heap.objs.size _ (fun b o hb e=>(sb.2 b (Nat.ne_of_lt (Heap.lt_size e))).trans (e4 b o hb e)) (Nat.le_refl _) ((sb.2 x ne).trans e2) n2
theorem B3 {vs:Array Value}{d:Addr}{mA:Str→Option Value}{ns:List Str}{Q:Unit→Shared→Prop}(X:K.In s.heap) (hx:s.heap.get? x=some ox) (mm:ox.cls = .ref C) (AJ:ox.data = .fields vs) (AK:ox.dict=some d) (eY:d≠x) (hN:s.heap.Ns1 d mA) (hw:Within mA ns) (hz:ns.length<1000) (c:L9 K C) (hn:bz K C name)
  (h:∀h' tk,Heap.SameBut d s.heap h'→h'.Ns1 d (fun y=>if y=name then some v else mA y)→Q () { s with heap:=h',toks:=tk }) :
  wpAny (model prog w) A (setAttr (.ref x) name v) Q E s:=by
 obtain⟨oD,esD,epD,e0,_⟩:=id hN
 have J:PySem.W.InstAt s.heap x ox C (some oD):=⟨hx,mm,by unfold PySem.W.notCls;rw[AJ],by rw[AK];exact e0⟩
 refine PySem.W.set_plain X J c.sa (wK (s:={ s with toks:=s.toks+1 }) X hx mm c hn ?_)
 obtain⟨cd,hc,kJ⟩:=PySem.W.any_some c.hd
 obtain⟨oc,od,oda,nv⟩:=ox
 dsimp only at mm AK AJ
 subst mm AK AJ
 refine wpAny_bind (wpAny_pure (wpAny_bind (wpAny_bind (wpAny_loadPart hx (wpAny_bind (PySem.W.Looks.here (s:={ s with toks:=s.toks+1 }) (PySem.W.looks_clsIn X hc) ?_))))))
 rw[kJ]
 refine wpAny_pure ?_
 show wpAny _ _ (storeInDict d (.str name s.toks) name v) _ _ _
 unfold storeInDict newKeyGuard
 refine wpAny_bind (wpAny_pure (wpAny_bind (wpAny_nsSet1 (s:={ s with toks:=s.toks+1 }) hN fun h2 n2 sb=>?_)))
 obtain⟨oE,esE,epE,hoE,hdE,hcE⟩:=n2.count (Within.cons name v hw)
 refine wpAny_bind (wpAny_lookBehind hoE (by rw[hdE];exact pastItsLine_dict (Nat.le_trans hcE (by rw[List.length_cons,sizeLine_eq];omega))) (wpAny_pure ?_))
 exact h h2 _ sb n2
variable {X:Cx}{π:List (Addr×Obj)}{σ:St}{H:Hp}{H0:Hp}{s0:Shared}{a:Addr}{d:Addr}{f:Str}
theorem Inv.Ip {o:HO}(I0:Inv X π σ H0 s0) (I:Inv X π σ H s) (hd:s0.heap.objs.size≤d) (n1:H d=none) (new:bI X.prog X.w (upd H d o) s.heap d o):Inv X π σ (upd H d o) s:=by
 obtain⟨_,n2⟩:=I0.young d hd
 refine I.si (h':=s.heap) (g':=s.gens) (d':=s.drawn) (t':=s.toks) (ch:=[d]) (fun b hb=>?_) (fun b o _ _ _ q _=>q) (fun b o _ _ _ q _=>⟨o.slots,q⟩) (fun b o hb q n=>?_)
  (fun b o _ q=>⟨o,q⟩) (fun b xs q=>by rw[aA (aF q n1)];exact q) (fun b o u q=>by rw[aA (aF q n1)];exact q) (fun b ps q=>⟨#[],by rw[aA (aF q n1),q];simp⟩) (fun m hm=>hm) (I.aV.lD n1 new) I.bare
 ·have z:=mem_singleton.mp hb
  subst z
  refine⟨.inr n2.1,fun z=>?_,fun y c hc z=>?_,n2.2⟩
  ·exact absurd (Nat.lt_of_lt_of_le I0.lt hd) (by rw[z];exact Nat.lt_irrefl _)
  ·obtain⟨v,o',jq,_⟩:=I0.cell y c hc
   exact absurd (Nat.lt_of_lt_of_le (Heap.lt_size jq) hd) (by rw[z];exact Nat.lt_irrefl _)
 ·rw[aA (by intro z;exact hb (by simp[z]))];exact n
theorem Inv.Iq {fs GG:List (Str×V)}{h':Heap}{t':Nat}(I:Inv X π σ H s) (hH:H d=some (.xd fs)) (sb:Heap.SameBut d s.heap h') (new:bI X.prog X.w (upd H d (.xd GG)) h' d (.xd GG)):Inv X π σ (upd H d (.xd GG)) { s with heap:=h',toks:=t' }:=by
 have ne:∀{b:Addr}{o:HO},H b=some o→o≠.xd fs→b≠d:=fun hb ho=>oj hb hH ho
 refine I.si (h':=h') (g':=s.gens) (d':=s.drawn) (t':=t') (ch:=[]) (fun b hb=>nomatch hb) (fun b o _ _ _ q n=>?_) (fun b o _ _ _ q n=>⟨o.slots,?_⟩) (fun b o _ q n=>?_) (fun b o _ q=>?_)
  (fun b xs q=>by rw[aA (ne q (by intro y;cases y))];exact q) (fun b o u q=>by rw[aA (ne q (by intro y;cases y))];exact q) (fun b ps q=>⟨#[],by rw[aA (ne q (by intro y;cases y)),q];simp⟩) (fun m hm=>?_) (fun b o q=>?_) I.bare
 ·exact(sb.2 b (fun z=>by rw[z,hH] at n;cases n)).trans q
 ·exact(sb.2 b (fun z=>by rw[z,hH] at n;cases n)).trans q
 ·rw[aA (fun z=>by rw[z,hH] at n;cases n)];exact n
 ·by_cases z:b=d
  ·subst z;obtain⟨mA,⟨od,_,_,e,_⟩,_⟩:=new;exact⟨od,e⟩
  ·exact⟨o,(sb.2 b z).trans q⟩
 ·have nl:X.env.locals≠d:=fun z=>by have:=I.free;rw[z,hH] at this;cases this
  obtain⟨o,es,ep,ho,r⟩:=hm
  exact⟨o,es,ep,(sb.2 _ nl).trans ho,r⟩
 ·by_cases z:b=d
  ·subst z;rw[aj] at q;cases q;exact new
  ·rw[aA z] at q
   refine(I.aV b o q).lN (fun c u hc e=>(sb.2 c ?_).trans e) (fun c hc=>?_) fun c xs hc=>?_
   ·rcases hc with rfl|hc
    ·exact z
    ·exact ne hc (by intro y;cases y)
   ·rw[aA (ne hc (by intro y;cases y))];exact hc
   ·rw[aA (ne hc (by intro y;cases y))];exact hc
theorem EY {y:V}{u:Value}(ry:RelV y u) (f g:Str):iC (([(f,y)]:List (Str×V)).lookup g) (if g=f then some u else none):=by
 by_cases e:g=f
 ·rw[if_pos e,e]
  have:([(f,y)]:List (Str×V)).lookup f=some y:=by simp[List.lookup]
  rw[this];exact ry
 ·rw[if_neg e]
  have:([(f,y)]:List (Str×V)).lookup g=none:=by
   have:(g == f)=false:=by simpa using e
   simp[List.lookup,this]
  rw[this];exact True.intro
theorem yS {y:V}{u:Value}{A:Around}{E:Value→Shared→Prop}{Q:Unit→Shared→Prop}(I:Inv X π σ H s) (hx:H a=some (ju a (.ref C))) (c:L9 X.K C) (n:bz X.K C f) (ry:RelV y u)
  (h:∀d s',H d=none→d≠a→Inv X π σ (upd (upd H a (ju a (.ref C) (some d))) d (.xd [(f,y)])) s'→Q () s'):wpAny (model X.prog X.w) A (setAttr (.ref a) f u) Q E s:=by
 obtain⟨o,vs,t,g1,g2,g3,g4,g5,g6,g7⟩:=oZ (I.aV a _ hx)
 refine EX I.oG g1 g2 g4 g3 c n fun h' d tk k hd e2 nd=>?_
 have RY:d≠a:=fun z=>absurd (Nat.lt_of_lt_of_le (Heap.lt_size g1) hd) (by rw[z];exact Nat.lt_irrefl _)
 have hn:H d=none:=I.aV.fresh hd
 have I2:Inv X π σ (upd H a (ju a (.ref C) (some d))) { s with heap:=h',toks:=tk }:=I.write (x:=a) (e:=a) (t':=tk) (by rw[hx];exact True.intro) (.inl rfl) (fun b u hb e=>k b u hb e) ⟨_,e2⟩ (uw ⟨_,vs,t,e2,g2,rfl,g4,g5,g6,g7⟩)
 exact h d _ hn RY (I.Ip I2 hd (by rw[aA RY];exact hn) ⟨_,nd,fun g=>EY ry f g⟩)
theorem B4 {fs:List (Str×V)}{mA:Str→Option Value}(r:∀g,iC (fs.lookup g) (mA g)):Within mA (fs.map (·.1)):=fun y hy=>by
 cases e:fs.lookup y with
 | none=>exact absurd (iC.none_of (by rw[←e];exact r y)) hy
 | some v =>
  have:∀{l:List (Str×V)},l.lookup y=some v→y∈l.map (·.1):=fun {l}=>by
   induction l with
   | nil=>intro h;cases h
   | cons p l ih =>
    intro h
    rw[List.lookup_cons] at h
    split at h
    ·rename_i q;rw[List.map_cons,beq_iff_eq.mp q];exact mem_cons_self
    ·exact mem_cons_of_mem _ (ih h)
  exact this e
theorem wL {y:V}{u:Value}{fs:List (Str×V)}{A:Around}{E:Value→Shared→Prop}{Q:Unit→Shared→Prop}(I:Inv X π σ H s) (hx:H a=some (ju a (.ref C) (some d))) (hd:H d=some (.xd fs)) (hl:fs.length<1000) (c:L9 X.K C) (n:bz X.K C f) (ry:RelV y u)
  (h:∀s',Inv X π σ (upd H d (.xd (gO f y fs))) s'→Q () s'):wpAny (model X.prog X.w) A (setAttr (.ref a) f u) Q E s:=by
 obtain⟨o,vs,t,g1,g2,g3,g4,g5,g6,g7⟩:=oZ (I.aV a _ hx)
 obtain⟨mA,nA,r⟩:=(show bI X.prog X.w H s.heap d (.xd fs) from I.aV d _ hd)
 refine B3 I.oG g1 g2 g4 g3 (oj hd hx (by intro z;cases z)) nA (B4 r) (by rw[length_map];exact hl) c n fun h' tk sb nd=>h _ (I.Iq hd sb ⟨_,nd,fun g=>?_⟩)
 rw[jL]
 by_cases q:g=f
 ·rw[if_pos q,if_pos q];exact ry
 ·rw[if_neg q,if_neg q];exact r g
def Pc (K:Frag) (ta tv:TE) (f:Str):TS:=fun D σ H=>tv σ H fun y H1=>ta σ H1 fun x H2=>∃a C,x = .ref a∧L9 K C∧bz K C f ∧
 ((H2 a=some (ju a (.ref C))∧∀d,H2 d=none→d≠a→D.nx σ (upd (upd H2 a (ju a (.ref C) (some d))) d (.xd [(f,y)]))) ∨
  ∃d fs,H2 a=some (ju a (.ref C) (some d))∧H2 d=some (.xd fs)∧fs.length<1000∧D.nx σ (upd H2 d (.xd (gO f y fs))))
variable {o:Expr}{e:Expr}{value:Expr}{pos:Pos}{pos':Pos}{ta:TE}{tv:TE}
theorem AL (ha:PE X o ta) (hv:PE X value tv) (hs:swapsWith value (some (.Attribute o f pos')) pos.line X.env=pure false:=by rfl):PS X (.Assign [.Attribute o f pos'] value pos) (Pc X.K ta tv f):=by
 intro π s σ H D I h
 refine plainObj_wpAny_Assign_Attribute (bL (hv π s σ H _ I h) fun u s1 ⟨y,H1,I1,ry,q⟩=>bL (ha π s1 σ H1 _ I1 q) fun ov s2 ⟨x,H2,I2,rx,a,C,ex,c,n,q2⟩=>?_) hs
 subst ex
 obtain rfl:ov=Value.ref a:=rx
 rcases q2 with⟨hx,q2⟩|⟨d,fs,hx,hd,hl,q2⟩
 ·exact yS I2 hx c n ry fun d s3 nd RY I3=>⟨σ,_,I3,q2 d nd RY⟩
 ·exact wL I2 hx hd hl c n ry fun s3 I3=>⟨σ,_,I3,q2⟩
end
section
variable {prog:Program}{w:World}{A:Around}{E:Value→Shared→Prop}{h:Heap}{g:Array GenState}{dr:Drawn}{t:Nat}{os:OsState}{a C d:Addr}{o:Obj}{K:Frag}{name:Str}{v:Value}{mA:Str→Option Value}
theorem EZ {tk:Tok}{Q:Fin→Shared→Prop}{vs:Array Value}(X:K.In h) (hh:PySem.W.hasDictIn K C=true) (n:bz K C name) (hx:h.get? a=some o) (hc:o.cls = .ref C) (AJ:o.data = .fields vs) (AK:o.dict=some d) (hN:h.Ns1 d mA) (hv:mA name=some v)
  (hq:Q (.done (.ret v)) ⟨h,g,dr,t,os⟩):wpAny (model prog w) A (Builtin.«object.__getattribute__» ⟨[.ref a,.str name tk],[]⟩) Q E ⟨h,g,dr,t,os⟩:=by
 have hl:PySem.W.Looks (model prog w) h (typeLookup (.ref C) name) none:=PySem.W.looks_findIn X n
 obtain⟨cd,vQ,kJ⟩:=PySem.W.any_some hh
 have mm:PySem.W.Looks (model prog w) h (classData C) cd:=PySem.W.looks_clsIn X vQ
 repeat (any_goals (first|assumption|(with_reducible refine wpAny_loadPart_at hx ?_;rw[hc])|with_reducible refine hl.at ?_|wp_step))
 obtain⟨oc,od,oda,nv⟩:=o
 dsimp only at hc AJ AK ⊢
 subst hc AJ AK
 unfold instanceDict
 refine wpAny_bind (wpAny_loadPart hx (wpAny_bind (mm.here (s:=⟨h,g,dr,t,os⟩) ?_)))
 rw[kJ]
 refine wpAny_pure ?_
 show wpAny _ _ (nsGet d name) _ _ _
 refine wpAny_nsGet (s:=⟨h,g,dr,t,os⟩) hN.ns ?_
 rw[hv]
 exact wpAny_bind (wpAny_rule (wpAny_pure (wpAny_pure hq)))
theorem Ir {tk:Tok}{R:Result→Shared→Prop}{vs:Array Value}(X:K.In h) (c:yF K C) (hh:PySem.W.hasDictIn K C=true) (n:bz K C name) (hx:h.get? a=some o) (hc:o.cls = .ref C) (AJ:o.data = .fields vs) (AK:o.dict=some d) (hN:h.Ns1 d mA) (hv:mA name=some v)
  (hq:R (.ok (.ret v)) ⟨h,g,dr,t,os⟩):codeAny (model prog w) A (.call (.builtin "BaseException.__getattribute__") ⟨[.ref a,.str name tk],[]⟩) R ⟨h,g,dr,t,os⟩ :=
 codeAny_call_builtin F.attr_ValueError.ga.plain F.entry_bexc_ga (DU X c hx hc (EZ X hh n hx hc AJ AK hN hv hq))
theorem Iu {expr:Bool}{Q:Value→Shared→Prop}{vs:Array Value}(X:K.In h) (c:yF K C) (hh:PySem.W.hasDictIn K C=true) (n:bz K C name) (hx:h.get? a=some o) (hc:o.cls = .ref C) (AJ:o.data = .fields vs) (AK:o.dict=some d) (hN:h.Ns1 d mA) (hv:mA name=some v) (hho:handedOut v=pure v)
  (hq:Q v ⟨h,g,dr,t+1,os⟩):wpAny (model prog w) A (getAttr (.ref a) name expr) Q E ⟨h,g,dr,t,os⟩:=by
 have f3:=F.attr_ValueError.ga.bind (.ref a)
 have UX:(expr&&onTheHeap (Value.builtin "BaseException.__getattribute__"))=false:=by cases expr<;>rfl
 have hx2:(Value.builtin "BaseException.__getattribute__" == Value.builtin "object.__getattribute__")=false:=by decide +kernel
 have hx1:(onTheHeap (Value.ref C)&&Value.builtin "BaseException.__getattribute__" == Value.builtin "object.__getattribute__")=false:=by rw[hx2];rfl
 have l1:PySem.W.Looks (model prog w) h (typeLookup (.ref C) "__getattribute__") (some (.builtin "BaseException.__getattribute__")):=PySem.W.looks_findIn X c.ga
 have l2:PySem.W.Looks (model prog w) h (typeLookup (.ref C) "__getattr__") none:=PySem.W.looks_findIn X c.gt
 unfold getAttr
 repeat (any_goals (first|assumption|(with_reducible refine wpAny_loadPart_at hx ?_;rw[hc])|with_reducible refine l1.at ?_|with_reducible refine l2.at ?_|wp_step))
 refine Ir X c hh n hx hc AJ AK hN hv ?_
 repeat (any_goals (first|assumption|wp_step))
def Pe (K:Frag) (ta:TE) (f:Str):TE:=fun σ H Q=>ta σ H fun x H1=>∃a C d fs v,x = .ref a∧H1 a=some (nB a (.ref C) (some d))∧H1 d=some (.xd fs)∧yF K C∧PySem.W.hasDictIn K C=true∧bz K C f∧fs.lookup f=some v∧Q v H1
variable {X:Cx}{e:Expr}{f:Str}{pos:Pos}{ta:TE}
theorem o4 (he:PE X e ta) (hb:attributeBase e f X.env (eval e X.env)=eval e X.env:=by rfl):PE X (.Attribute e f pos) (Pe X.K ta f):=by
 intro π s σ H Q I h
 refine Ab hb (bL (he π s σ H _ I h) fun u s1 ⟨x,H1,I1,rx,a,C,d,fs,v,ex,ea,ed,c,hh,n,l,q⟩=>?_)
 subst ex
 obtain rfl:u=Value.ref a:=rx
 obtain⟨⟨o,vs,g1,g2,g3,g4,g5⟩,_,_⟩:=(show bI X.prog X.w H1 s1.heap a (nB a (.ref C) (some d)) from I1.aV a _ ea)
 obtain⟨mA,nA,r⟩:=(show bI X.prog X.w H1 s1.heap d (.xd fs) from I1.aV d _ ed)
 obtain⟨u',hu,ru⟩:=iC.some_of (v:=v) (o:=mA f) (by rw[←l];exact r f)
 have C8:=I1.oG
 have I1':=I1
 obtain⟨hp,gg,dr,tk,os⟩:=s1
 exact Iu C8 c hh n g1 g2 g4 g3 nA hu (PySem.W.handedOut_of (rX ru)) ⟨v,H1,I1'.tok _,ru,q⟩
end
end L2
namespace L2
open PySem PySem.Spec PyProof.Rows
def wM (s:Stmt) (i:Nat):Stmt:=match s with
 | .ClassDef _ _ _ body ..=>body.getD i (.Pass ⟨0,0,0,0⟩)
 | _=>.Pass ⟨0,0,0,0⟩
structure yT (K:Frag) (C:Addr) (qual:Str) (st:Stmt) (ps:List Str):Prop where
 ex:∃f fd,CT K "__init__" qual st f fd∧lH K C f=true∧PySem.W.typeIn K (.ref f)=some (.type "function")∧Binds K fd ps []
 c:yF K C
 self:PySem.W.subIn K (.ref C) (.ref C)=some true
 fl:L9 K C
theorem Iw {K:Frag}{C f:Addr}{cd:ClassData}{qual:Str}{st:Stmt}{ps:List Str}{oc:Value}{od an:Option Addr}{nv:Array (Option Value)}{kV doc pm aR ct:Value}
  (l:K.lookup f=some ⟨oc,od,.func (fnOf "__init__" qual (av st) (ar st) (ae st) .none kV doc pm an aR ct),nv⟩) (c:codeIn K aR qual=true) (kp:keepIn K (.ref f)=true)
  (hb:∀(kV doc pm:Value) (an:Option Addr) (aR ct:Value) (us:List Value),us.length=ps.length→bindArgs (fnOf "__init__" qual (av st) (ar st) (ae st) .none kV doc pm an aR ct) ⟨us,[]⟩=pure (ps.zip us))
  (x:lH K C f=true) (fn:PySem.W.typeIn K (.ref f)=some (.type "function"))
  (y1:PySem.W.findIn K (.ref C) "__getattribute__"=some (some (.builtin "BaseException.__getattribute__"))) (y2:PySem.W.findIn K (.ref C) "__getattr__"=some none) (y3:PySem.W.findIn K (.ref C) "__class__"=some (some (.builtin "object.__class__")))
  (y4:PySem.W.subIn K (.ref C) (.type "BaseException")=some true) (y5:PySem.W.subIn K (.ref C) (.type "object")=some true) (y6:PySem.W.clsIn K C=some cd) (y7:PySem.W.subIn K (.ref C) (.ref C)=some true)
  (y8:PySem.W.findIn K (.ref C) "__setattr__"=some (some (.builtin "object.__setattr__"))) (y9:yR K C=true) (y10:PySem.W.hasDictIn K C=true):yT K C qual st ps:=by
 have F:=pC (st:=st) l c kp
 exact⟨⟨f,_,F,x,fn,F.binds hb⟩,⟨y1,y2,y3,y4,y5,by rw[y6];rfl⟩,y7,⟨y8,y9,y10⟩⟩
structure Iy (P:Program) (w:World) (K:Frag) (mg:Str→Option Value) (base:Heap) (k:Nat) (C:Addr) (sp:Sp):Prop where
 ex:∃f fd ps,fj P w K mg base aS k f fd ps sp∧lH K C f=true∧PySem.W.typeIn K (.ref f)=some (.type "function")∧Binds K fd ps []
section
variable {P:Program}{w:World}{K:Frag}{mg:Str→Option Value}{base:Heap}{C:Addr}{qual:Str}{st:Stmt}{ps N:List Str}{k:Nat}{sp:Sp}
theorem yT.ok (D:yT K C qual st ps) (S:aw N ps (ae st)) (len:∀vs H Q E,sp vs H Q E→vs.length=ps.length)
  (fP:∀(f:Addr) (aR:Value) (A:Around) (outer:List Env) (s:Shared) (H:Hp) (vs:List V) (Q:VK) (E:XK),lH K C f=true→bF k (A.deeper (envOfC qual (ae st) s.heap.objs.size f aR))→sp vs H Q E →
   ∃t,oH (lr aS P w K mg base N qual (ae st) f aR A outer s H E).vR (ar st) t∧t { nx:=fun _ H'=>Q .cH H',rt:=Q } (start N vs) H):Iy P w K mg base (k+1) C sp:=by
 obtain⟨f,fd,F,q,t,b⟩:=D.ex
 exact⟨f,fd,ps,F.ok S len (fun aR A outer s H vs Q E hr h=>fP f aR A outer s H vs Q E q hr h),q,t,b⟩
variable {X:Cx}{x:Str}{np:Pos}{dB:Pos}{pos:Pos}{e:Expr}{es:List Expr}{t:TA}{E:XS}
theorem B5 (hc:X.calm=true) (hex:X.ex=[]) (hg:Gl X x) (hm:X.mg x=some (.ref C)) (D:Iy X.prog X.w X.K X.mg X.base k C sp) (hr:bF (k+1) X.A) (R:Rs X E) (ha:PA X (e::es) t)
  (oJ:(x == ("__debug__":Str))=false:=by decide) (he:starEach (e::es) X.env=(false,eval e X.env)::starEach es X.env:=by rfl) (lq:(backTo dB (starEach es X.env)).any (·.1)=false:=by rfl) :
  PS X (.Raise (some (.Call (.Name x np) (e::es) [] dB)) none pos) (AI C sp E t):=by
 obtain⟨f,fd,ps,F,q,t,b⟩:=D.ex
 exact BZ hc hex hg hm q t F hr b R ha oJ he lq
end
theorem Pf {H H3:Hp}{e d:Addr}{o1 o2 o3:HO}(s:aq H H3) (ne:H3 e=none) (nd:upd H3 e o1 d=none) (Kc:d≠e) :
  upd (upd (upd H3 e o1) e o2) d o3 e=some o2∧aq H (gI (upd (upd (upd H3 e o1) e o2) d o3) e)∧H d=none∧gI (upd (upd (upd H3 e o1) e o2) d o3) e d=some o3:=by
 have n3:H3 d=none:=by rw[aA Kc] at nd;exact nd
 have he:H e=none:=s.free ne
 refine⟨by rw[aA (Ne.symm Kc),aj],aq.gI (fun a o h=>?_) he,s.free n3,by rw[eR Kc,aj]⟩
 have h3:=s a o h
 rw[aA (aF h3 n3),aA (aF h3 ne),aA (aF h3 ne)]
 exact h3
end L2
namespace TC
open PySem L2
end TC
namespace L2
open PySem PySem.Spec PyProof.Rows
section
variable {X:Cx}
theorem E2 {P:Program}{w:World}{H:Hp}(h:Heap) (hb:sysModules<h.objs.size):bI P w H (h.push { cls:=.type "dict",data:=.dict #[] }) h.objs.size (.dK []) :=
 ⟨Nat.zero_le _,beq_eq_false_iff_ne.mpr (Ne.symm (Nat.ne_of_lt hb)),[],.nil,Heap.DictOf.new h⟩
def Ma:TE:=fun _ H Q=>∀p,H p=none→Q (.ref p) (upd H p (.dK []))
def UY:TE:=fun _ H Q=>∀p,H p=none→Q (.ref p) (upd H p (.dT []))
variable {pos:Pos}
theorem wN:PE X (.Dict [] [] pos) Ma:=fun π s σ H Q I h =>
 wpAny_Dict_empty ⟨.ref s.heap.objs.size,_,I.laid (a:=s.heap.objs.size) (o:=.dK []) (t':=s.toks) (fun _ _ q=>Heap.get?_push_of_some _ q) (Nat.le_refl _) (E2 s.heap I.big),rfl,h _ (I.aV.fresh (Nat.le_refl _))⟩
def yU:List (TE×TE)→St→Hp→(List (V×V)→Hp→Prop)→Prop
 | [],_,H,Q=>Q [] H
 | (tk,tv)::r,σ,H,Q=>tk σ H fun x H1=>tv σ H1 fun y H2=>yU r σ H2 fun ps H3=>Q ((x,y)::ps) H3
abbrev VV:List (V×V)→List (Value×Value)→Prop:=Paired fun p q=>RelV p.1 q.1∧RelV p.2 q.2
def PPs (X:Cx) (pos:Pos) (keys:List (Option Expr)) (values:List Expr) (UZ:List (TE×TE)):Prop :=
 ∀(π:List (Addr×Obj)) (s:Shared) (σ:St) (H:Hp) (Q:List (V×V)→Hp→Prop),Inv X π σ H s→yU UZ σ H Q →
  wpAny (model X.prog X.w) X.A (evalPairs (pairTrees keys values X.env pos)) (fun vs s'=>∃ps H',Inv X π σ H' s'∧VV ps vs∧Q ps H') X.xe s
def Mb (aB more:List (Key×V)):List (Key×V):=more.foldl (fun acc kv=>putK acc kv.1 kv.2) aB
def tDisp (UZ:List (TE×TE)):TE:=fun σ H Q=>∀p,H p=none→yU UZ σ (upd H p (.dK [])) fun ps H2=>H2 p=some (.dK [])∧∃aB:List (Key×V),ps=aB.map (fun kv=>(kV kv.1,kv.2))∧aB.length≤15∧Q (.ref p) (upd H2 p (.dK (Mb [] aB)))
structure M1 (X:Cx) (o:Expr) (m:Str) (apos:Pos) (e:Expr) (dB:Pos):Prop where
 base:attributeBase o m X.env (eval o X.env)=eval o X.env
 CY:((backTo dB (starEach [e] X.env)).all (fun x=>!x.1)&&(backToKw dB (keywordEach [] X.env)).all (fun x=>x.1.isSome)
  && decide (([e]:List Expr).length+([]:List Keyword).length+(if ([]:List Keyword).isEmpty then 0 else 1)<30))=true
 line:(apos.endLine == dB.line)=true
 trees:backTo dB (starEach [e] X.env)=[(false,eval e X.env)]
structure M2 (X:Cx) (o:Expr) (m:Str) (apos:Pos) (e f:Expr) (dB:Pos):Prop where
 base:attributeBase o m X.env (eval o X.env)=eval o X.env
 CY:((backTo dB (starEach [e,f] X.env)).all (fun x=>!x.1)&&(backToKw dB (keywordEach [] X.env)).all (fun x=>x.1.isSome)
  && decide (([e,f]:List Expr).length+([]:List Keyword).length+(if ([]:List Keyword).isEmpty then 0 else 1)<30))=true
 line:(apos.endLine == dB.line)=true
 trees:backTo dB (starEach [e,f] X.env)=[(false,eval e X.env),(false,eval f X.env)]
def U0 (H:Hp) (a:Addr):Prop:=(∃aB,Rd H a (.dK aB))∨∃aB,Rd H a (.dT aB)
variable {π:List (Addr×Obj)}{σ:St}{H:Hp}{s:Shared}{a:Addr}{y:V}{d:V}{u:Value}{r:Value}{o:Option V}{A:Around}{E:Value→Shared→Prop}
end
def U1 (td ty:TE):TE:=fun σ H Q=>td σ H fun x H1=>∃a,x = .ref a∧U0 H1 a∧ty σ H1 fun y H2=>∃o,wJ H2 a y o∧Q (o.getD .cH) H2
def U2 (td ty tx:TE):TE:=fun σ H Q=>td σ H fun x H1=>∃a,x = .ref a∧U0 H1 a∧ty σ H1 fun y H2=>tx σ H2 fun z H3=>∃o,wJ H3 a y o∧Q (o.getD z) H3
section
variable {X:Cx}{o e f:Expr}{apos dB:Pos}{td ty tx:TE}
structure p8 (K:Frag) (C:Addr) (m qual:Str) (st:Stmt) (ps:List Str):Prop where
 ex:∃(f:Addr) (fd:FuncData),CT K m qual st f fd∧Meth K C m f∧Binds K fd ps []
 c:qV K C
structure wO (P:Program) (w:World) (K:Frag) (mg:Str→Option Value) (base:Heap) (k:Nat) (C:Addr) (m:Str) (sp:Sp):Prop where
 ex:∃(f:Addr) (fd:FuncData) (ps:List Str),fj P w K mg base aS k f fd ps sp∧Meth K C m f∧Binds K fd ps []
 c:qV K C
structure E3 (K:Frag) (mg:Str→Option Value) (x:Str) (C:Addr) (qual:Str) (st:Stmt) (ps:List Str):Prop where
 ex:∃(f:Addr) (fd:FuncData),CT K "__init__" qual st f fd∧Mk K C f∧Binds K fd ps []
 m:mg x=some (.ref C)
 c:qV K C
structure Iz (P:Program) (w:World) (K:Frag) (mg:Str→Option Value) (base:Heap) (k:Nat) (x:Str) (C:Addr) (sp:Sp):Prop where
 ex:∃(f:Addr) (fd:FuncData) (ps:List Str),fj P w K mg base aS k f fd ps sp∧Mk K C f∧Binds K fd ps []
 m:mg x=some (.ref C)
 c:qV K C
variable {P:Program}{w:World}{K:Frag}{mg:Str→Option Value}{base:Heap}{C:Addr}{m:Str}{x:Str}{qual:Str}{st:Stmt}{ps:List Str}{N:List Str}{k:Nat}{sp:Sp}
theorem p8.ok (D:p8 K C m qual st ps) (S:aw N ps (ae st)) (len:∀vs H Q E,sp vs H Q E→vs.length=ps.length)
  (fP:∀(f:Addr) (aR:Value) (A:Around) (outer:List Env) (s:Shared) (H:Hp) (vs:List V) (Q:VK) (E:XK),bF k (A.deeper (envOfC qual (ae st) s.heap.objs.size f aR))→sp vs H Q E →
   ∃t,oH (lr aS P w K mg base N qual (ae st) f aR A outer s H E).vR (ar st) t∧t { nx:=fun _ H'=>Q .cH H',rt:=Q } (start N vs) H):wO P w K mg base (k+1) C m sp:=by
 obtain⟨f,fd,F,q,b⟩:=D.ex
 exact⟨⟨f,fd,ps,F.ok S len (fun aR A outer s H vs Q E hr h=>fP f aR A outer s H vs Q E hr h),q,b⟩,D.c⟩
theorem E3.ok (D:E3 K mg x C qual st ps) (S:aw N ps (ae st)) (len:∀vs H Q E,sp vs H Q E→vs.length=ps.length)
  (fP:∀(f:Addr) (aR:Value) (A:Around) (outer:List Env) (s:Shared) (H:Hp) (vs:List V) (Q:VK) (E:XK),bF k (A.deeper (envOfC qual (ae st) s.heap.objs.size f aR))→sp vs H Q E →
   ∃t,oH (lr aS P w K mg base N qual (ae st) f aR A outer s H E).vR (ar st) t∧t { nx:=fun _ H'=>Q .cH H',rt:=Q } (start N vs) H):Iz P w K mg base (k+1) x C sp:=by
 obtain⟨f,fd,F,q,b⟩:=D.ex
 exact⟨⟨f,fd,ps,F.ok S len (fun aR A outer s H vs Q E hr h=>fP f aR A outer s H vs Q E hr h),q,b⟩,D.m,D.c⟩
theorem uy {f:Addr}{oc:Value}{od an:Option Addr}{nv:Array (Option Value)}{kV doc pm aR ct:Value}
  (l:K.lookup f=some ⟨oc,od,.func (fnOf m qual (av st) (ar st) (ae st) .none kV doc pm an aR ct),nv⟩) (c:codeIn K aR qual=true) (kp:keepIn K (.ref f)=true)
  (hb:∀(kV doc pm:Value) (an:Option Addr) (aR ct:Value) (us:List Value),us.length=ps.length→bindArgs (fnOf m qual (av st) (ar st) (ae st) .none kV doc pm an aR ct) ⟨us,[]⟩=pure (ps.zip us))
  (a:PySem.W.findIn K (.ref C) m=some (some (.ref f))) (fn:PySem.W.isFn K (.ref f)=true) (y1:PySem.W.plainGet K C Str.empty=true) (y2:PySem.W.hasDictIn K C=true) (y3:PySem.W.plainOver K C=true) (y4:PySem.W.findIn K (.ref C) "__setattr__"=some (some (.builtin "object.__setattr__"))):p8 K C m qual st ps:=by
 have F:=pC (st:=st) l c kp
 exact⟨⟨f,_,F,⟨a,fn,kp⟩,F.binds hb⟩,⟨y1,y2,y3,y4⟩⟩
theorem IC {h:Heap}{f:Addr}{oc:Value}{od an:Option Addr}{nv:Array (Option Value)}{kV doc pm aR ct:Value}(X:K.In h) (G:h.Ns mainGlobals mg) (g:nsIn K mainGlobals x=some (some (.ref C)))
  (l:K.lookup f=some ⟨oc,od,.func (fnOf "__init__" qual (av st) (ar st) (ae st) .none kV doc pm an aR ct),nv⟩) (c:codeIn K aR qual=true) (kp:keepIn K (.ref f)=true)
  (hb:∀(kV doc pm:Value) (an:Option Addr) (aR ct:Value) (us:List Value),us.length=ps.length→bindArgs (fnOf "__init__" qual (av st) (ar st) (ae st) .none kV doc pm an aR ct) ⟨us,[]⟩=pure (ps.zip us))
  (mk:PySem.W.makesIn K C=true) (a:PySem.W.findIn K (.ref C) "__init__"=some (some (.ref f))) (fn:PySem.W.isFn K (.ref f)=true) (kc:keepIn K (.ref C)=true)
  (y1:PySem.W.plainGet K C Str.empty=true) (y2:PySem.W.hasDictIn K C=true) (y3:PySem.W.plainOver K C=true) (y4:PySem.W.findIn K (.ref C) "__setattr__"=some (some (.builtin "object.__setattr__"))):E3 K mg x C qual st ps:=by
 have F:=pC (st:=st) l c kp
 exact⟨⟨f,_,F,⟨mk,a,fn,kc⟩,F.binds hb⟩,PySem.W.mg_of X G g,⟨y1,y2,y3,y4⟩⟩
variable {p:Pos}{pos:Pos}{es:List Expr}{ta:TE}{t:TA}
theorem uA {pl:Sem Bool}(D:wO X.prog X.w X.K X.mg X.base k C m sp) (hr:bF k X.A) (he:PE X o ta) (ha:PA X (e::es) t)
  (Dh:starEach (e::es) X.env=(false,eval e X.env)::starEach es X.env:=by rfl) (lq:(backTo pos (starEach es X.env)).any (·.1)=false:=by rfl)
  (ht:eval (.Call (.Attribute o m apos) (e::es) [] pos) X.env=(do
   let ov ←eval o X.env
   standAt apos.atName
   let (f,first) ←holding [ov] (getMethod ov m pl)
   callWith pos f first (backTo pos (starEach (e::es) X.env)) (backToKw pos (keywordEach [] X.env))):=by rfl):PE X (.Call (.Attribute o m apos) (e::es) [] pos) (Ad C m sp [] E0 ta t):=by
 obtain⟨f,fd,ps,F,hm,hb⟩:=D.ex
 exact GU he D.c hm F hr hb .nil wb ha Dh lq ht
theorem ID (D:Iz X.prog X.w X.K X.mg X.base k x C sp) (hr:bF (k+1) X.A) (ha:PA X (e::es) t) (hg:Gl X x:=by rfl) (oJ:(x == ("__debug__":Str))=false:=by decide)
  (he:starEach (e::es) X.env=(false,eval e X.env)::starEach es X.env:=by rfl) (lq:(backTo pos (starEach es X.env)).any (·.1)=false:=by rfl):PE X (.Call (.Name x p) (e::es) [] pos) (JO C sp [] E0 t):=by
 obtain⟨f,fd,ps,F,M,hb⟩:=D.ex
 exact GV M F hr hg D.m hb .nil wb ha oJ he lq
theorem uB (K:Frag) {f:Str}(he:PE X e ta) (hK:X.K=K:=by rfl) (hb:attributeBase e f X.env (eval e X.env)=eval e X.env:=by rfl):PE X (.Attribute e f pos) (N9 K ta f):=hK▸KP he hb
theorem AM (K:Frag) {f:Str}{value:Expr}{tv:TE}{pos':Pos}(ha:PE X o ta) (hv:PE X value tv) (hK:X.K=K:=by rfl) (hs:swapsWith value (some (.Attribute o f pos')) pos.line X.env=pure false:=by rfl):PS X (.Assign [.Attribute o f pos'] value pos) (Oa K ta tv f):=hK▸KQ ha hv hs
end
end L2
namespace TC
open PySem L2
theorem Pg {m:Nat}(hm:m≤6) {rs ds:List Rw}(F:Fr m rs ds):∃L,Got m rs L:=by
 have step:∀i,i≤rs.length→∃C,Got m (rs.take i) C:=by
  intro i
  induction i with
  | zero =>
   intro _
   refine⟨[],⟨?_,?_,?_⟩,⟨?_,List.Pairwise.nil⟩,rfl,?_,?_⟩<;>intro _ h<;>cases h
  | succ i ih =>
   intro h
   obtain⟨C,G⟩:=ih (by omega)
   exact⟨_,(Got.step hm F (dS (by omega:i<rs.length)) G).2.2⟩
 obtain⟨L,G⟩:=step _ (Nat.le_refl _)
 rw[take_length] at G
 exact⟨L,G⟩
structure Kf (m:Nat) (rs:List Rw) (u:List Int):Prop where
 f:∃ds,Fr m rs ds
 l:rs.length=m
 v:u.length=2^m
 s:cg u
 k:∀r∈rs,lay r u=u
end TC
namespace TC
theorem E4 (n:Nat) (f:Nat→Int):eZ (n+1) f=eZ n f+f n:=by
 unfold eZ
 rw[List.range_succ,List.map_append,List.sum_append]
 simp
theorem sM {n:Nat}{f:Nat→Int}(h:∀p,p<n→f p=0):eZ n f=0:=by
 induction n with
 | zero=>rfl
 | succ n ih=>rw[E4,ih fun p hp=>h p (by omega),h n (by omega)];rfl
theorem E5 {n j:Nat}(hj:j<n) {f:Nat→Int}(h:∀p,p<n→p≠j→f p=0):eZ n f=f j:=by
 induction n with
 | zero=>omega
 | succ n ih =>
  rw[E4]
  by_cases e:j=n
  ·subst e
   rw[sM fun p hp=>h p (by omega) (by omega),Int.zero_add]
  ·rw[ih (by omega) fun p hp eY=>h p (by omega) eY,h n (by omega) (by omega),Int.add_zero]
def skp (p i:Nat):Nat:=if i<p then i else i+1
def Qs (n r:Nat) (u:Nat→Nat→Int) (v:Nat→Int):Prop:=∃(d:Int) (a:Nat→Int),d≠0∧∀c,c<n→d*v c=eZ r fun i=>a i*u i c
def Ind (n k:Nat) (v:Nat→Nat→Int):Prop:=∀x:Nat→Int,(∀c,c<n→eZ k (fun i=>x i*v i c)=0)→∀i,i<k→x i=0
def chg2 (i j k:Nat):Nat:=if k=i then j else if k=j then i else k
structure El (n R:Nat) (M L:Nat→Nat→Int) (r c:Nat) (p:Nat→Nat):Prop where
 le:r≤R
 pl:∀i,i<r→p i<c
 ne:∀i,i<r→L i (p i)≠0
 zz:∀i j,j<R→i<r→i<j→L j (p i)=0
 hz:∀k,r≤k→k<R→∀d,d<c→L k d=0
 inn:∀k,k<R→Qs n R M (L k)
 out:∀k,k<R→Qs n R L (M k)
def clrR (L:Nat→Nat→Int) (r c:Nat) (k d:Nat):Int:=if r<k∧L k c≠0 then L r c*L k d-L k c*L r d else L k d
end TC
namespace L2
open PySem PySem.Spec PyProof.Rows
abbrev U3:=Bool→Keyed→Array Keyed→Nat→Nat→Nat→StateT SortSt Sem (Option Nat)
abbrev Ph:=Array Keyed→Array Keyed→StateT SortSt Sem (Array Keyed)
abbrev U4:=Nat→StateT SortSt Sem Unit
abbrev E6:U3:=sortPriv% PySem.Builtin.gallop
abbrev U5:Ph:=sortPriv% PySem.Builtin.mergeLo
abbrev U6:Ph:=sortPriv% PySem.Builtin.mergeHi
abbrev smg:U4:=sortPriv% PySem.Builtin.setMinGallop
def uC (kf:Keyed→Nat) (left:Bool) (key x:Keyed):Bool:=if left then decide (kf x<kf key) else !decide (kf key<kf x)
section
variable {prog:Program}{w:World}{A:Around}{E:Value→Shared→Prop}{s:Shared}{kd:SortKind}{kf:Keyed→Nat}{z:Array Keyed}{st:SortSt}
theorem Jg2 {ι κ:Sort _}{C G:ι→κ→Prop}{A:Prop}(h:(∀i j,C i j→G i j)→A) (k:∀i j,C i j→G i j):A:=h k
theorem wQ (C:pW prog w A s kd kf z) (hk:kindOf st=kd) {x y:Keyed}{Q:Option Bool→SortSt→Prop}(hx:x∈z.toList) (hy:y∈z.toList) (h:Q (some (decide (kf x<kf y))) st):wpS (model prog w) A E s (lt' x y) Q st:=by
 rw[lt'_eq]
 refine wpS_bind (wpS_get ?_)
 rw[hk]
 exact wpS_bind (wpS_lift (wpAny_attempt (C x y _ _ hx hy ⟨rfl,wpS_pure h⟩)))
theorem bG {arr:Array Keyed}{i:Nat}{x:Keyed}{Q:Keyed→SortSt→Prop}(e:arr[i]?=some x) (h:Q x st):wpS (model prog w) A E s (elem' arr i) Q st:=by
 rw[elem'_eq,e]
 exact wpS_pure h
theorem IE (C:pW prog w A s kd kf z) (hk:kindOf st=kd) {left:Bool}{key x:Keyed}{arr:Array Keyed}{base i:Nat}{Q:Option Bool→SortSt→Prop}(e:arr[base+i]?=some x) (hx:x∈z.toList) (hy:key∈z.toList) (h:Q (some (uC kf left key x)) st):wpS (model prog w) A E s (elem' arr (base+i) >>= fun x=>if left=true then lt' x key else lt' key x >>= fun r=>pure (r.map fun b=>!b)) Q st:=by
 refine wpS_bind (bG e ?_)
 cases left with
 | true=>exact wQ C hk hx hy h
 | false=>exact wpS_bind (wQ C hk hy hx (wpS_pure h))
theorem uD (C:pW prog w A s kd kf z) (hk:kindOf st=kd) {left:Bool}{key:Keyed}{arr:Array Keyed}{base n hint:Nat}{xs:Nat→Keyed}{Q:Option Nat→SortSt→Prop}(hy:key∈z.toList) (hh:hint<n)
  (he:∀i,i<n→arr[base+i]?=some (xs i)∧xs i∈z.toList) (hm:∀i j,i<j→j<n→uC kf left key (xs j)=true→uC kf left key (xs i)=true)
  (h:∀k,k≤n→(∀i,i<k→uC kf left key (xs i)=true)→(∀i,k≤i→i<n→uC kf left key (xs i)=false)→Q (some k) st):wpS (model prog w) A E s (E6 left key arr base n hint) Q st:=by
 generalize hb:(fun i=>uC kf left key (xs i))=b at hm h
 have jt:∀i,uC kf left key (xs i)=b i:=fun i=>by rw[←hb]
 simp only[jt] at hm h
 clear hb
 have dn:∀i j,i≤j→j<n→b j=true→b i=true:=fun i j h1 h2 h3=>by
  rcases Nat.lt_or_eq_of_le h1 with q|rfl
  ·exact hm i j q h2 h3
  ·exact h3
 have up:∀i j,i≤j→j<n→b i=false→b j=false:=fun i j h1 h2 h3=>by
  cases q:b j with
  | false=>rfl
  | true=>rw[dn i j h1 h2 q] at h3;cases h3
 have bo:∀{i}{Q:Option Bool→SortSt→Prop}{Bv:SortSt},i<n→Bv=st→Q (some (b i)) Bv→wpS (model prog w) A E s (elem' arr (base+i) >>= fun x=>if left=true then lt' x key else lt' key x >>= fun r=>pure (r.map fun b=>!b)) Q Bv:=fun {i Q Bv} hi e q=>by
  subst e
  exact IE C hk (he i hi).1 (he i hi).2 hy (by rw[jt i];exact q)
 refine wpS_bind (bo hh rfl ?_)
 refine Jg2 (C:=fun lo hi=>lo≤hi∧hi≤n∧(∀i,i<lo→b i=true)∧(∀i,hi≤i→i<n→b i=false)) (G:=?G) (fun fin=>?ja) ?jk
 case ja =>
  dsimp only
  cases hbh:b hint with
  | true =>
   rw[if_pos rfl]
   refine wpS_bind (wpS_mono (wpS_forRange (Q:=fun c q=>q=st∧∃l o,c=(none,l,o)∧l<o∧l<n-hint∧b (hint+l)=true∧(n-hint≤o∨(o<n-hint∧b (hint+o)=false))) (fun x c q=>q=st∧∃l o,c=(none,l,o)∧l<o∧l<n-hint∧b (hint+l)=true∧x+1≤o) (fun x c q _ hx hI=>?_) (fun c q hI=>?_) ⟨rfl,0,1,rfl,by omega,by omega,hbh,by omega⟩) fun c q hI=>?_)
   ·obtain⟨hq,l,o,rfl,g1,g2,g3,g4⟩:=hI
    rw[hq]
    dsimp only
    by_cases hc:o ≥ n-hint
    ·rw[if_pos hc]
     exact wpS_pure ⟨rfl,l,o,rfl,g1,g2,g3,.inl hc⟩
    ·rw[if_neg hc]
     refine wpS_bind (bo (by omega) rfl ?_)
     dsimp only
     cases Kd:b (hint+o) with
     | true=>exact wpS_pure ⟨rfl,_,_,rfl,by omega,by omega,Kd,by omega⟩
     | false=>exact wpS_pure ⟨rfl,_,_,rfl,g1,g2,g3,.inr ⟨by omega,Kd⟩⟩
   ·obtain⟨hq,l,o,rfl,g1,g2,g3,g4⟩:=hI
    rw[hq]
    exact⟨rfl,l,o,rfl,g1,g2,g3,.inl (by omega)⟩
   ·obtain⟨hq,l,o,rfl,g1,g2,g3,g4⟩:=hI
    rw[hq]
    dsimp only
    have U7:hint+l+1≤hint+min o (n-hint)∧hint+min o (n-hint)≤n∧(∀i,i<hint+l+1→b i=true)∧(∀i,hint+min o (n-hint)≤i→i<n→b i=false):=⟨by omega,by omega,fun i hi=>dn i (hint+l) (by omega) (by omega) g3,fun i h1 h2=>by
     rcases g4 with g4|⟨g4,g5⟩
     ·omega
     ·exact up (hint+o) i (by omega) h2 g5⟩
    generalize hint+l+1=lo1 at U7 ⊢
    generalize hint+min o (n-hint)=hi1 at U7 ⊢
    exact fin lo1 hi1 U7
  | false =>
   rw[if_neg (by decide)]
   refine wpS_bind (wpS_mono (wpS_forRange (Q:=fun c q=>q=st∧∃l o,c=(none,l,o)∧l<o∧l<hint+1∧b (hint-l)=false∧(hint+1≤o∨(o<hint+1∧b (hint-o)=true))) (fun x c q=>q=st∧∃l o,c=(none,l,o)∧l<o∧l<hint+1∧b (hint-l)=false∧x+1≤o) (fun x c q _ hx hI=>?_) (fun c q hI=>?_) ⟨rfl,0,1,rfl,by omega,by omega,hbh,by omega⟩) fun c q hI=>?_)
   ·obtain⟨hq,l,o,rfl,g1,g2,g3,g4⟩:=hI
    rw[hq]
    dsimp only
    by_cases hc:o ≥ hint+1
    ·rw[if_pos hc]
     exact wpS_pure ⟨rfl,l,o,rfl,g1,g2,g3,.inl hc⟩
    ·rw[if_neg hc]
     refine wpS_bind (bo (by omega) rfl ?_)
     dsimp only
     cases Kd:b (hint-o) with
     | true=>exact wpS_pure ⟨rfl,_,_,rfl,g1,g2,g3,.inr ⟨by omega,Kd⟩⟩
     | false=>exact wpS_pure ⟨rfl,_,_,rfl,by omega,by omega,Kd,by omega⟩
   ·obtain⟨hq,l,o,rfl,g1,g2,g3,g4⟩:=hI
    rw[hq]
    exact⟨rfl,l,o,rfl,g1,g2,g3,.inl (by omega)⟩
   ·obtain⟨hq,l,o,rfl,g1,g2,g3,g4⟩:=hI
    rw[hq]
    dsimp only
    exact fin (hint+1-min o (hint+1)) (hint-l) ⟨by omega,by omega,fun i hi=>by
     rcases g4 with g4|⟨g4,g5⟩
     ·omega
     ·exact dn i (hint-o) (by omega) (by omega) g5,fun i h1 h2=>up (hint-l) i (by omega) h2 g3⟩
 case jk =>
  rintro lo hi ⟨h1,h2,h3,h4⟩
  refine wpS_bind (wpS_mono (wpS_forRange (Q:=fun c q=>q=st∧∃k,c=(none,k,k)∧k≤n∧(∀i,i<k→b i=true)∧(∀i,k≤i→i<n→b i=false)) (fun x c q=>q=st∧∃lo hi,c=(none,lo,hi)∧lo≤hi∧hi≤n∧hi-lo+x≤n∧(∀i,i<lo→b i=true)∧(∀i,hi≤i→i<n→b i=false)) (fun x c q _ hx hI=>?_) (fun c q hI=>?_) ⟨rfl,lo,hi,rfl,h1,h2,by omega,h3,h4⟩) fun c q hI=>?_)
  ·obtain⟨rfl,lo,hi,rfl,g1,g2,g3,g4,g5⟩:=hI
   dsimp only
   by_cases hc:lo ≥ hi
   ·rw[if_pos hc]
    obtain rfl:lo=hi:=by omega
    exact wpS_pure ⟨rfl,lo,rfl,g2,g4,g5⟩
   ·rw[if_neg hc]
    refine wpS_bind (bo (by omega) rfl ?_)
    dsimp only
    cases Kd:b (lo+(hi-lo)/2) with
    | true =>
     rw[if_pos rfl]
     exact wpS_pure ⟨rfl,_,_,rfl,by omega,g2,by omega,fun i uk=>dn i _ (by omega) (by omega) Kd,g5⟩
    | false =>
     rw[if_neg (by decide)]
     exact wpS_pure ⟨rfl,_,_,rfl,by omega,by omega,by omega,g4,fun i h1 h2=>up _ i h1 h2 Kd⟩
  ·obtain⟨rfl,lo,hi,rfl,g1,g2,g3,g4,g5⟩:=hI
   obtain rfl:lo=hi:=by omega
   exact⟨rfl,lo,rfl,g2,g4,g5⟩
  ·obtain⟨rfl,k,rfl,g2,g4,g5⟩:=hI
   exact wpS_pure (h k g2 g4 g5)
structure Mg (R:Keyed→Keyed→Prop) (la lb o:List Keyed) (ia ib:Nat):Prop where
 a:ia≤la.length
 b:ib≤lb.length
 s:o.Pairwise R
 c:∀x∈o,∀y,y∈la.drop ia∨y∈lb.drop ib→R x y
 p:o.Perm (la.take ia++lb.take ib)
def uE (R:Keyed→Keyed→Prop) (la lb r:List Keyed):Prop:=r.Pairwise R∧r.Perm (la++lb)
theorem Pj {α:Type}(A1 B1 A2 B2:List α):((A1++B1)++(A2++B2)).Perm ((A1++A2)++(B1++B2)):=by
 simp only[List.append_assoc]
 refine List.Perm.append_left A1 ?_
 rw[←List.append_assoc,←List.append_assoc]
 exact List.Perm.append_right B2 List.perm_append_comm
variable {R:Keyed→Keyed→Prop}{la:List Keyed}{lb:List Keyed}{o:List Keyed}{ia:Nat}{ib:Nat}
theorem Mg.symm (h:Mg R la lb o ia ib):Mg R lb la o ib ia:=⟨h.b,h.a,h.s,fun x hx y hy=>h.c x hx y hy.symm,h.p.trans List.perm_append_comm⟩
theorem Mg.nil:Mg R la lb [] 0 0:=⟨Nat.zero_le _,Nat.zero_le _,.nil,fun x hx=>(nomatch hx),by simp⟩
theorem Mg.IF (h:Mg R la lb o ia ib) (sa:la.Pairwise R) {k:Nat}(hk:ia+k≤la.length) (hc:∀x∈(la.drop ia).take k,∀y∈lb.drop ib,R x y):Mg R la lb (o++(la.drop ia).take k) (ia+k) ib:=by
 have sd:(la.drop ia).Pairwise R:=sa.sublist (List.drop_sublist ..)
 have e:(la.drop ia).take k++la.drop (ia+k)=la.drop ia:=by rw[←List.drop_drop,List.take_append_drop]
 refine⟨hk,h.b,List.pairwise_append.mpr ⟨h.s,sd.sublist (List.take_sublist ..),fun x hx y hy=>h.c x hx y (.inl (List.mem_of_mem_take hy))⟩,fun x hx y hy=>?_,?_⟩
 ·rcases mem_append.mp hx with hx|hx
  ·rcases hy with hy|hy
   ·exact h.c x hx y (.inl (by rw[←e];exact mem_append_right _ hy))
   ·exact h.c x hx y (.inr hy)
  ·rcases hy with hy|hy
   ·rw[←e] at sd
    exact(List.pairwise_append.mp sd).2.2 x hx y hy
   ·exact hc x hx y hy
 ·rw[List.take_add]
  refine(List.Perm.append_right _ h.p).trans ?_
  rw[List.append_assoc,List.append_assoc]
  exact List.Perm.append_left _ List.perm_append_comm
theorem Mg.Pk (h:Mg R la lb o ia ib) (sb:lb.Pairwise R) {k:Nat}(hk:ib+k≤lb.length) (hc:∀x∈(lb.drop ib).take k,∀y∈la.drop ia,R x y):Mg R la lb (o++(lb.drop ib).take k) ia (ib+k):=(h.symm.IF sb hk hc).symm
theorem take_one {α:Type}{l:List α}{i:Nat}{x:α}(e:l[i]?=some x):(l.drop i).take 1=[x]:=by
 obtain⟨h,rfl⟩:=List.getElem?_eq_some_iff.mp e
 rw[List.drop_eq_getElem_cons h];rfl
theorem Mg.sN (h:Mg R la lb o ia ib) (sa:la.Pairwise R) {x:Keyed}(e:la[ia]?=some x) (hc:∀y∈lb.drop ib,R x y):Mg R la lb (o++[x]) (ia+1) ib:=by
 have:=h.IF sa (k:=1) (List.getElem?_eq_some_iff.mp e).1 (by rw[take_one e];intro y hy;rw[mem_singleton.mp hy];exact hc)
 rw[take_one e] at this;exact this
theorem Mg.wR (h:Mg R la lb o ia ib) (sb:lb.Pairwise R) {x:Keyed}(e:lb[ib]?=some x) (hc:∀y∈la.drop ia,R x y):Mg R la lb (o++[x]) ia (ib+1):=(h.symm.sN sb e hc).symm
theorem Mg.close (h:Mg R la lb o ia ib) {t:List Keyed}(st:t.Pairwise R) (pt:t.Perm (la.drop ia++lb.drop ib)):uE R la lb (o++t):=by
 refine⟨List.pairwise_append.mpr ⟨h.s,st,fun x hx y hy=>h.c x hx y (mem_append.mp (pt.mem_iff.mp hy))⟩,?_⟩
 have:=(h.p.append pt).trans (Pj ..)
 rw[List.take_append_drop,List.take_append_drop] at this
 exact this
def Gs (st q:SortSt):Prop:=kindOf q=kindOf st∧arrOf q=arrOf st∧pendingOf q=pendingOf st∧failedOf q=failedOf st
theorem AN (a:Array Keyed) (i k:Nat):(a.extract i (i+k)).toList=(a.toList.drop i).take k:=by
 rw[Array.toList_extract,List.extract_eq_drop_take',List.drop_take];congr 1;omega
theorem uF (a:Array Keyed) (i:Nat):(a.extract i a.size).toList=a.toList.drop i:=by
 rw[Array.toList_extract,List.extract_eq_drop_take',←Array.length_toList,take_length]
theorem uG {n:Nat}{Q:Unit→SortSt→Prop}{q:SortSt}(g:Gs st q) (h:∀q',Gs st q'→Q () q'):wpS (model prog w) A E s (smg n) Q q:=wpS_modify (h _ g)
theorem fR {l:List Keyed}{i:Nat}{x:Keyed}(e:l[i]?=some x) {R:Keyed→Keyed→Prop}(h:l.Pairwise R) (r:R x x):∀y∈l.drop i,R x y:=fun y hy=>by
 obtain⟨hi,rfl⟩:=List.getElem?_eq_some_iff.mp e
 have sd:=h.sublist (List.drop_sublist i l)
 rw[List.drop_eq_getElem_cons hi] at hy sd
 rcases List.mem_cons.mp hy with rfl|hy
 ·exact r
 ·exact(pairwise_cons.mp sd).1 y hy
theorem Jn1 {ι:Sort _}{G:ι→Prop}{A:Prop}(h:(∀i,G i)→A) (k:∀i,G i):A:=h k
theorem Pl {ι κ:Sort _}{C G:ι→κ→Prop}{A:Prop}(h:(∀i j,C i j→G i j)→A) (k:∀i j,C i j→G i j):A:=h k
def fX (kf:Keyed→Nat) (x y:Keyed):Prop:=kf x≤kf y
theorem dy {a:Array Keyed}(ha:∀x∈a.toList,x∈z.toList) {i:Nat}(hi:i<a.size):∃x,a[i]?=some x∧a.toList[i]?=some x∧x∈z.toList :=
 ⟨a[i],Array.getElem?_eq_getElem hi,by rw[Array.getElem?_toList];exact Array.getElem?_eq_getElem hi,ha _ (Array.mem_toList_iff.mpr (Array.getElem_mem hi))⟩
theorem Ke (C:pW prog w A s kd kf z) {q:SortSt}(hk:kindOf q=kd) {key:Keyed}{a:Array Keyed}(ha:∀x∈a.toList,x∈z.toList) (sa:a.toList.Pairwise (fX kf)) {base n hint:Nat}{Q:Option Nat→SortSt→Prop}(hy:key∈z.toList) (hh:hint<n) (hn:base+n≤a.size)
  (h:∀k,k≤n→(∀i x,i<k→a.toList[base+i]?=some x→kf x≤kf key)→(∀i x,k≤i→i<n→a.toList[base+i]?=some x→kf key<kf x)→Q (some k) q):wpS (model prog w) A E s (E6 false key a base n hint) Q q:=by
 refine uD C hk (xs:=fun i=>(a[base+i]?).getD key) hy hh (fun i hi=>?_) (fun i j gP hj hb=>?_) fun k Ic h1 h2=>h k Ic (fun i x hi hx=>?_) (fun i x hi IG hx=>?_)
 ·obtain⟨x,h1,_,h3⟩:=dy ha (i:=base+i) (by omega)
  rw[h1];exact⟨rfl,h3⟩
 ·obtain⟨x,x1,x2,_⟩:=dy ha (i:=base+i) (by omega)
  obtain⟨y,y1,y2,_⟩:=dy ha (i:=base+j) (by omega)
  rw[y1] at hb
  rw[x1]
  have hle:kf x≤kf y:=by
   obtain⟨u1,e1⟩:=List.getElem?_eq_some_iff.mp x2
   obtain⟨u2,e2⟩:=List.getElem?_eq_some_iff.mp y2
   have:=List.pairwise_iff_getElem.mp sa (base+i) (base+j) u1 u2 (by omega)
   rw[e1,e2] at this;exact this
  unfold uC at hb ⊢
  rw[if_neg (by decide)] at hb ⊢
  rw[Bool.not_eq_true',decide_eq_false_iff_not] at hb ⊢
  show ¬kf key<kf x
  have hb:¬kf key<kf y:=hb
  omega
 ·have:=h1 i hi
  rw[Array.getElem?_toList] at hx
  rw[hx] at this
  unfold uC at this
  rw[if_neg (by decide),Bool.not_eq_true',decide_eq_false_iff_not] at this
  exact Nat.le_of_not_lt this
 ·have:=h2 i hi IG
  rw[Array.getElem?_toList] at hx
  rw[hx] at this
  unfold uC at this
  rw[if_neg (by decide),Bool.not_eq_false',decide_eq_true_eq] at this
  exact this
theorem Kg (C:pW prog w A s kd kf z) {q:SortSt}(hk:kindOf q=kd) {key:Keyed}{a:Array Keyed}(ha:∀x∈a.toList,x∈z.toList) (sa:a.toList.Pairwise (fX kf)) {base n hint:Nat}{Q:Option Nat→SortSt→Prop}(hy:key∈z.toList) (hh:hint<n) (hn:base+n≤a.size)
  (h:∀k,k≤n→(∀i x,i<k→a.toList[base+i]?=some x→kf x<kf key)→(∀i x,k≤i→i<n→a.toList[base+i]?=some x→kf key≤kf x)→Q (some k) q):wpS (model prog w) A E s (E6 true key a base n hint) Q q:=by
 refine uD C hk (xs:=fun i=>(a[base+i]?).getD key) hy hh (fun i hi=>?_) (fun i j gP hj hb=>?_) fun k Ic h1 h2=>h k Ic (fun i x hi hx=>?_) (fun i x hi IG hx=>?_)
 ·obtain⟨x,h1,_,h3⟩:=dy ha (i:=base+i) (by omega)
  rw[h1];exact⟨rfl,h3⟩
 ·obtain⟨x,x1,x2,_⟩:=dy ha (i:=base+i) (by omega)
  obtain⟨y,y1,y2,_⟩:=dy ha (i:=base+j) (by omega)
  rw[y1] at hb
  rw[x1]
  have hle:kf x≤kf y:=by
   obtain⟨u1,e1⟩:=List.getElem?_eq_some_iff.mp x2
   obtain⟨u2,e2⟩:=List.getElem?_eq_some_iff.mp y2
   have:=List.pairwise_iff_getElem.mp sa (base+i) (base+j) u1 u2 (by omega)
   rw[e1,e2] at this;exact this
  unfold uC at hb ⊢
  rw[if_pos rfl,decide_eq_true_eq] at hb ⊢
  exact Nat.lt_of_le_of_lt hle hb
 ·have:=h1 i hi
  rw[Array.getElem?_toList] at hx
  rw[hx] at this
  unfold uC at this
  rw[if_pos rfl,decide_eq_true_eq] at this
  exact this
 ·have:=h2 i hi IG
  rw[Array.getElem?_toList] at hx
  rw[hx] at this
  unfold uC at this
  rw[if_pos rfl,decide_eq_false_iff_not] at this
  exact Nat.le_of_not_lt this
theorem mem_mid {l:List Keyed}{i k:Nat}{x:Keyed}(h:x∈(l.drop i).take k):∃j,j<k∧l[i+j]?=some x:=by
 obtain⟨j,hj⟩:=mem_iff_getElem?.mp h
 rw[List.getElem?_take] at hj
 split at hj
 ·rename_i Pm
  exact⟨j,Pm,by rw[List.getElem?_drop] at hj;exact hj⟩
 ·cases hj
theorem nQ {l:List Keyed}{i:Nat}{x:Keyed}(h:x∈l.drop i):∃j,i+j<l.length∧l[i+j]?=some x:=by
 obtain⟨j,hj⟩:=mem_iff_getElem?.mp h
 rw[List.getElem?_drop] at hj
 exact⟨j,(List.getElem?_eq_some_iff.mp hj).1,hj⟩
theorem cP {M:Model}{α:Type}{c:Prop}[Decidable c] {p q:StateT SortSt Sem α}{Q:α→SortSt→Prop}(h1:c→wpS M A E s p Q st) (h2:¬c→wpS M A E s q Q st):wpS M A E s (if c then p else q) Q st:=by
 by_cases h:c
 ·rw[if_pos h];exact h1 h
 ·rw[if_neg h];exact h2 h
theorem Mc (C:pW prog w A s kd kf z) (hk:kindOf st=kd) {a b:Array Keyed}{Q:Array Keyed→SortSt→Prop}(ha:∀x∈a.toList,x∈z.toList) (hb:∀x∈b.toList,x∈z.toList) (sa:a.toList.Pairwise (fX kf)) (sb:b.toList.Pairwise (fX kf)) (a1:1≤a.size) (b1:1≤b.size)
  (h0:∀x y,b.toList[0]?=some x→y∈a.toList→kf x≤kf y) (hl:∀x y,x∈b.toList→a.toList[a.size-1]?=some y→kf x≤kf y)
  (h:∀r q,uE (fX kf) a.toList b.toList r.toList→Gs st q→Q r q):wpS (model prog w) A E s (U5 a b) Q st:=by
 have CZ:a.toList.length=a.size:=Array.length_toList
 have yV:b.toList.length=b.size:=Array.length_toList
 have E7:∀(out:Array Keyed) (ia ib:Nat),Mg (fX kf) a.toList b.toList out.toList ia ib→(ib=b.size∨ia=a.size)→uE (fX kf) a.toList b.toList (out++a.extract ia a.size++b.extract ib b.size).toList:=fun out ia ib m e=>by
  rw[Array.toList_append,Array.toList_append,uF,uF,List.append_assoc]
  refine m.close ?_ (.refl _)
  rcases e with rfl|rfl
  ·rw[←yV,List.drop_length,List.append_nil];exact sa.sublist (List.drop_sublist ..)
  ·rw[←CZ,List.drop_length,List.nil_append];exact sb.sublist (List.drop_sublist ..)
 have lst:∀(out:Array Keyed) (ia ib:Nat),Mg (fX kf) a.toList b.toList out.toList ia ib→ia+1=a.size→uE (fX kf) a.toList b.toList (out++b.extract ib b.size++a.extract ia a.size).toList:=fun out ia ib m e=>by
  rw[Array.toList_append,Array.toList_append,uF,uF,List.append_assoc]
  refine m.close (List.pairwise_append.mpr ⟨sb.sublist (List.drop_sublist ..),sa.sublist (List.drop_sublist ..),fun x hx y hy=>?_⟩) List.perm_append_comm
  obtain⟨j,hj,ej⟩:=nQ hy
  exact hl x y (List.mem_of_mem_drop hx) (by rw[←ej];congr 1;omega)
 refine wpS_bind (wpS_lift (wpAny_rule ⟨rfl,?_⟩))
 obtain⟨b0,eb0,Pn,zb0⟩:=dy hb (i:=0) (by omega)
 refine wpS_bind (bG eb0 ?_)
 have m0:Mg (fX kf) a.toList b.toList (#[b0]:Array Keyed).toList 0 1:=(Mg.nil (la:=a.toList) (lb:=b.toList)).wR sb Pn (fun y hy=>h0 b0 y Pn hy)
 dsimp only
 by_cases oO:1=b.size
 ·rw[if_pos (by rw[←oO];rfl)]
  exact wpS_pure (h _ _ (E7 _ 0 1 m0 (.inl oO)) ⟨rfl,rfl,rfl,rfl⟩)
 rw[if_neg (by simpa using oO)]
 by_cases sO:0+1=a.size
 ·rw[if_pos (by rw[←sO];rfl)]
  exact wpS_pure (h _ _ (lst _ 0 1 m0 sO) ⟨rfl,rfl,rfl,rfl⟩)
 rw[if_neg (by simpa using sO)]
 refine wpS_bind (wpS_get ?_)
 refine wpS_bind (wpS_mono (wpS_forRange (Q:=fun c q=>Gs st q∧∃r,c.1=some r∧uE (fX kf) a.toList b.toList r.toList) (fun x c q=>Gs st q∧∃out ia ib g,c=(none,out,ia,ib,g)∧Mg (fX kf) a.toList b.toList out.toList ia ib∧ia+1<a.size∧ib<b.size∧x≤ia+ib) (fun x c q _ hx hI=>?_) (fun c q hI=>?_) ⟨⟨rfl,rfl,rfl,rfl⟩,_,_,_,_,rfl,m0,by omega,by omega,by omega⟩) fun c q hI=>?_)
 rotate_left
 ·obtain⟨_,out,ia,ib,g,rfl,_,h1,h2,h3⟩:=hI
  exfalso;omega
 ·obtain⟨g,r,e,hr⟩:=hI
  rw[e]
  exact wpS_pure (h r q hr g)
 ·obtain⟨gs,out,ia,ib,g,rfl,mg,h1,h2,h3⟩:=hI
  have U8:1≤a.size+b.size:=by omega
  refine wpS_bind (wpS_mono (wpS_forRange (Q:=fun c q=>Gs st q∧((∃r,c.1=some r∧uE (fX kf) a.toList b.toList r.toList)∨∃out iM gk ac bc,c=(none,out,iM,gk,ac,bc)∧Mg (fX kf) a.toList b.toList out.toList iM gk∧iM+1<a.size∧gk<b.size∧ia+ib+1≤iM+gk)) (fun x c q=>Gs st q∧∃out iM gk ac bc,c=(none,out,iM,gk,ac,bc)∧Mg (fX kf) a.toList b.toList out.toList iM gk∧iM+1<a.size∧gk<b.size∧iM+gk=ia+ib+x) (fun x c q _ hx hI=>?_) (fun c q hI=>?_) ⟨gs,_,_,_,_,_,rfl,mg,h1,h2,rfl⟩) fun c q hI=>?_)
  ·clear mg h1 h2 gs
   obtain⟨gs,out,iM,gk,ac,bc,rfl,mg,h1,h2,h4⟩:=hI
   dsimp only
   obtain⟨xb,eb,E8,zb⟩:=dy hb (i:=gk) h2
   obtain⟨xa,ea,IH,za⟩:=dy ha (i:=iM) (by omega)
   refine wpS_bind (bG eb ?_)
   refine wpS_bind (bG ea ?_)
   refine wpS_bind (wQ C (gs.1.trans hk) zb za ?_)
   dsimp only
   by_cases bR:kf xb<kf xa
   ·rw[decide_eq_true bR,if_pos rfl]
    refine wpS_bind (bG eb ?_)
    have uH:=mg.wR sb E8 (fun y hy=>Nat.le_trans (Nat.le_of_lt bR) (fR IH sa (Nat.le_refl _) y hy))
    rw[←Array.toList_push] at uH
    by_cases hd:gk+1=b.size
    ·rw[if_pos (by simpa using hd)]
     exact wpS_pure ⟨gs,.inl ⟨_,rfl,E7 _ _ _ uH (.inl hd)⟩⟩
    ·rw[if_neg (by simpa using hd)]
     refine cP (fun _=>wpS_pure ⟨gs,.inr ⟨_,_,_,_,_,rfl,uH,h1,by omega,by omega⟩⟩) (fun _=>wpS_pure ⟨gs,_,_,_,_,_,rfl,uH,h1,by omega,by omega⟩)
   ·rw[decide_eq_false bR,if_neg (by decide)]
    refine wpS_bind (bG ea ?_)
    have uH:=mg.sN sa IH (fun y hy=>Nat.le_trans (Nat.le_of_not_lt bR) (fR E8 sb (Nat.le_refl _) y hy))
    rw[←Array.toList_push] at uH
    by_cases hd:iM+1+1=a.size
    ·rw[if_pos (by simpa using hd)]
     exact wpS_pure ⟨gs,.inl ⟨_,rfl,lst _ _ _ uH hd⟩⟩
    ·rw[if_neg (by simpa using hd)]
     refine cP (fun _=>wpS_pure ⟨gs,.inr ⟨_,_,_,_,_,rfl,uH,by omega,h2,by omega⟩⟩) (fun _=>wpS_pure ⟨gs,_,_,_,_,_,rfl,uH,by omega,h2,by omega⟩)
  ·obtain⟨gs,out,iM,gk,ac,bc,rfl,mg,h1,h2,h4⟩:=hI
   exact⟨gs,.inr ⟨_,_,_,_,_,rfl,mg,h1,h2,by omega⟩⟩
  ·obtain⟨gs,⟨r,e,hr⟩|⟨out,iM,gk,ac,bc,rfl,mg,h1,h2,h4⟩⟩:=hI
   ·rw[e]
    exact wpS_pure ⟨gs,_,rfl,hr⟩
   dsimp only
   refine wpS_bind (wpS_lift (wpAny_rule ⟨rfl,?_⟩))
   refine wpS_bind (wpS_mono (wpS_forRange (Q:=fun c q=>Gs st q∧((∃r,c.1=some r∧uE (fX kf) a.toList b.toList r.toList)∨∃out iM gk g ac bc,c=(none,out,iM,gk,g,ac,bc)∧Mg (fX kf) a.toList b.toList out.toList iM gk∧iM+1<a.size∧gk<b.size∧ia+ib+1≤iM+gk)) (fun x c q=>Gs st q∧∃out iM gk g ac bc,c=(none,out,iM,gk,g,ac,bc)∧Mg (fX kf) a.toList b.toList out.toList iM gk∧iM+1<a.size∧gk<b.size∧ia+ib+1≤iM+gk) (fun x c q _ hx hI=>?_) (fun c q hI=>?_) ⟨gs,_,_,_,_,_,_,rfl,mg,h1,h2,h4⟩) fun c q hI=>?_)
   ·clear mg h1 h2 h4 gs
    obtain⟨gs,out,iM,gk,g,ac,bc,rfl,mg,h1,h2,h4⟩:=hI
    dsimp only
    refine Jn1 (ι:=Nat) (G:=?G0) (fun rest=>?j0) ?k0
    case j0 =>
     refine cP (fun _=>?_) (fun _=>?_)
     ·generalize g-1=g1
      exact rest g1
     ·exact rest g
    case k0 =>
    intro g1
    refine wpS_bind (uG gs fun q' p9=>?_)
    obtain⟨xb,eb,E8,zb⟩:=dy hb (i:=gk) h2
    refine wpS_bind (bG eb ?_)
    refine wpS_bind (Ke C (p9.1.trans hk) ha sa zb (by omega) (by omega) fun k k1 k2 k3=>?_)
    dsimp only
    have Gu:=mg.IF sa (k:=k) (by omega) (fun x hx y hy=>by
     obtain⟨j,hj,ej⟩:=mem_mid hx
     exact Nat.le_trans (k2 j x hj ej) (fR E8 sb (Nat.le_refl _) y hy))
    rw[←AN,←Array.toList_append] at Gu
    have yW:∀y∈a.toList.drop (iM+k),kf xb≤kf y:=fun y hy=>by
     obtain⟨j,hj,ej⟩:=nQ hy
     exact Nat.le_of_lt (k3 (k+j) y (by omega) (by omega) (by rw[←ej];congr 1;omega))
    clear k2 k3
    refine Pl (C:=fun(o:Array Keyed) (i:Nat)=>Mg (fX kf) a.toList b.toList o.toList i gk∧i+1<a.size∧(∀y∈a.toList.drop i,kf xb≤kf y)∧ia+ib+1≤i+gk) (G:=?G1) (fun rest=>?j1) ?k1
    case j1 =>
     refine cP (fun k0=>?_) (fun k0=>?_)
     ·by_cases oO:iM+k+1=a.size
      ·rw[if_pos (by simpa using oO)]
       exact wpS_pure ⟨p9,.inl ⟨_,rfl,lst _ _ _ Gu oO⟩⟩
      rw[if_neg (by simpa using oO)]
      by_cases sO:iM+k=a.size
      ·rw[if_pos (by simpa using sO)]
       exact wpS_pure ⟨p9,.inl ⟨_,rfl,E7 _ _ _ Gu (.inr sO)⟩⟩
      rw[if_neg (by simpa using sO)]
      have hh:Mg (fX kf) a.toList b.toList (out++a.extract iM (iM+k)).toList (iM+k) gk∧iM+k+1<a.size∧(∀y∈a.toList.drop (iM+k),kf xb≤kf y)∧ia+ib+1≤iM+k+gk:=⟨Gu,by omega,yW,by omega⟩
      generalize out++a.extract iM (iM+k)=nR at hh ⊢
      generalize iM+k=Gv at hh ⊢
      exact rest nR Gv hh
     ·have U9:k=0:=by omega
      exact rest out iM ⟨mg,h1,by have:=yW;rw[U9] at this;exact this,h4⟩
    case k1 =>
    clear Gu mg yW h1 h4
    rintro nR Gv ⟨Va,hi1,yW,h5⟩
    refine wpS_bind (bG eb ?_)
    have II:=Va.wR sb E8 yW
    rw[←Array.toList_push] at II
    by_cases hd:gk+1=b.size
    ·rw[if_pos (by simpa using hd)]
     exact wpS_pure ⟨p9,.inl ⟨_,rfl,E7 _ _ _ II (.inl hd)⟩⟩
    rw[if_neg (by simpa using hd)]
    obtain⟨xa,ea,IH,za⟩:=dy ha (i:=Gv) (by omega)
    refine wpS_bind (bG ea ?_)
    refine wpS_bind (Kg C (p9.1.trans hk) hb sb za (by omega) (by omega) fun l l1 l2 l3=>?_)
    dsimp only
    have Kh:=II.Pk sb (k:=l) (by omega) (fun x hx y hy=>by
     obtain⟨j,hj,ej⟩:=mem_mid hx
     exact Nat.le_trans (Nat.le_of_lt (l2 j x hj ej)) (fR IH sa (Nat.le_refl _) y hy))
    rw[←AN,←Array.toList_append] at Kh
    have vI:∀y∈b.toList.drop (gk+1+l),kf xa≤kf y:=fun y hy=>by
     obtain⟨j,hj,ej⟩:=nQ hy
     exact l3 (l+j) y (by omega) (by omega) (by rw[←ej];congr 1;omega)
    clear l2 l3
    refine Pl (C:=fun(o:Array Keyed) (i:Nat)=>Mg (fX kf) a.toList b.toList o.toList Gv i∧i<b.size∧(∀y∈b.toList.drop i,kf xa≤kf y)∧ia+ib+1≤Gv+i) (G:=?G2) (fun rest=>?j2) ?k2
    case j2 =>
     refine cP (fun l0=>?_) (fun l0=>?_)
     ·by_cases oO:gk+1+l=b.size
      ·rw[if_pos (by simpa using oO)]
       exact wpS_pure ⟨p9,.inl ⟨_,rfl,E7 _ _ _ Kh (.inl oO)⟩⟩
      rw[if_neg (by simpa using oO)]
      have hh:Mg (fX kf) a.toList b.toList (nR.push xb++b.extract (gk+1) (gk+1+l)).toList Gv (gk+1+l)∧gk+1+l<b.size∧(∀y∈b.toList.drop (gk+1+l),kf xa≤kf y)∧ia+ib+1≤Gv+(gk+1+l):=⟨Kh,by omega,vI,by omega⟩
      generalize nR.push xb++b.extract (gk+1) (gk+1+l)=E9 at hh ⊢
      generalize gk+1+l=ib2 at hh ⊢
      exact rest E9 ib2 hh
     ·have Vb:l=0:=by omega
      have hh:Mg (fX kf) a.toList b.toList (nR.push xb).toList Gv (gk+1)∧gk+1<b.size∧(∀y∈b.toList.drop (gk+1),kf xa≤kf y)∧ia+ib+1≤Gv+(gk+1):=⟨II,by omega,by have:=vI;rw[Vb] at this;exact this,by omega⟩
      exact rest (nR.push xb) (gk+1) hh
    case k2 =>
    rintro E9 ib2 ⟨Vc,C1,vI,h6⟩
    refine wpS_bind (bG ea ?_)
    have IJ:=Vc.sN sa IH vI
    rw[←Array.toList_push] at IJ
    by_cases hd:Gv+1+1=a.size
    ·rw[if_pos (by simpa using hd)]
     exact wpS_pure ⟨p9,.inl ⟨_,rfl,lst _ _ _ IJ hd⟩⟩
    rw[if_neg (by simpa using hd)]
    exact cP (fun _=>wpS_pure ⟨p9,.inr ⟨_,_,_,_,_,_,rfl,IJ,by omega,C1,by omega⟩⟩) (fun _=>wpS_pure ⟨p9,_,_,_,_,_,_,rfl,IJ,by omega,C1,by omega⟩)
   ·obtain⟨gs,out,iM,gk,g,ac,bc,rfl,mg,h1,h2,h4⟩:=hI
    exact⟨gs,.inr ⟨_,_,_,_,_,_,rfl,mg,h1,h2,h4⟩⟩
   ·obtain⟨gs,⟨r,e,hr⟩|⟨out,iM,gk,g,ac,bc,rfl,mg,h1,h2,h4⟩⟩:=hI
    ·rw[e]
     exact wpS_pure ⟨gs,_,rfl,hr⟩
    dsimp only
    refine wpS_bind (uG gs fun q' p9=>?_)
    exact wpS_pure ⟨p9,_,_,_,_,rfl,mg,h1,h2,by omega⟩
def wU (kf:Keyed→Nat) (x y:Keyed):Prop:=kf y≤kf x
theorem kU {l:List Keyed}(n:Nat):(l.take n).reverse=l.reverse.drop (l.length-n):=List.reverse_take
theorem wV {l:List Keyed}{n:Nat}{x:Keyed}(h:1≤n) (hn:n≤l.length) (e:l[n-1]?=some x):l.reverse[l.length-n]?=some x:=by
 rw[List.getElem?_reverse (by omega),←e];congr 1;omega
theorem yX {l:List Keyed}{n:Nat}{x:Keyed}(h:x∈l.reverse.drop (l.length-n)):∃i,i<n∧l[i]?=some x:=by
 rw[←kU,List.mem_reverse] at h
 obtain⟨j,hj⟩:=mem_iff_getElem?.mp h
 rw[List.getElem?_take] at hj
 split at hj
 ·rename_i Pm;exact⟨j,Pm,hj⟩
 ·cases hj
theorem yY {l:List Keyed}{k n:Nat}(hn:n≤l.length):((l.take n).drop k).reverse=(l.reverse.drop (l.length-n)).take (n-k):=by
 rw[←kU,List.reverse_drop,length_take,Nat.min_eq_left hn]
theorem sP {l:List Keyed}{k n:Nat}{x:Keyed}(hn:n≤l.length) (h:x∈(l.reverse.drop (l.length-n)).take (n-k)):∃i,k≤i∧i<n∧l[i]?=some x:=by
 rw[←yY hn,List.mem_reverse] at h
 obtain⟨j,hj⟩:=mem_iff_getElem?.mp h
 rw[List.getElem?_drop,List.getElem?_take] at hj
 split at hj
 ·rename_i Pm;exact⟨k+j,by omega,Pm,hj⟩
 ·cases hj
theorem Ki (a:Array Keyed) (k n:Nat):(a.extract k n).reverse.toList=((a.toList.take n).drop k).reverse:=by
 rw[Array.toList_reverse,Array.toList_extract,List.extract_eq_drop_take']
theorem IK (a:Array Keyed) (n:Nat):(a.extract 0 n).toList=a.toList.take n:=by
 rw[Array.toList_extract,List.extract_eq_drop_take'];rfl
theorem uE.rv {kf:Keyed→Nat}{la lb r:List Keyed}(h:uE (wU kf) la.reverse lb.reverse r.reverse):uE (fX kf) la lb r:=by
 refine⟨(List.pairwise_reverse.mp h.1).imp fun h=>h,?_⟩
 have:=h.2
 exact((List.reverse_perm r).symm.trans this).trans ((List.reverse_perm la).append (List.reverse_perm lb))
theorem Me (C:pW prog w A s kd kf z) (hk:kindOf st=kd) {a b:Array Keyed}{Q:Array Keyed→SortSt→Prop}(ha:∀x∈a.toList,x∈z.toList) (hb:∀x∈b.toList,x∈z.toList) (sa:a.toList.Pairwise (fX kf)) (sb:b.toList.Pairwise (fX kf)) (a1:1≤a.size) (b1:1≤b.size)
  (h0:∀x y,b.toList[0]?=some x→y∈a.toList→kf x≤kf y) (hl:∀x y,x∈b.toList→a.toList[a.size-1]?=some y→kf x≤kf y)
  (h:∀r q,uE (fX kf) a.toList b.toList r.toList→Gs st q→Q r q):wpS (model prog w) A E s (U6 a b) Q st:=by
 have CZ:a.toList.length=a.size:=Array.length_toList
 have yV:b.toList.length=b.size:=Array.length_toList
 have ra:a.toList.reverse.Pairwise (wU kf):=List.pairwise_reverse.mpr (sa.imp fun h=>h)
 have rb:b.toList.reverse.Pairwise (wU kf):=List.pairwise_reverse.mpr (sb.imp fun h=>h)
 have E7:∀(out:Array Keyed) (na nb:Nat),Mg (wU kf) a.toList.reverse b.toList.reverse out.toList (a.toList.length-na) (b.toList.length-nb)→(na=0∨nb=0)→uE (fX kf) a.toList b.toList (a.extract 0 na++b.extract 0 nb++out.reverse).toList:=fun out na nb m e=>by
  refine uE.rv ?_
  rw[Array.toList_append,Array.toList_append,Array.toList_reverse,List.reverse_append,List.reverse_reverse,IK,IK,List.reverse_append,kU,kU]
  refine m.close ?_ List.perm_append_comm
  rcases e with rfl|rfl
  ·rw[Nat.sub_zero,←List.length_reverse (as:=a.toList),List.drop_length,List.append_nil];exact rb.sublist (List.drop_sublist ..)
  ·rw[Nat.sub_zero,←List.length_reverse (as:=b.toList),List.drop_length,List.nil_append];exact ra.sublist (List.drop_sublist ..)
 have fst:∀(out:Array Keyed) (na nb:Nat),Mg (wU kf) a.toList.reverse b.toList.reverse out.toList (a.toList.length-na) (b.toList.length-nb)→nb=1→uE (fX kf) a.toList b.toList (b.extract 0 nb++a.extract 0 na++out.reverse).toList:=fun out na nb m e=>by
  refine uE.rv ?_
  rw[Array.toList_append,Array.toList_append,Array.toList_reverse,List.reverse_append,List.reverse_reverse,IK,IK,List.reverse_append,kU,kU]
  refine m.close (List.pairwise_append.mpr ⟨ra.sublist (List.drop_sublist ..),rb.sublist (List.drop_sublist ..),fun x hx y hy=>?_⟩) (.refl _)
  obtain⟨j,hj,ej⟩:=yX hy
  obtain rfl:j=0:=by omega
  exact h0 y x ej (List.mem_reverse.mp (List.mem_of_mem_drop hx))
 refine wpS_bind (wpS_lift (wpAny_rule ⟨rfl,?_⟩))
 obtain⟨x0,ex0,Po,zx0⟩:=dy ha (i:=a.size-1) (by omega)
 refine wpS_bind (bG ex0 ?_)
 have m0:Mg (wU kf) a.toList.reverse b.toList.reverse (#[x0]:Array Keyed).toList (a.toList.length-(a.size-1)) (b.toList.length-b.size):=by
  have:=(Mg.nil (R:=wU kf) (la:=a.toList.reverse) (lb:=b.toList.reverse)).sN ra (x:=x0) (by have:=wV (l:=a.toList) (n:=a.size) (by omega) (by omega) Po;rw[CZ,Nat.sub_self] at this;exact this) (fun y hy=>hl y x0 (List.mem_reverse.mp (List.mem_of_mem_drop hy)) Po)
  rw[CZ,yV,Nat.sub_self,show a.size-(a.size-1)=0+1 by omega]
  exact this
 dsimp only
 by_cases oO:a.size-1=0
 ·rw[if_pos (by rw[oO];rfl)]
  exact wpS_pure (h _ _ (E7 _ _ _ m0 (.inl oO)) ⟨rfl,rfl,rfl,rfl⟩)
 rw[if_neg (by simpa using oO)]
 by_cases sO:b.size=1
 ·rw[if_pos (by rw[sO];rfl)]
  exact wpS_pure (h _ _ (fst _ _ _ m0 sO) ⟨rfl,rfl,rfl,rfl⟩)
 rw[if_neg (by simpa using sO)]
 refine wpS_bind (wpS_get ?_)
 refine wpS_bind (wpS_mono (wpS_forRange (Q:=fun c q=>Gs st q∧∃r,c.1=some r∧uE (fX kf) a.toList b.toList r.toList) (fun x c q=>Gs st q∧∃na nb out g,c=(none,na,nb,out,g)∧Mg (wU kf) a.toList.reverse b.toList.reverse out.toList (a.toList.length-na) (b.toList.length-nb)∧1≤na∧na≤a.size∧2≤nb∧nb≤b.size∧x+na+nb≤a.size+b.size) (fun x c q _ hx hI=>?_) (fun c q hI=>?_) ⟨⟨rfl,rfl,rfl,rfl⟩,_,_,_,_,rfl,m0,by omega,by omega,by omega,by omega,by omega⟩) fun c q hI=>?_)
 rotate_left
 ·obtain⟨_,na,nb,out,g,rfl,_,h1,h2,h3,h4,h5⟩:=hI
  exfalso;omega
 ·obtain⟨g,r,e,hr⟩:=hI
  rw[e]
  exact wpS_pure (h r q hr g)
 ·obtain⟨gs,na,nb,out,g,rfl,mg,h1,h2,h3,h4,h5⟩:=hI
  dsimp only
  refine wpS_bind (wpS_mono (wpS_forRange (Q:=fun c q=>Gs st q∧((∃r,c.1=some r∧uE (fX kf) a.toList b.toList r.toList)∨∃iG fI out ac bc,c=(none,iG,fI,out,ac,bc)∧Mg (wU kf) a.toList.reverse b.toList.reverse out.toList (a.toList.length-iG) (b.toList.length-fI)∧1≤iG∧iG≤a.size∧2≤fI∧fI≤b.size∧iG+fI+1≤na+nb)) (fun x c q=>Gs st q∧∃iG fI out ac bc,c=(none,iG,fI,out,ac,bc)∧Mg (wU kf) a.toList.reverse b.toList.reverse out.toList (a.toList.length-iG) (b.toList.length-fI)∧1≤iG∧iG≤a.size∧2≤fI∧fI≤b.size∧iG+fI+x=na+nb) (fun x c q _ hx hI=>?_) (fun c q hI=>?_) ⟨gs,_,_,_,_,_,rfl,mg,h1,h2,h3,h4,rfl⟩) fun c q hI=>?_)
  ·clear mg h1 h2 h3 h4 gs
   obtain⟨gs,iG,fI,out,ac,bc,rfl,mg,h1,h2,h3,h4,h6⟩:=hI
   dsimp only
   obtain⟨xb,eb,E8,zb⟩:=dy hb (i:=fI-1) (by omega)
   obtain⟨xa,ea,IH,za⟩:=dy ha (i:=iG-1) (by omega)
   have IL:=wV (by omega) (by omega) E8
   have Pp:=wV (by omega) (by omega) IH
   refine wpS_bind (bG eb ?_)
   refine wpS_bind (bG ea ?_)
   refine wpS_bind (wQ C (gs.1.trans hk) zb za ?_)
   dsimp only
   by_cases bR:kf xb<kf xa
   ·rw[decide_eq_true bR,if_pos rfl]
    refine wpS_bind (bG ea ?_)
    have uH:=mg.sN ra Pp (fun y hy=>Nat.le_trans (fR IL rb (Nat.le_refl _) y hy) (Nat.le_of_lt bR))
    rw[←Array.toList_push,show a.toList.length-iG+1=a.toList.length-(iG-1) by omega] at uH
    by_cases hd:iG-1=0
    ·rw[if_pos (by simpa using hd)]
     exact wpS_pure ⟨gs,.inl ⟨_,rfl,E7 _ _ _ uH (.inl hd)⟩⟩
    ·rw[if_neg (by simpa using hd)]
     refine cP (fun _=>wpS_pure ⟨gs,.inr ⟨_,_,_,_,_,rfl,uH,by omega,by omega,h3,h4,by omega⟩⟩) (fun _=>wpS_pure ⟨gs,_,_,_,_,_,rfl,uH,by omega,by omega,h3,h4,by omega⟩)
   ·rw[decide_eq_false bR,if_neg (by decide)]
    refine wpS_bind (bG eb ?_)
    have uH:=mg.wR rb IL (fun y hy=>Nat.le_trans (fR Pp ra (Nat.le_refl _) y hy) (Nat.le_of_not_lt bR))
    rw[←Array.toList_push,show b.toList.length-fI+1=b.toList.length-(fI-1) by omega] at uH
    by_cases hd:fI-1=1
    ·rw[if_pos (by simpa using hd)]
     exact wpS_pure ⟨gs,.inl ⟨_,rfl,fst _ _ _ uH hd⟩⟩
    ·rw[if_neg (by simpa using hd)]
     refine cP (fun _=>wpS_pure ⟨gs,.inr ⟨_,_,_,_,_,rfl,uH,h1,h2,by omega,by omega,by omega⟩⟩) (fun _=>wpS_pure ⟨gs,_,_,_,_,_,rfl,uH,h1,h2,by omega,by omega,by omega⟩)
  ·obtain⟨gs,iG,fI,out,ac,bc,rfl,mg,h1,h2,h3,h4,h6⟩:=hI
   exact⟨gs,.inr ⟨_,_,_,_,_,rfl,mg,h1,h2,h3,h4,by omega⟩⟩
  ·obtain⟨gs,⟨r,e,hr⟩|⟨iG,fI,out,ac,bc,rfl,mg,h1,h2,h3,h4,h6⟩⟩:=hI
   ·rw[e]
    exact wpS_pure ⟨gs,_,rfl,hr⟩
   dsimp only
   refine wpS_bind (wpS_lift (wpAny_rule ⟨rfl,?_⟩))
   refine wpS_bind (wpS_mono (wpS_forRange (Q:=fun c q=>Gs st q∧((∃r,c.1=some r∧uE (fX kf) a.toList b.toList r.toList)∨∃iG fI out g ac bc,c=(none,iG,fI,out,g,ac,bc)∧Mg (wU kf) a.toList.reverse b.toList.reverse out.toList (a.toList.length-iG) (b.toList.length-fI)∧1≤iG∧iG≤a.size∧2≤fI∧fI≤b.size∧iG+fI+1≤na+nb)) (fun x c q=>Gs st q∧∃iG fI out g ac bc,c=(none,iG,fI,out,g,ac,bc)∧Mg (wU kf) a.toList.reverse b.toList.reverse out.toList (a.toList.length-iG) (b.toList.length-fI)∧1≤iG∧iG≤a.size∧2≤fI∧fI≤b.size∧iG+fI+1≤na+nb) (fun x c q _ hx hI=>?_) (fun c q hI=>?_) ⟨gs,_,_,_,_,_,_,rfl,mg,h1,h2,h3,h4,h6⟩) fun c q hI=>?_)
   ·clear mg h1 h2 h3 h4 h6 gs
    obtain⟨gs,iG,fI,out,g,ac,bc,rfl,mg,h1,h2,h3,h4,h6⟩:=hI
    dsimp only
    refine Jn1 (ι:=Nat) (G:=?G0) (fun rest=>?j0) ?k0
    case j0 =>
     refine cP (fun _=>?_) (fun _=>?_)
     ·generalize g-1=g1
      exact rest g1
     ·exact rest g
    case k0 =>
    intro g1
    refine wpS_bind (uG gs fun q' p9=>?_)
    obtain⟨xb,eb,E8,zb⟩:=dy hb (i:=fI-1) (by omega)
    have IL:=wV (by omega) (by omega) E8
    refine wpS_bind (bG eb ?_)
    refine wpS_bind (Ke C (p9.1.trans hk) ha sa zb (by omega) (by omega) fun k k1 k2 k3=>?_)
    dsimp only
    have Gu:=mg.IF ra (k:=iG-k) (by rw[List.length_reverse];omega) (fun x hx y hy=>by
     obtain⟨j,RZ,R7,ej⟩:=sP (by omega) hx
     exact Nat.le_trans (fR IL rb (Nat.le_refl _) y hy) (Nat.le_of_lt (k3 j x RZ R7 (by rw[Nat.zero_add];exact ej))))
    rw[←yY (by omega),←Ki,←Array.toList_append,show a.toList.length-iG+(iG-k)=a.toList.length-k by omega] at Gu
    have yW:∀y∈a.toList.reverse.drop (a.toList.length-k),kf y≤kf xb:=fun y hy=>by
     obtain⟨j,hj,ej⟩:=yX hy
     exact k2 j y hj (by rw[Nat.zero_add];exact ej)
    clear k2 k3
    obtain⟨kk,DK⟩:∃kk,iG-k=kk:=⟨_,rfl⟩
    rw[DK]
    refine Pl (C:=fun(n:Nat) (o:Array Keyed)=>Mg (wU kf) a.toList.reverse b.toList.reverse o.toList (a.toList.length-n) (b.toList.length-fI)∧1≤n∧n≤a.size∧(∀y∈a.toList.reverse.drop (a.toList.length-n),kf y≤kf xb)∧n+fI+1≤na+nb) (G:=?G1) (fun rest=>?j1) ?k1
    case j1 =>
     refine cP (fun k0=>?_) (fun k0=>?_)
     ·by_cases oO:k=0
      ·rw[if_pos (by simpa using oO)]
       exact wpS_pure ⟨p9,.inl ⟨_,rfl,E7 _ _ _ Gu (.inl oO)⟩⟩
      rw[if_neg (by simpa using oO)]
      have hh:Mg (wU kf) a.toList.reverse b.toList.reverse (out++(a.extract k iG).reverse).toList (a.toList.length-k) (b.toList.length-fI)∧1≤k∧k≤a.size∧(∀y∈a.toList.reverse.drop (a.toList.length-k),kf y≤kf xb)∧k+fI+1≤na+nb:=⟨Gu,by omega,by omega,yW,by omega⟩
      generalize out++(a.extract k iG).reverse=nR at hh ⊢
      generalize k=k' at hh ⊢
      exact rest k' nR hh
     ·have U9:k=iG:=by omega
      exact rest iG out ⟨mg,h1,h2,by have:=yW;rw[U9] at this;exact this,h6⟩
    case k1 =>
    clear Gu mg yW h1 h2 h6
    rintro Gw nR ⟨Va,n1,n2,yW,h5⟩
    refine wpS_bind (bG eb ?_)
    have II:=Va.wR rb IL yW
    rw[←Array.toList_push,show b.toList.length-fI+1=b.toList.length-(fI-1) by omega] at II
    by_cases hd:fI-1=1
    ·rw[if_pos (by simpa using hd)]
     exact wpS_pure ⟨p9,.inl ⟨_,rfl,fst _ _ _ II hd⟩⟩
    rw[if_neg (by simpa using hd)]
    obtain⟨xa,ea,IH,za⟩:=dy ha (i:=Gw-1) (by omega)
    have Pp:=wV (by omega) (by omega) IH
    refine wpS_bind (bG ea ?_)
    refine wpS_bind (Kg C (p9.1.trans hk) hb sb za (by omega) (by omega) fun l l1 l2 l3=>?_)
    dsimp only
    have Kh:=II.Pk rb (k:=fI-1-l) (by rw[List.length_reverse];omega) (fun x hx y hy=>by
     obtain⟨j,RZ,R7,ej⟩:=sP (by omega) hx
     exact Nat.le_trans (fR Pp ra (Nat.le_refl _) y hy) (l3 j x RZ R7 (by rw[Nat.zero_add];exact ej)))
    rw[←yY (by omega),←Ki,←Array.toList_append,show b.toList.length-(fI-1)+(fI-1-l)=b.toList.length-l by omega] at Kh
    have vI:∀y∈b.toList.reverse.drop (b.toList.length-l),kf y≤kf xa:=fun y hy=>by
     obtain⟨j,hj,ej⟩:=yX hy
     exact Nat.le_of_lt (l2 j y hj (by rw[Nat.zero_add];exact ej))
    clear l2 l3
    obtain⟨ll,Vd⟩:∃ll,fI-1-l=ll:=⟨_,rfl⟩
    rw[Vd]
    refine Pl (C:=fun(n:Nat) (o:Array Keyed)=>Mg (wU kf) a.toList.reverse b.toList.reverse o.toList (a.toList.length-Gw) (b.toList.length-n)∧2≤n∧n≤b.size∧(∀y∈b.toList.reverse.drop (b.toList.length-n),kf y≤kf xa)∧Gw+n+1≤na+nb) (G:=?G2) (fun rest=>?j2) ?k2
    case j2 =>
     refine cP (fun l0=>?_) (fun l0=>?_)
     ·by_cases oO:l=1
      ·rw[if_pos (by simpa using oO)]
       exact wpS_pure ⟨p9,.inl ⟨_,rfl,fst _ _ _ Kh oO⟩⟩
      rw[if_neg (by simpa using oO)]
      by_cases sO:l=0
      ·rw[if_pos (by simpa using sO)]
       exact wpS_pure ⟨p9,.inl ⟨_,rfl,E7 _ _ _ Kh (.inr sO)⟩⟩
      rw[if_neg (by simpa using sO)]
      have hh:Mg (wU kf) a.toList.reverse b.toList.reverse (nR.push xb++(b.extract l (fI-1)).reverse).toList (a.toList.length-Gw) (b.toList.length-l)∧2≤l∧l≤b.size∧(∀y∈b.toList.reverse.drop (b.toList.length-l),kf y≤kf xa)∧Gw+l+1≤na+nb:=⟨Kh,by omega,by omega,vI,by omega⟩
      generalize nR.push xb++(b.extract l (fI-1)).reverse=E9 at hh ⊢
      generalize l=l' at hh ⊢
      exact rest l' E9 hh
     ·have Vb:l=fI-1:=by omega
      have hh:Mg (wU kf) a.toList.reverse b.toList.reverse (nR.push xb).toList (a.toList.length-Gw) (b.toList.length-(fI-1))∧2≤fI-1∧fI-1≤b.size∧(∀y∈b.toList.reverse.drop (b.toList.length-(fI-1)),kf y≤kf xa)∧Gw+(fI-1)+1≤na+nb:=⟨II,by omega,by omega,by have:=vI;rw[Vb] at this;exact this,by omega⟩
      exact rest (fI-1) (nR.push xb) hh
    case k2 =>
    rintro nb1 E9 ⟨Vc,p1,p2,vI,h7⟩
    refine wpS_bind (bG ea ?_)
    have IJ:=Vc.sN ra Pp vI
    rw[←Array.toList_push,show a.toList.length-Gw+1=a.toList.length-(Gw-1) by omega] at IJ
    by_cases hd:Gw-1=0
    ·rw[if_pos (by simpa using hd)]
     exact wpS_pure ⟨p9,.inl ⟨_,rfl,E7 _ _ _ IJ (.inl hd)⟩⟩
    rw[if_neg (by simpa using hd)]
    exact cP (fun _=>wpS_pure ⟨p9,.inr ⟨_,_,_,_,_,_,rfl,IJ,by omega,by omega,p1,p2,by omega⟩⟩) (fun _=>wpS_pure ⟨p9,_,_,_,_,_,_,rfl,IJ,by omega,by omega,p1,p2,by omega⟩)
   ·obtain⟨gs,iG,fI,out,g,ac,bc,rfl,mg,h1,h2,h3,h4,h6⟩:=hI
    exact⟨gs,.inr ⟨_,_,_,_,_,_,rfl,mg,h1,h2,h3,h4,h6⟩⟩
   ·obtain⟨gs,⟨r,e,hr⟩|⟨iG,fI,out,g,ac,bc,rfl,mg,h1,h2,h3,h4,h6⟩⟩:=hI
    ·rw[e]
     exact wpS_pure ⟨gs,_,rfl,hr⟩
    dsimp only
    refine wpS_bind (uG gs fun q' p9=>?_)
    exact wpS_pure ⟨p9,_,_,_,_,rfl,mg,h1,h2,h3,h4,by omega⟩
theorem Mf (C:pW prog w A s kd kf z) {q:SortSt}(hk:kindOf q=kd) {key:Keyed}{a:Array Keyed}(ha:∀x∈a.toList,x∈z.toList) {base n hint:Nat}(hs:∀i j x y,i<j→j<n→a.toList[base+i]?=some x→a.toList[base+j]?=some y→kf x≤kf y) {Q:Option Nat→SortSt→Prop}(hy:key∈z.toList) (hh:hint<n) (hn:base+n≤a.size)
  (h:∀k,k≤n→(∀i x,i<k→a.toList[base+i]?=some x→kf x≤kf key)→(∀i x,k≤i→i<n→a.toList[base+i]?=some x→kf key<kf x)→Q (some k) q):wpS (model prog w) A E s (E6 false key a base n hint) Q q:=by
 refine uD C hk (xs:=fun i=>(a[base+i]?).getD key) hy hh (fun i hi=>?_) (fun i j gP hj hb=>?_) fun k Ic h1 h2=>h k Ic (fun i x hi hx=>?_) (fun i x hi IG hx=>?_)
 ·obtain⟨x,h1,_,h3⟩:=dy ha (i:=base+i) (by omega)
  rw[h1];exact⟨rfl,h3⟩
 ·obtain⟨x,x1,x2,_⟩:=dy ha (i:=base+i) (by omega)
  obtain⟨y,y1,y2,_⟩:=dy ha (i:=base+j) (by omega)
  rw[y1] at hb
  rw[x1]
  have hle:kf x≤kf y:=hs i j x y gP hj x2 y2
  unfold uC at hb ⊢
  rw[if_neg (by decide)] at hb ⊢
  rw[Bool.not_eq_true',decide_eq_false_iff_not] at hb ⊢
  show ¬kf key<kf x
  have hb:¬kf key<kf y:=hb
  omega
 ·have:=h1 i hi
  rw[Array.getElem?_toList] at hx
  rw[hx] at this
  unfold uC at this
  rw[if_neg (by decide),Bool.not_eq_true',decide_eq_false_iff_not] at this
  exact Nat.le_of_not_lt this
 ·have:=h2 i hi IG
  rw[Array.getElem?_toList] at hx
  rw[hx] at this
  unfold uC at this
  rw[if_neg (by decide),Bool.not_eq_false',decide_eq_true_eq] at this
  exact this
theorem Mh (C:pW prog w A s kd kf z) {q:SortSt}(hk:kindOf q=kd) {key:Keyed}{a:Array Keyed}(ha:∀x∈a.toList,x∈z.toList) {base n hint:Nat}(hs:∀i j x y,i<j→j<n→a.toList[base+i]?=some x→a.toList[base+j]?=some y→kf x≤kf y) {Q:Option Nat→SortSt→Prop}(hy:key∈z.toList) (hh:hint<n) (hn:base+n≤a.size)
  (h:∀k,k≤n→(∀i x,i<k→a.toList[base+i]?=some x→kf x<kf key)→(∀i x,k≤i→i<n→a.toList[base+i]?=some x→kf key≤kf x)→Q (some k) q):wpS (model prog w) A E s (E6 true key a base n hint) Q q:=by
 refine uD C hk (xs:=fun i=>(a[base+i]?).getD key) hy hh (fun i hi=>?_) (fun i j gP hj hb=>?_) fun k Ic h1 h2=>h k Ic (fun i x hi hx=>?_) (fun i x hi IG hx=>?_)
 ·obtain⟨x,h1,_,h3⟩:=dy ha (i:=base+i) (by omega)
  rw[h1];exact⟨rfl,h3⟩
 ·obtain⟨x,x1,x2,_⟩:=dy ha (i:=base+i) (by omega)
  obtain⟨y,y1,y2,_⟩:=dy ha (i:=base+j) (by omega)
  rw[y1] at hb
  rw[x1]
  have hle:kf x≤kf y:=hs i j x y gP hj x2 y2
  unfold uC at hb ⊢
  rw[if_pos rfl,decide_eq_true_eq] at hb ⊢
  exact Nat.lt_of_le_of_lt hle hb
 ·have:=h1 i hi
  rw[Array.getElem?_toList] at hx
  rw[hx] at this
  unfold uC at this
  rw[if_pos rfl,decide_eq_true_eq] at this
  exact this
 ·have:=h2 i hi IG
  rw[Array.getElem?_toList] at hx
  rw[hx] at this
  unfold uC at this
  rw[if_pos rfl,decide_eq_false_iff_not] at this
  exact Nat.le_of_not_lt this
def Pd (kf:Keyed→Nat):List (Nat×Nat×Nat)→List (List Keyed)→Nat→Prop
 | [],[],_=>True
 | (s,n,_)::ps,l::ls,k=>s=k∧n=l.length∧1≤n∧l.Pairwise (fX kf)∧Pd kf ps ls (k+n)
 | _,_,_=>False
theorem Kj {kf:Keyed→Nat}:∀(i:Nat) {ps:List (Nat×Nat×Nat)}{ls:List (List Keyed)}{k:Nat},Pd kf ps ls k→i+1<ps.length →
  ∃(C2:List (List Keyed)) (X Y:List Keyed) (IM:List (List Keyed)) (p p':Nat),ls=C2++X::Y::IM∧ps[i]?=some (k+C2.flatten.length,X.length,p)∧ps[i+1]?=some (k+C2.flatten.length+X.length,Y.length,p')∧1≤X.length∧1≤Y.length∧X.Pairwise (fX kf)∧Y.Pairwise (fX kf) ∧
   ∀M:List Keyed,M.Pairwise (fX kf)→M.length=X.length+Y.length→Pd kf ((ps.set i (k+C2.flatten.length,X.length+Y.length,p)).eraseIdx (i+1)) (C2++M::IM) k
 | 0,(s,n,p)::(s',n',p')::ps,l::l'::ls,k,h,_=>by
  obtain⟨rfl,rfl,h1,h2,rfl,rfl,h3,h4,h5⟩:=h
  refine⟨[],l,l',ls,p,p',rfl,rfl,rfl,h1,h3,h2,h4,fun M hM hl=>?_⟩
  show s=s∧l.length+l'.length=M.length∧1≤l.length+l'.length∧M.Pairwise (fX kf)∧Pd kf ps ls (s+(l.length+l'.length))
  exact⟨rfl,hl.symm,by omega,hM,by rw[←Nat.add_assoc];exact h5⟩
 | 0,[_],_,_,_,hi=>absurd hi (by simp)
 | 0,[],_,_,_,hi=>absurd hi (by simp)
 | 0,_::_::_,[_],_,h,_=>h.2.2.2.2.elim
 | 0,_::_,[],_,h,_=>h.elim
 | i+1,[],_,_,_,hi=>absurd hi (by simp)
 | i+1,_::_,[],_,h,_=>h.elim
 | i+1,(s,n,q)::ps,l::ls,k,h,hi=>by
  obtain⟨rfl,rfl,h1,h2,h3⟩:=h
  obtain⟨C2,X,Y,IM,p,p',e,e1,e2,x1,y1,sx,sy,hM⟩:=Kj i h3 (by simpa using hi)
  refine⟨l::C2,X,Y,IM,p,p',by rw[e];rfl,?_,?_,x1,y1,sx,sy,fun M m1 m2=>?_⟩
  ·show ps[i]?=_
   rw[e1,List.flatten_cons,length_append,Nat.add_assoc]
  ·show ps[i+1]?=_
   rw[e2,List.flatten_cons,length_append,Nat.add_assoc s]
  ·have:=hM M m1 m2
   rw[List.flatten_cons,length_append,←Nat.add_assoc]
   exact⟨rfl,rfl,h1,h2,this⟩
theorem Fb (p:Nat):∀(M:List Keyed) (n:Nat) (a:Array Keyed),p+n+M.length≤a.size→((M.zipIdx n).foldl (fun a (x:Keyed×Nat)=>a.setIfInBounds (p+x.2) x.1) a).toList=a.toList.take (p+n)++M++a.toList.drop (p+n+M.length)
 | [],n,a,_=>by simp
 | x::M,n,a,h=>by
  rw[List.zipIdx_cons,List.foldl_cons,Fb p M (n+1) _ (by rw[Array.size_setIfInBounds];simp at h;omega)]
  simp only[List.length_cons] at h
  have hl:p+n<a.toList.length:=by rw[Array.length_toList];omega
  rw[Array.toList_setIfInBounds]
  have e1:(a.toList.set (p+n) x).take (p+(n+1))=a.toList.take (p+n)++[x]:=by
   rw[←Nat.add_assoc,take_add_one,List.getElem?_set_self hl,List.take_set_of_le (Nat.le_refl _)];rfl
  have e2:(a.toList.set (p+n) x).drop (p+(n+1)+M.length)=a.toList.drop (p+n+(x::M).length):=by
   rw[List.drop_set_of_lt (by omega),List.length_cons];congr 1;omega
  rw[e1,e2]
  simp
structure rp (kd:SortKind) (z:Array Keyed) (st:SortSt):Prop where
 p:(arrOf st).Perm z
 k:kindOf st=kd
 f:failedOf st=none
theorem rp.mem {kd:SortKind}{z:Array Keyed}{st:SortSt}(S:rp kd z st):∀x∈(arrOf st).toList,x∈z.toList:=fun x hx=>(Array.perm_iff_toList_perm.mp S.p).mem_iff.mp hx
theorem pw_at {kf:Keyed→Nat}{l:List Keyed}(h:l.Pairwise (fX kf)) {i j:Nat}{x y:Keyed}(gP:i<j) (ex:l[i]?=some x) (ey:l[j]?=some y):kf x≤kf y:=by
 obtain⟨u1,e1⟩:=List.getElem?_eq_some_iff.mp ex
 obtain⟨u2,e2⟩:=List.getElem?_eq_some_iff.mp ey
 have:=List.pairwise_iff_getElem.mp h i j u1 u2 gP
 rw[e1,e2] at this;exact this
theorem pw_le {kf:Keyed→Nat}{l:List Keyed}(h:l.Pairwise (fX kf)) {i j:Nat}{x y:Keyed}(gP:i≤j) (ex:l[i]?=some x) (ey:l[j]?=some y):kf x≤kf y:=by
 rcases Nat.lt_or_eq_of_le gP with q|rfl
 ·exact pw_at h q ex ey
 ·rw[ex] at ey;cases ey;exact Nat.le_refl _
theorem Mi {M:Model}{α:Type}{m:StateT SortSt Sem α}{Q:α→SortSt→Prop}{x y:SortSt}(e:x=y) (h:wpS M A E s m Q y):wpS M A E s m Q x:=e▸h
theorem Ve {M:Model}{x:SortSt}{Q:PUnit→SortSt→Prop}(h:Q PUnit.unit x):wpS M A E s (set x) Q st:=wpS_modify (f:=fun _=>x) h
theorem Fc (C:pW prog w A s kd kf z) (S:rp kd z st) {ls:List (List Keyed)}{T:List Keyed}{i:Nat}{Q:Bool→SortSt→Prop}(hp:Pd kf (pendingOf st).toList ls 0) (hL:(arrOf st).toList=ls.flatten++T) (hi:i+1<(pendingOf st).size)
  (h:∀q jB,rp kd z q→Pd kf (pendingOf q).toList jB 0→(arrOf q).toList=jB.flatten++T→(pendingOf q).size+1=(pendingOf st).size→jB.flatten.length=ls.flatten.length→Q true q):wpS (model prog w) A E s (mergeAt' i) Q st:=by
 refine wpS_bind (wpS_get ?_)
 obtain⟨C2,X,Y,IM,p,p',rfl,e1,e2,x1,y1,sx,sy,hM⟩:=Kj i hp (by rw[Array.length_toList];exact hi)
 rw[Array.getElem?_toList,Nat.zero_add] at e1 e2
 rw[e1,e2]
 dsimp only
 have vJ:(arrOf st).toList=C2.flatten++(X++(Y++(IM.flatten++T))):=by rw[hL];simp
 have sz:(arrOf st).size=C2.flatten.length+(X.length+(Y.length+(IM.flatten++T).length)):=by rw[←Array.length_toList,vJ];simp
 generalize hR:IM.flatten++T=R at vJ sz
 generalize hX0:C2.flatten=X0 at vJ e1 e2 hM sz ⊢
 rw[Nat.zero_add] at hM
 have gX:∀j,j<X.length→(arrOf st).toList[X0.length+j]?=X[j]?:=fun j hj=>by
  rw[vJ,getElem?_append_right (by omega),Nat.add_sub_cancel_left,getElem?_append_left hj]
 have gY:∀j,j<Y.length→(arrOf st).toList[X0.length+X.length+j]?=Y[j]?:=fun j hj=>by
  rw[vJ,getElem?_append_right (by omega),show X0.length+X.length+j-X0.length=X.length+j by omega,getElem?_append_right (by omega),Nat.add_sub_cancel_left,getElem?_append_left hj]
 refine wpS_bind (Ve ?_)
 have pl:∀v:Nat×Nat×Nat,(((pendingOf st).setIfInBounds i v).eraseIdxIfInBounds (i+1)).toList=((pendingOf st).toList.set i v).eraseIdx (i+1):=fun v=>by
  rw[Array.toList_eraseIdxIfInBounds,Array.toList_setIfInBounds]
 have ps:∀v:Nat×Nat×Nat,(((pendingOf st).setIfInBounds i v).eraseIdxIfInBounds (i+1)).size+1=(pendingOf st).size:=fun v=>by
  rw[←Array.length_toList,pl,List.length_eraseIdx_of_lt (by rw[List.length_set,Array.length_toList];exact hi),List.length_set,Array.length_toList];omega
 obtain⟨Gx,B6⟩:∃Gx,setPending st (((pendingOf st).setIfInBounds i (X0.length,X.length+Y.length,p)).eraseIdxIfInBounds (i+1))=Gx:=⟨_,rfl⟩
 refine Mi B6 ?_
 have S1:rp kd z Gx:=by rw[←B6];exact⟨S.p,S.k,S.f⟩
 have a1:arrOf Gx=arrOf st:=by rw[←B6]
 have p1:(pendingOf Gx).toList=((pendingOf st).toList.set i (X0.length,X.length+Y.length,p)).eraseIdx (i+1):=by rw[←B6];exact pl _
 have p2:(pendingOf Gx).size+1=(pendingOf st).size:=by rw[←B6];exact ps _
 clear B6
 have fin:∀(q:SortSt) (M:List Keyed),rp kd z q→pendingOf q=pendingOf Gx→(arrOf q).toList=X0++(M++R)→M.Pairwise (fX kf)→M.length=X.length+Y.length→Q true q:=fun q M Sq hpq haq hMs hMl=>by
  refine h q (C2++M::IM) Sq (by rw[hpq,p1];exact hM M hMs hMl) (by rw[haq,←hX0,←hR];simp) (by rw[hpq];exact p2) ?_
  simp only[List.flatten_append,List.flatten_cons,length_append,hMl]
  omega
 have lN:(∀x∈X,∀y∈Y,kf x≤kf y)→Q true Gx:=fun Pq=>by
  refine fin Gx (X++Y) S1 rfl (by rw[a1,vJ];simp) (List.pairwise_append.mpr ⟨sx,sy,Pq⟩) (by simp)
 obtain⟨y0,Vf,zy0⟩:∃y0,Y[0]?=some y0∧y0∈z.toList:=⟨Y[0],getElem?_eq_getElem _,S.mem _ (by rw[vJ];simp[List.getElem_mem])⟩
 refine wpS_bind (bG (x:=y0) (by have:=gY 0 (by omega);rw[Array.getElem?_toList,Vf] at this;exact this) ?_)
 refine wpS_bind (Mf (base:=X0.length) (n:=X.length) (hint:=0) C S1.k S.mem (fun i j x y gP hj ex ey=>?_) zy0 (by omega) (by omega) fun k k1 k2 k3=>?_)
 ·rw[gX i (by omega)] at ex
  rw[gX j hj] at ey
  exact pw_at sx gP ex ey
 dsimp only
 have k2':∀j x,j<k→X[j]?=some x→kf x≤kf y0:=fun j x hj ex=>k2 j x hj (by rw[gX j (by omega)];exact ex)
 have k3':∀j x,k≤j→X[j]?=some x→kf y0<kf x:=fun j x hj ex=>by
  have bR:=(List.getElem?_eq_some_iff.mp ex).1
  exact k3 j x hj bR (by rw[gX j bR];exact ex)
 clear k2 k3
 have Pt:∀y∈Y,kf y0≤kf y:=fun y hy=>by
  obtain⟨j,ej⟩:=mem_iff_getElem?.mp hy
  exact pw_le sy (Nat.zero_le j) Vf ej
 by_cases hk0:X.length-k=0
 ·rw[if_pos (by simpa using hk0)]
  refine wpS_pure (lN fun x hx y hy=>?_)
  obtain⟨j,ej⟩:=mem_iff_getElem?.mp hx
  exact Nat.le_trans (k2' j x (by have:=(List.getElem?_eq_some_iff.mp ej).1;omega) ej) (Pt y hy)
 rw[if_neg (by simpa using hk0)]
 obtain⟨xl,Vg,zxl⟩:∃xl,X[X.length-1]?=some xl∧xl∈z.toList:=⟨X[X.length-1],getElem?_eq_getElem _,S.mem _ (by rw[vJ];simp[List.getElem_mem])⟩
 refine wpS_bind (bG (x:=xl) (by have:=gX (X.length-1) (by omega);rw[Array.getElem?_toList,Vg] at this;rw[←this];congr 1;omega) ?_)
 have Vh:∀x∈X,kf x≤kf xl:=fun x hx=>by
  obtain⟨j,ej⟩:=mem_iff_getElem?.mp hx
  exact pw_le sx (by have:=(List.getElem?_eq_some_iff.mp ej).1;omega) ej Vg
 refine wpS_bind (Mh (base:=X0.length+X.length) (n:=Y.length) (hint:=Y.length-1) C S1.k S.mem (fun i j x y gP hj ex ey=>?_) zxl (by omega) (by omega) fun l l1 l2 l3=>?_)
 ·rw[gY i (by omega)] at ex
  rw[gY j hj] at ey
  exact pw_at sy gP ex ey
 dsimp only
 have l2':∀j x,j<l→Y[j]?=some x→kf x≤kf xl:=fun j x hj ex=>Nat.le_of_lt (l2 j x hj (by rw[gY j (by omega)];exact ex))
 have Vi:∀j x,l≤j→Y[j]?=some x→kf xl≤kf x:=fun j x hj ex=>by
  have bR:=(List.getElem?_eq_some_iff.mp ex).1
  exact l3 j x hj bR (by rw[gY j bR];exact ex)
 clear l2 l3
 by_cases hl0:l=0
 ·rw[if_pos (by simpa using hl0)]
  refine wpS_pure (lN fun x hx y hy=>?_)
  obtain⟨j,ej⟩:=mem_iff_getElem?.mp hy
  exact Nat.le_trans (Vh x hx) (Vi j y (by omega) ej)
 rw[if_neg (by simpa using hl0)]
 have kx:((arrOf st).extract (X0.length+k) (X0.length+X.length)).toList=X.drop k:=by
  rw[Array.toList_extract,List.extract_eq_drop_take',vJ,List.take_length_add_append,List.drop_length_add_append,List.take_left]
 have ky:((arrOf st).extract (X0.length+X.length) (X0.length+X.length+l)).toList=Y.take l:=by
  rw[Array.toList_extract,List.extract_eq_drop_take',vJ,Nat.add_assoc,List.take_length_add_append,List.drop_length_add_append,List.take_length_add_append,List.drop_left,List.take_append_of_le_length l1]
 have sxk:(X.drop k).Pairwise (fX kf):=sx.sublist (List.drop_sublist ..)
 have syl:(Y.take l).Pairwise (fX kf):=sy.sublist (List.take_sublist ..)
 have aft:∀(r:Array Keyed) (q:SortSt),uE (fX kf) (X.drop k) (Y.take l) r.toList→Gs Gx q→Q true (setArr q (List.foldl (fun a (x:Keyed×Nat)=>a.setIfInBounds (X0.length+k+x.2) x.1) (arrOf q) r.toList.zipIdx)):=fun r q hr gq=>by
  have rl:r.toList.length=X.length-k+l:=by rw[hr.2.length_eq,length_append,List.length_drop,length_take,Nat.min_eq_left l1]
  have ea:(List.foldl (fun a (x:Keyed×Nat)=>a.setIfInBounds (X0.length+k+x.2) x.1) (arrOf q) r.toList.zipIdx).toList=X0++((X.take k++r.toList++Y.drop l)++R):=by
   rw[Fb (X0.length+k) r.toList 0 (arrOf q) (by rw[gq.2.1,a1,sz,rl];omega),gq.2.1,a1,vJ,Nat.add_zero,rl,List.take_length_add_append,List.take_append_of_le_length k1,show X0.length+k+(X.length-k+l)=X0.length+(X.length+l) by omega,List.drop_length_add_append,List.drop_length_add_append,List.drop_append_of_le_length l1]
   simp
  have Kk:(X.take k++r.toList++Y.drop l).Perm (X++Y):=by
   have h1:=(List.Perm.append_left (X.take k) hr.2).append_right (Y.drop l)
   rw[←List.append_assoc,List.take_append_drop,List.append_assoc X,List.take_append_drop] at h1
   exact h1
  refine fin _ (X.take k++r.toList++Y.drop l) ⟨?_,gq.1.trans S1.k,gq.2.2.2.trans S1.f⟩ gq.2.2.1 ea ?_ ?_
  ·refine Array.Perm.trans (Array.perm_iff_toList_perm.mpr ?_) S.p
   have e2:(arrOf (setArr q (List.foldl (fun a (x:Keyed×Nat)=>a.setIfInBounds (X0.length+k+x.2) x.1) (arrOf q) r.toList.zipIdx))).toList=X0++((X.take k++r.toList++Y.drop l)++R):=ea
   rw[e2,vJ,←List.append_assoc X Y]
   exact List.Perm.append_left X0 (Kk.append_right R)
  ·have Pu:∀u∈r.toList,u∈X.drop k∨u∈Y.take l:=fun u hu=>mem_append.mp (hr.2.mem_iff.mp hu)
   refine List.pairwise_append.mpr ⟨List.pairwise_append.mpr ⟨sx.sublist (List.take_sublist ..),hr.1,fun u hu v hv=>?_⟩,sy.sublist (List.drop_sublist ..),fun u hu v hv=>?_⟩
   ·obtain⟨j,hj,ej⟩:∃j,j<k∧X[j]?=some u:=by
     have:=mem_mid (l:=X) (i:=0) (k:=k) (by rw[List.drop_zero];exact hu)
     simpa using this
    rcases Pu v hv with hv|hv
    ·obtain⟨m,_,em⟩:=nQ hv
     exact pw_le sx (by omega) ej em
    ·exact Nat.le_trans (k2' j u hj ej) (Pt v (List.mem_of_mem_take hv))
   ·obtain⟨m,_,em⟩:=nQ hv
    rcases mem_append.mp hu with hu|hu
    ·exact Nat.le_trans (Vh u (List.mem_of_mem_take hu)) (Vi _ v (by omega) em)
    rcases Pu u hu with hu|hu
    ·exact Nat.le_trans (Vh u (List.mem_of_mem_drop hu)) (Vi _ v (by omega) em)
    ·obtain⟨j,hj,ej⟩:∃j,j<l∧Y[j]?=some u:=by
      have:=mem_mid (l:=Y) (i:=0) (k:=l) (by rw[List.drop_zero];exact hu)
      simpa using this
     exact pw_le sy (by omega) ej em
  ·rw[Kk.length_eq,length_append]
 have J5:∀x∈((arrOf st).extract (X0.length+k) (X0.length+X.length)).toList,x∈z.toList:=fun x hx=>by
  rw[kx] at hx
  exact S.mem x (by rw[vJ];exact mem_append_right _ (mem_append_left _ (List.mem_of_mem_drop hx)))
 have Vj:∀x∈((arrOf st).extract (X0.length+X.length) (X0.length+X.length+l)).toList,x∈z.toList:=fun x hx=>by
  rw[ky] at hx
  exact S.mem x (by rw[vJ];exact mem_append_right _ (mem_append_right _ (mem_append_left _ (List.mem_of_mem_take hx))))
 have zx:((arrOf st).extract (X0.length+k) (X0.length+X.length)).size=X.length-k:=by rw[←Array.length_toList,kx,List.length_drop]
 have zy:((arrOf st).extract (X0.length+X.length) (X0.length+X.length+l)).size=l:=by rw[←Array.length_toList,ky,length_take,Nat.min_eq_left l1]
 have c0:∀x y,((arrOf st).extract (X0.length+X.length) (X0.length+X.length+l)).toList[0]?=some x→y∈((arrOf st).extract (X0.length+k) (X0.length+X.length)).toList→kf x≤kf y:=fun x y hx hy=>by
  rw[ky,List.getElem?_take,if_pos (by omega),Vf] at hx
  cases hx
  rw[kx] at hy
  obtain⟨m,_,em⟩:=nQ hy
  exact Nat.le_of_lt (k3' _ y (by omega) em)
 have cl:∀x y,x∈((arrOf st).extract (X0.length+X.length) (X0.length+X.length+l)).toList→((arrOf st).extract (X0.length+k) (X0.length+X.length)).toList[((arrOf st).extract (X0.length+k) (X0.length+X.length)).size-1]?=some y→kf x≤kf y:=fun x y hx hy=>by
  rw[zx,kx,List.getElem?_drop,show k+(X.length-k-1)=X.length-1 by omega,Vg] at hy
  cases hy
  rw[ky] at hx
  obtain⟨j,hj,ej⟩:∃j,j<l∧Y[j]?=some x:=by
   have:=mem_mid (l:=Y) (i:=0) (k:=l) (by rw[List.drop_zero];exact hx)
   simpa using this
  exact l2' j x hj ej
 rw[show X0.length+X.length=X0.length+k+(X.length-k) by omega] at *
 refine cP (fun _=>wpS_bind (Mc C S1.k J5 Vj (by rw[kx];exact sxk) (by rw[ky];exact syl) (by rw[zx];omega) (by rw[zy];omega) c0 cl fun r q hr gq=>?_)) (fun _=>wpS_bind (Me C S1.k J5 Vj (by rw[kx];exact sxk) (by rw[ky];exact syl) (by rw[zx];omega) (by rw[zy];omega) c0 cl fun r q hr gq=>?_))
 all_goals
  rw[kx,ky] at hr
  refine wpS_bind (wpS_modify ?_)
  refine wpS_bind (wpS_get (wpS_pure ?_))
  have:=aft r q hr gq
  show Q (failedOf q).isNone _
  rw[gq.2.2.2,S1.f]
  exact this
theorem Vk {ι:Sort _}{C G:ι→Prop}{A:Prop}(h:(∀i,C i→G i)→A) (k:∀i,C i→G i):A:=h k
def wW (kf:Keyed→Nat) (xs:Array Keyed) (lo n:Nat):Prop:=∀i j,i<j→j<n→kn kf xs (lo+i)≤kn kf xs (lo+j)
def C3 (kf:Keyed→Nat) (xs:Array Keyed) (lo n:Nat):Prop:=∀i j,i<j→j<n→kn kf xs (lo+j)≤kn kf xs (lo+i)
def Wk (kd:SortKind) (z:Array Keyed) (lo:Nat) (C4 st:SortSt):Prop:=rp kd z st∧pendingOf st=pendingOf C4∧∀i,i<lo→(arrOf st)[i]?=(arrOf C4)[i]?
variable {C4:SortSt}{lo:Nat}{xs:Array Keyed}
theorem Wk.set (W:Wk kd z lo C4 st) (e:xs.Perm (arrOf st)) (h:∀i,i<lo→xs[i]?=(arrOf st)[i]?):Wk kd z lo C4 (setArr st xs):=⟨⟨e.trans W.1.p,W.1.k,W.1.f⟩,W.2.1,fun i hi=>(h i hi).trans (W.2.2 i hi)⟩
theorem rp.n (S:rp kd z st):(arrOf st).size=z.size:=S.p.size_eq
theorem rp.at (S:rp kd z st) {i:Nat}(hi:i<z.size):∃x,(arrOf st)[i]?=some x∧x∈z.toList∧kn kf (arrOf st) i=kf x:=by
 obtain⟨x,h1,_,h3⟩:=dy S.mem (i:=i) (by rw[S.n];exact hi)
 exact⟨x,h1,h3,by unfold kn;rw[h1];rfl⟩
theorem wW.step {x:Nat}(h:wW kf xs lo x) (h1:kn kf xs (lo+x-1)≤kn kf xs (lo+x)):wW kf xs lo (x+1):=fun i j gP hj=>by
 rcases Nat.lt_or_ge j x with q|q
 ·exact h i j gP q
 ·obtain rfl:j=x:=by omega
  rcases Nat.lt_or_ge i (j-1) with q2|q2
  ·have:=h i (j-1) q2 (by omega)
   rw[show lo+(j-1)=lo+j-1 by omega] at this
   omega
  ·rw[show lo+i=lo+j-1 by omega];exact h1
theorem C3.step {x:Nat}(h:C3 kf xs lo x) (h1:kn kf xs (lo+x)≤kn kf xs (lo+x-1)):C3 kf xs lo (x+1):=fun i j gP hj=>by
 rcases Nat.lt_or_ge j x with q|q
 ·exact h i j gP q
 ·obtain rfl:j=x:=by omega
  rcases Nat.lt_or_ge i (j-1) with q2|q2
  ·have:=h i (j-1) q2 (by omega)
   rw[show lo+(j-1)=lo+j-1 by omega] at this
   omega
  ·rw[show lo+i=lo+j-1 by omega];exact h1
theorem nS {a b:Nat}(hb:b≤xs.size) (k:Nat):kn kf (mirror xs a b ((b-a)/2)) k=if a≤k∧k<b then kn kf xs (a+b-1-k) else kn kf xs k:=by
 by_cases h:a≤k∧k<b
 ·rw[if_pos h];exact mM (by rw[getElem?_mirror_all hb,if_pos h])
 ·rw[if_neg h];exact mM (by rw[getElem?_mirror_all hb,if_neg h])
theorem mP {a b v:Nat}(hb:b≤xs.size) (hv:∀k,a≤k→k<b→kn kf xs k=v) (k:Nat):kn kf (mirror xs a b ((b-a)/2)) k=kn kf xs k:=by
 rw[nS hb]
 split
 ·rename_i h;rw[hv _ (by omega) (by omega),hv k h.1 h.2]
 ·rfl
theorem Wk.R9 (W:Wk kd z lo C4 st) {a b:Nat}(ha:lo≤a) (hb:b≤z.size):Wk kd z lo C4 (setArr st (mirror (arrOf st) a b ((b-a)/2))) :=
 W.set (mirror_perm ..) fun i hi=>by rw[getElem?_mirror_all (by rw[W.1.n];exact hb),if_neg (by omega)]
theorem nT (C:pW prog w A s kd kf z) (S:rp kd z st) {i j:Nat}{Q:Option Bool→SortSt→Prop}(hi:i<z.size) (hj:j<z.size) (h:Q (some (decide (kn kf (arrOf st) i<kn kf (arrOf st) j))) st) :
  (wpS (model prog w) A E s (ltAt' i j) Q st):=by
 obtain⟨x,x1,x2,x3⟩:=S.at (kf:=kf) hi
 obtain⟨y,y1,y2,y3⟩:=S.at (kf:=kf) hj
 rw[x3,y3] at h
 rw[ltAt'_eq]
 refine wpS_bind (wpS_get ?_)
 show wpS _ _ _ _ (elem' (arrOf st) i >>= fun a=>elem' (arrOf st) j >>= fun b=>lt' a b) Q st
 rw[elem'_eq,elem'_eq,x1,y1]
 exact wpS_bind (wpS_pure (wpS_bind (wpS_pure (wQ C S.k x2 y2 h))))
theorem Mj (C:pW prog w A s kd kf z) (S:rp kd z st) {lo m:Nat}{Q:Option Nat→SortSt→Prop}(hm:lo+m≤z.size) (h1:1≤m)
  (h:∀n q,Wk kd z lo st q→1≤n→n≤m→wW kf (arrOf q) lo n→Q (some n) q):wpS (model prog w) A E s (countRun' lo m) Q st:=by
 rw[countRun'_eq]
 dsimp only
 have W0:Wk kd z lo st st:=⟨S,rfl,fun _ _=>rfl⟩
 refine wpS_bind (wpS_mono (wpS_forRange (Q:=fun c q=>q=st∧∃n,c=(none,n)∧1≤n∧n≤m∧wW kf (arrOf st) lo n∧(n=m∨kn kf (arrOf st) (lo+n)<kn kf (arrOf st) (lo+n-1))) (fun x c q=>q=st∧c=(none,x)∧wW kf (arrOf st) lo x) (fun x c q hx J5 hI=>?_) (fun c q hI=>?_) ⟨rfl,rfl,fun i j a b=>by omega⟩) fun c q hI=>?_)
 ·obtain⟨rfl,rfl,hu⟩:=hI
  dsimp only
  refine wpS_bind (nT C S (by omega) (by omega) ?_)
  dsimp only
  by_cases hc:kn kf (arrOf q) (lo+x)<kn kf (arrOf q) (lo+x-1)
  ·rw[decide_eq_true hc,if_pos rfl]
   exact wpS_pure ⟨rfl,x,rfl,hx,by omega,hu,.inr hc⟩
  ·rw[decide_eq_false hc,if_neg (by decide)]
   exact wpS_pure ⟨rfl,rfl,hu.step (by omega)⟩
 ·obtain⟨rfl,rfl,hu⟩:=hI
  rw[show max 1 m=m by omega] at hu ⊢
  exact⟨rfl,m,rfl,h1,Nat.le_refl m,hu,.inl rfl⟩
 obtain⟨rfl,n,rfl,n1,nm,hu,ho⟩:=hI
 dsimp only
 by_cases hc:n=m
 ·rw[if_pos (by rw[hc];exact beq_self_eq_true m)]
  exact wpS_pure (h n q W0 n1 nm hu)
 rw[if_neg (by simpa using hc)]
 have bR:=ho.resolve_left hc
 refine Vk (ι:=SortSt) (C:=fun r=>Wk kd z lo q r∧C3 kf (arrOf r) lo (n+1)) (G:=?G) (fun rest=>?ja) ?jk
 case ja =>
  by_cases h2:n > 1
  ·rw[if_pos h2]
   refine wpS_bind (nT C S (by omega) (by omega) ?_)
   dsimp only
   by_cases hr:kn kf (arrOf q) lo<kn kf (arrOf q) (lo+n-1)
   ·rw[decide_eq_true hr,if_pos rfl]
    exact wpS_pure (h n q W0 n1 nm hu)
   rw[decide_eq_false hr,if_neg (by decide)]
   refine wpS_bind (wpS_reverse ?_)
   have hv:∀k,lo≤k→k<lo+n→kn kf (arrOf q) k=kn kf (arrOf q) (lo+n-1):=fun k k1 k2=>by
    have a1:kn kf (arrOf q) lo≤kn kf (arrOf q) k:=by
     rcases Nat.lt_or_eq_of_le k1 with g|g
     ·have:=hu 0 (k-lo) (by omega) (by omega);rw[show lo+(k-lo)=k by omega] at this;exact this
     ·rw[g];exact Nat.le_refl _
    have a2:kn kf (arrOf q) k≤kn kf (arrOf q) (lo+n-1):=by
     rcases Nat.lt_or_ge k (lo+n-1) with g|g
     ·have:=hu (k-lo) (n-1) (by omega) (by omega);rw[show lo+(k-lo)=k by omega,show lo+(n-1)=lo+n-1 by omega] at this;exact this
     ·rw[show k=lo+n-1 by omega];exact Nat.le_refl _
    omega
   have hh:Wk kd z lo q (setArr q (mirror (arrOf q) lo (lo+n) ((lo+n-lo)/2)))∧C3 kf (arrOf (setArr q (mirror (arrOf q) lo (lo+n) ((lo+n-lo)/2)))) lo (n+1):=by
    refine⟨W0.R9 (Nat.le_refl lo) (by omega),fun i j gP hj=>?_⟩
    show kn kf (mirror (arrOf q) lo (lo+n) ((lo+n-lo)/2)) (lo+j)≤kn kf (mirror (arrOf q) lo (lo+n) ((lo+n-lo)/2)) (lo+i)
    rw[mP (by rw[S.n];omega) hv,mP (by rw[S.n];omega) hv,hv (lo+i) (by omega) (by omega)]
    rcases Nat.lt_or_ge j n with g|g
    ·rw[hv (lo+j) (by omega) (by omega)];exact Nat.le_refl _
    ·rw[show j=n by omega];exact Nat.le_of_lt bR
   generalize setArr q (mirror (arrOf q) lo (lo+n) ((lo+n-lo)/2))=r at hh ⊢
   exact rest r hh
  ·rw[if_neg h2]
   have hh:Wk kd z lo q q∧C3 kf (arrOf q) lo (n+1):=⟨W0,fun i j gP hj=>by
    rw[show lo+j=lo+n by omega,show lo+i=lo+n-1 by omega];exact Nat.le_of_lt bR⟩
   exact rest q hh
 case jk =>
 rintro r ⟨W,hd⟩
 clear hu ho bR
 refine wpS_bind (wpS_lift (wpAny_rule ⟨rfl,?_⟩))
 refine wpS_bind (wpS_mono (wpS_forRange (Q:=fun c t=>Wk kd z lo q t∧∃x e,c=(none,x,e)∧1≤x∧x≤m∧C3 kf (arrOf t) lo x∧e<x∧∀k,lo+x-(e+1)≤k→k<lo+x→kn kf (arrOf t) k=kn kf (arrOf t) (lo+x-1)) (fun x c t=>Wk kd z lo q t∧∃e,c=(none,x,e)∧C3 kf (arrOf t) lo x∧e<x∧∀k,lo+x-(e+1)≤k→k<lo+x→kn kf (arrOf t) k=kn kf (arrOf t) (lo+x-1)) (fun x c t hx J5 hI=>?_) (fun c t hI=>?_) ⟨W,0,rfl,hd,by omega,fun k a b=>by rw[show k=lo+(n+1)-1 by omega]⟩) fun c t hI=>?_)
 ·obtain⟨W,e,rfl,hd,he,hv⟩:=hI
  dsimp only
  refine wpS_bind (nT C W.1 (by omega) (by omega) ?_)
  dsimp only
  by_cases hc:kn kf (arrOf t) (lo+x)<kn kf (arrOf t) (lo+x-1)
  ·rw[decide_eq_true hc,if_pos rfl]
   have one:∀t':SortSt,Wk kd z lo q t'→(∀k,kn kf (arrOf t') k=kn kf (arrOf t) k)→Wk kd z lo q t'∧∃e,((none,x+1,0):Option (Option Nat)×Nat×Nat)=(none,x+1,e)∧C3 kf (arrOf t') lo (x+1)∧e<x+1∧∀k,lo+(x+1)-(e+1)≤k→k<lo+(x+1)→kn kf (arrOf t') k=kn kf (arrOf t') (lo+(x+1)-1):=fun t' W' Gj=>by
    have kJ:C3 kf (arrOf t') lo x:=fun i j gP hj=>by rw[Gj,Gj];exact hd i j gP hj
    exact⟨W',0,rfl,kJ.step (by rw[Gj,Gj];exact Nat.le_of_lt hc),by omega,fun k a b=>by rw[show k=lo+(x+1)-1 by omega]⟩
   by_cases h0:e > 0
   ·rw[if_pos h0]
    refine wpS_bind (wpS_reverse (wpS_pure (one _ (W.R9 (by omega) (by omega)) fun k=>?_)))
    exact mP (by rw[W.1.n];omega) hv k
   ·rw[if_neg h0]
    exact wpS_pure (one t W fun _=>rfl)
  ·rw[decide_eq_false hc,if_neg (by decide)]
   refine wpS_bind (nT C W.1 (by omega) (by omega) ?_)
   dsimp only
   by_cases sO:kn kf (arrOf t) (lo+x-1)<kn kf (arrOf t) (lo+x)
   ·rw[decide_eq_true sO,if_pos rfl]
    exact wpS_pure ⟨W,x,e,rfl,by omega,by omega,hd,he,hv⟩
   ·rw[decide_eq_false sO,if_neg (by decide)]
    refine wpS_pure ⟨W,e+1,rfl,hd.step (by omega),by omega,fun k a b=>?_⟩
    rw[show lo+(x+1)-1=lo+x by omega]
    rcases Nat.lt_or_ge k (lo+x) with g|g
    ·rw[hv k (by omega) g];omega
    ·rw[show k=lo+x by omega]
 ·obtain⟨W,e,rfl,hd,he,hv⟩:=hI
  rw[show max (n+1) m=m by omega] at hd he hv ⊢
  exact⟨W,m,e,rfl,h1,Nat.le_refl m,hd,he,hv⟩
 obtain⟨W,x,e,rfl,x1,xm,hd,he,hv⟩:=hI
 dsimp only
 refine Vk (ι:=SortSt) (C:=fun r=>Wk kd z lo q r∧C3 kf (arrOf r) lo x) (G:=?G3) (fun rest=>?jc) ?jd
 case jc =>
  by_cases h0:e > 0
  ·rw[if_pos h0]
   refine wpS_bind (wpS_reverse ?_)
   have hh:Wk kd z lo q (setArr t (mirror (arrOf t) (lo+x-(e+1)) (lo+x) ((lo+x-(lo+x-(e+1)))/2)))∧C3 kf (arrOf (setArr t (mirror (arrOf t) (lo+x-(e+1)) (lo+x) ((lo+x-(lo+x-(e+1)))/2)))) lo x:=by
    refine⟨W.R9 (by omega) (by omega),fun i j gP hj=>?_⟩
    show kn kf (mirror (arrOf t) (lo+x-(e+1)) (lo+x) ((lo+x-(lo+x-(e+1)))/2)) (lo+j)≤kn kf (mirror (arrOf t) (lo+x-(e+1)) (lo+x) ((lo+x-(lo+x-(e+1)))/2)) (lo+i)
    rw[mP (by rw[W.1.n];omega) hv,mP (by rw[W.1.n];omega) hv]
    exact hd i j gP hj
   generalize setArr t (mirror (arrOf t) (lo+x-(e+1)) (lo+x) ((lo+x-(lo+x-(e+1)))/2))=r2 at hh ⊢
   exact rest r2 hh
  ·rw[if_neg h0]
   exact rest t ⟨W,hd⟩
 case jd =>
 clear hv hd W
 rintro r2 ⟨W,hd⟩
 refine wpS_bind (wpS_reverse ?_)
 have W2:=W.R9 (Nat.le_refl lo) (b:=lo+x) (by omega)
 have hu:wW kf (arrOf (setArr r2 (mirror (arrOf r2) lo (lo+x) ((lo+x-lo)/2)))) lo x:=fun i j gP hj=>by
  show kn kf (mirror (arrOf r2) lo (lo+x) ((lo+x-lo)/2)) (lo+i)≤kn kf (mirror (arrOf r2) lo (lo+x) ((lo+x-lo)/2)) (lo+j)
  rw[nS (by rw[W.1.n];omega),nS (by rw[W.1.n];omega),if_pos (by omega),if_pos (by omega),show lo+(lo+x)-1-(lo+i)=lo+(x-1-i) by omega,show lo+(lo+x)-1-(lo+j)=lo+(x-1-j) by omega]
  exact hd _ _ (by omega) (by omega)
 generalize setArr r2 (mirror (arrOf r2) lo (lo+x) ((lo+x-lo)/2))=r3 at W2 hu ⊢
 refine wpS_bind (wpS_mono (wpS_forRange (Q:=fun c t=>t=r3∧∃n,c=(none,n)∧1≤n∧n≤m∧wW kf (arrOf r3) lo n) (fun y c t=>t=r3∧c=(none,y)∧wW kf (arrOf r3) lo y) (fun y c t hy Vj hI=>?_) (fun c t hI=>?_) ⟨rfl,rfl,hu⟩) fun c t hI=>?_)
 ·obtain⟨rfl,rfl,hu⟩:=hI
  dsimp only
  refine wpS_bind (nT C W2.1 (by omega) (by omega) ?_)
  dsimp only
  by_cases hc:kn kf (arrOf t) (lo+y)<kn kf (arrOf t) (lo+y-1)
  ·rw[decide_eq_true hc,if_pos rfl]
   exact wpS_pure ⟨rfl,y,rfl,by omega,by omega,hu⟩
  ·rw[decide_eq_false hc,if_neg (by decide)]
   exact wpS_pure ⟨rfl,rfl,hu.step (by omega)⟩
 ·obtain⟨rfl,rfl,hu⟩:=hI
  rw[show max x m=m by omega] at hu ⊢
  exact⟨rfl,m,rfl,h1,Nat.le_refl m,hu⟩
 obtain⟨rfl,y,rfl,y1,ym,hu⟩:=hI
 exact wpS_pure (h y t W2 y1 ym hu)
theorem Ml (C:pW prog w A s kd kf z) {C4:SortSt}{lo:Nat}(S:Wk kd z lo C4 st) {n ok:Nat}{Q:Bool→SortSt→Prop}(hn:lo+n≤z.size) (h1:1≤ok) (aV:ok≤n) (hu:wW kf (arrOf st) lo ok)
  (h:∀q,Wk kd z lo C4 q→wW kf (arrOf q) lo n→Q true q):wpS (model prog w) A E s (binarySort' lo n ok) Q st:=by
 rw[binarySort'_eq]
 refine wpS_bind (wpS_mono (wpS_forRange (Q:=fun c q=>c=(none,())∧Wk kd z lo C4 q∧wW kf (arrOf q) lo n) (fun k c q=>c=(none,())∧Wk kd z lo C4 q∧wW kf (arrOf q) lo k) (fun k c q hk Ic hI=>?_) (fun c q hI=>?_) ⟨rfl,S,by rw[show max ok 1=ok by omega];exact hu⟩) fun c q hI=>?_)
 ·obtain⟨rfl,S',mD⟩:=hI
  have RT:lo+k<z.size:=by omega
  have rk:lo+k<(arrOf q).size:=by rw[S'.1.n];exact RT
  refine wpS_bind (wpS_mono (wpS_forRange (Q:=fun c r=>r=q∧∃l,c.1=none∧c.2.1=l∧l≤k∧(∀i,i<l→kn kf (arrOf q) (lo+i)≤kn kf (arrOf q) (lo+k))∧∀i,l≤i→i<k→kn kf (arrOf q) (lo+k)≤kn kf (arrOf q) (lo+i))
   (fun x c r=>r=q∧∃l u,c=(none,l,u)∧l≤u∧u≤k∧u-l≤k-x∧(∀i,i<l→kn kf (arrOf q) (lo+i)≤kn kf (arrOf q) (lo+k))∧∀i,u≤i→i<k→kn kf (arrOf q) (lo+k)≤kn kf (arrOf q) (lo+i))
   (fun x c r _ hx hI=>?_) (fun c r hI=>?_) ⟨rfl,0,k,rfl,Nat.zero_le k,Nat.le_refl k,by omega,fun i hi=>absurd hi (Nat.not_lt_zero i),fun i a b=>by omega⟩) fun c r hI=>?_)
  ·obtain⟨rfl,l,u,rfl,UC,Ie,hw,tI,BU⟩:=hI
   dsimp only
   by_cases vI:l ≥ u
   ·rw[if_pos vI]
    obtain rfl:l=u:=by omega
    exact wpS_pure ⟨rfl,l,rfl,rfl,Ie,tI,BU⟩
   rw[if_neg vI]
   refine wpS_bind (nT C S'.1 (i:=lo+k) (j:=lo+(l+u)/2) (by omega) (by omega) ?_)
   dsimp only
   by_cases hc:kn kf (arrOf r) (lo+k)<kn kf (arrOf r) (lo+(l+u)/2)
   ·rw[decide_eq_true hc,if_pos rfl]
    refine wpS_pure ⟨rfl,l,(l+u)/2,rfl,by omega,by omega,by omega,tI,fun i a b=>?_⟩
    rcases Nat.lt_or_ge ((l+u)/2) i with e|e
    ·exact Nat.le_trans (Nat.le_of_lt hc) (mD _ _ e b)
    ·rw[show i=(l+u)/2 by omega];exact Nat.le_of_lt hc
   ·rw[decide_eq_false hc,if_neg (by decide)]
    refine wpS_pure ⟨rfl,(l+u)/2+1,u,rfl,by omega,Ie,by omega,fun i a=>?_,BU⟩
    rcases Nat.lt_or_ge i ((l+u)/2) with e|e
    ·have:=mD i ((l+u)/2) e (by omega);omega
    ·rw[show i=(l+u)/2 by omega];omega
  ·obtain⟨rfl,l,u,rfl,UC,Ie,hw,tI,BU⟩:=hI
   obtain rfl:l=u:=by omega
   exact⟨rfl,l,rfl,rfl,Ie,tI,BU⟩
  ·obtain⟨rfl,l,e1,e2,hlk,tI,BU⟩:=hI
   obtain⟨c1,c2,c3⟩:=c
   obtain rfl:c1=none:=e1
   obtain rfl:c2=l:=e2
   show wpS _ _ _ _ (moveDown' (lo+k) (lo+c2) >>= fun _=>pure (ForInStep.yield (none,()))) _ _
   rw[moveDown'_eq,show lo+k-(lo+c2)=k-c2 by omega]
   have g:∀t,(bubble (arrOf r) (lo+k) (k-c2))[t]?=if t=lo+c2 then (arrOf r)[lo+k]? else if lo+c2<t∧t≤lo+k then (arrOf r)[t-1]? else (arrOf r)[t]?:=fun t=>by
    have g:=getElem?_bubble rk (k-c2) (by omega) t
    rw[show lo+k-(k-c2)=lo+c2 by omega] at g
    exact g
   refine wpS_bind (wpS_modify (wpS_pure ⟨rfl,S'.set (bubble_perm _ _ _) (fun i hi=>by rw[g,if_neg (by omega),if_neg (by omega)]),fun i j gP hj=>?_⟩))
   have e:∀t,kn kf (bubble (arrOf r) (lo+k) (k-c2)) (lo+t)=if t=c2 then kn kf (arrOf r) (lo+k) else if c2<t∧t≤k then kn kf (arrOf r) (lo+(t-1)) else kn kf (arrOf r) (lo+t):=fun t=>by
    have g:=g (lo+t)
    by_cases q1:t=c2
    ·rw[if_pos (by omega)] at g;rw[if_pos q1];exact mM g
    ·rw[if_neg (by omega)] at g;rw[if_neg q1]
     by_cases q2:c2<t∧t≤k
     ·rw[if_pos (by omega),show lo+t-1=lo+(t-1) by omega] at g;rw[if_pos q2];exact mM g
     ·rw[if_neg (by omega)] at g;rw[if_neg q2];exact mM g
   show kn kf (bubble (arrOf r) (lo+k) (k-c2)) (lo+i)≤kn kf (bubble (arrOf r) (lo+k) (k-c2)) (lo+j)
   rw[e,e]
   by_cases i1:i=c2
   ·rw[if_pos i1,if_neg (by omega),if_pos (by omega)]
    exact BU _ (by omega) (by omega)
   ·rw[if_neg i1]
    by_cases i2:c2<i∧i≤k
    ·rw[if_pos i2,if_neg (by omega),if_pos (by omega)]
     exact mD _ _ (by omega) (by omega)
    ·rw[if_neg i2]
     by_cases j1:j=c2
     ·rw[if_pos j1];exact tI _ (by omega)
     ·rw[if_neg j1]
      by_cases j2:c2<j∧j≤k
      ·rw[if_pos j2]
       rcases Nat.lt_or_ge i (j-1) with g|g
       ·exact mD _ _ g (by omega)
       ·rw[show i=j-1 by omega];exact Nat.le_refl _
      ·rw[if_neg j2];exact mD _ _ gP (by omega)
 ·obtain⟨rfl,S',mD⟩:=hI
  rw[show max (max ok 1) n=n by omega] at mD
  exact⟨rfl,S',mD⟩
 ·obtain⟨rfl,S',mD⟩:=hI
  exact wpS_pure (h q S' mD)
theorem yZ {kf:Keyed→Nat}:∀{ps:List (Nat×Nat×Nat)}{ls:List (List Keyed)}{k:Nat},Pd kf ps ls k→ps.length=ls.length∧ps.length≤ls.flatten.length
 | [],[],_,_=>⟨rfl,Nat.le_refl 0⟩
 | [],_::_,_,h=>h.elim
 | _::_,[],_,h=>h.elim
 | (s,n,p)::ps,l::ls,k,h=>by
  obtain⟨rfl,rfl,h1,h2,h3⟩:=h
  have:=yZ h3
  simp only[List.length_cons,List.flatten_cons,length_append]
  omega
theorem AO {kf:Keyed→Nat}{l:List Keyed}{n p:Nat}(hn:n=l.length) (n1:1≤n) (hl:l.Pairwise (fX kf)):∀{ps:List (Nat×Nat×Nat)}{ls:List (List Keyed)}{k:Nat},Pd kf ps ls k→Pd kf (ps++[(k+ls.flatten.length,n,p)]) (ls++[l]) k
 | [],[],_,_=>⟨rfl,hn,n1,hl,trivial⟩
 | [],_::_,_,h=>h.elim
 | _::_,[],_,h=>h.elim
 | (s,m,q)::ps,l'::ls,k,h=>by
  obtain⟨rfl,rfl,h1,h2,h3⟩:=h
  have:=AO hn n1 hl h3 (p:=p)
  rw[List.flatten_cons,length_append,←Nat.add_assoc]
  exact⟨rfl,rfl,h1,h2,this⟩
theorem Fd {kf:Keyed→Nat}{w:Nat}:∀{ps:List (Nat×Nat×Nat)}{ls:List (List Keyed)}{k:Nat}(i:Nat),Pd kf ps ls k→Pd kf (ps.modify i fun x=>(x.1,x.2.1,w)) ls k
 | [],[],_,i,_=>by cases i<;>exact trivial
 | [],_::_,_,_,h=>h.elim
 | _::_,[],_,_,h=>h.elim
 | (s,n,p)::ps,l::ls,k,0,h=>h
 | (s,n,p)::ps,l::ls,k,i+1,h=>by
  obtain⟨h0,h0',h1,h2,h3⟩:=h
  exact⟨h0,h0',h1,h2,Fd i h3⟩
theorem wW.list {kf:Keyed→Nat}{xs:Array Keyed}{lo n:Nat}(h:wW kf xs lo n):((xs.toList.drop lo).take n).Pairwise (fX kf):=by
 rw[List.pairwise_iff_getElem]
 intro i j hi hj gP
 have hjn:j<n:=by rw[length_take] at hj;omega
 have e:∀t (ht:t<((xs.toList.drop lo).take n).length),kf ((xs.toList.drop lo).take n)[t]=kn kf xs (lo+t):=fun t ht=>by
  have Sa:t<n:=by rw[length_take] at ht;omega
  have:((xs.toList.drop lo).take n)[t]?=xs[lo+t]?:=by rw[List.getElem?_take,if_pos Sa,List.getElem?_drop,Array.getElem?_toList]
  rw[getElem?_eq_getElem ht] at this
  unfold kn
  rw[←this];rfl
 show kf _≤kf _
 rw[e i hi,e j hj]
 exact h i j gP hjn
def Vl (kd:SortKind) (kf:Keyed→Nat) (z:Array Keyed) (lo:Nat) (q:SortSt):Prop:=rp kd z q∧∃ls T,Pd kf (pendingOf q).toList ls 0∧(arrOf q).toList=ls.flatten++T∧ls.flatten.length=lo
theorem Fe (C:pW prog w A s kd kf z) (S:rp kd z st) (hp:pendingOf st=#[]) {Q:Unit→SortSt→Prop}
  (h:∀q,rp kd z q→(arrOf q).toList.Pairwise (fX kf)→Q () q):wpS (model prog w) A E s sortRuns' Q st:=by
 rw[sortRuns'_eq]
 refine wpS_bind (wpS_get ?_)
 dsimp only
 rw[S.n]
 generalize minRun' z.size z.size 0=mr
 refine wpS_bind (wpS_mono (wpS_forRange (Q:=fun c q=>c=(none,z.size)∧Vl kd kf z z.size q) (fun x c q=>∃lo,c=(none,lo)∧x≤lo∧lo≤z.size∧Vl kd kf z lo q) (fun x c q _ hx hI=>?_) (fun c q hI=>?_) ⟨0,rfl,Nat.le_refl 0,Nat.zero_le _,S,[],(arrOf st).toList,by rw[hp];exact trivial,rfl,rfl⟩) fun c q hI=>?_)
 ·obtain⟨lo,rfl,C5,hlz,B⟩:=hI
  dsimp only
  by_cases vI:lo ≥ z.size
  ·rw[if_pos vI]
   obtain rfl:lo=z.size:=by omega
   exact wpS_pure ⟨rfl,B⟩
  rw[if_neg vI]
  obtain⟨Sq,ls,T,Sb,hL,tI⟩:=B
  refine wpS_bind (Mj C Sq (lo:=lo) (m:=z.size-lo) (by omega) (by omega) fun n r W n1 nm hu=>?_)
  dsimp only
  refine Pl (ι:=Nat) (κ:=SortSt) (C:=fun n r=>Wk kd z lo q r∧1≤n∧n≤z.size-lo∧wW kf (arrOf r) lo n) (G:=?G) (fun rest=>?ja) ?jk
  case ja =>
   by_cases hc:n<mr
   ·rw[if_pos hc]
    refine wpS_bind (wpS_lift (wpAny_rule ⟨rfl,?_⟩))
    refine wpS_bind (Ml C W (n:=min (z.size-lo) mr) (by omega) n1 (by omega) hu fun r2 W2 UD=>?_)
    rw[if_neg (by decide)]
    have hh:Wk kd z lo q r2∧1≤min (z.size-lo) mr∧min (z.size-lo) mr≤z.size-lo∧wW kf (arrOf r2) lo (min (z.size-lo) mr):=⟨W2,by omega,by omega,UD⟩
    generalize min (z.size-lo) mr=n2 at hh ⊢
    exact rest n2 r2 hh
   ·rw[if_neg hc]
    exact rest n r ⟨W,n1,nm,hu⟩
  case jk =>
  clear hu nm n1 W
  rintro n2 r2 ⟨W,n1,nm,hu⟩
  obtain⟨T2,J8⟩:∃T2,(arrOf r2).toList.drop lo=T2:=⟨_,rfl⟩
  have htk:(arrOf r2).toList.take lo=ls.flatten:=by
   have e1:ls.flatten=(arrOf q).toList.take lo:=by rw[hL,←tI,List.take_left]
   rw[e1]
   refine List.ext_getElem? fun i=>?_
   rw[List.getElem?_take,List.getElem?_take]
   split
   ·rename_i hi
    rw[Array.getElem?_toList,Array.getElem?_toList];exact W.2.2 i hi
   ·rfl
  have vJ:(arrOf r2).toList=ls.flatten++T2:=by rw[←htk,←J8,List.take_append_drop]
  have UU:(T2.take n2).Pairwise (fX kf):=by rw[←J8];exact hu.list
  have hT2l:n2≤T2.length:=by
   have:(arrOf r2).toList.length=z.size:=by rw[Array.length_toList,W.1.n]
   rw[vJ,length_append] at this;omega
  have fin:∀(r3:SortSt) (jB:List (List Keyed)),rp kd z r3→Pd kf (pendingOf r3).toList jB 0→(arrOf r3).toList=jB.flatten++T2→jB.flatten.length=lo→Vl kd kf z (lo+n2) (setPending r3 ((pendingOf r3).push (lo,n2,0))):=fun r3 jB S3 P3 L3 l3=>by
   refine⟨⟨S3.p,S3.k,S3.f⟩,jB++[T2.take n2],T2.drop n2,?_,?_,?_⟩
   ·have:=AO (n:=n2) (p:=0) (l:=T2.take n2) (by rw[length_take];omega) n1 UU P3
    rw[Nat.zero_add,l3] at this
    show Pd kf ((pendingOf r3).push (lo,n2,0)).toList _ 0
    rw[Array.toList_push];exact this
   ·show (arrOf r3).toList=_
    rw[L3];simp
   ·rw[List.flatten_append,length_append,l3];simp;omega
  refine wpS_bind (wpS_get ?_)
  have P2:Pd kf (pendingOf r2).toList ls 0:=by rw[W.2.1];exact Sb
  cases hbk:(pendingOf r2).back? with
  | none =>
   dsimp only
   exact wpS_bind (wpS_modify (wpS_pure ⟨lo+n2,rfl,by omega,by omega,fin r2 ls W.1 P2 vJ tI⟩))
  | some t =>
   obtain⟨s1,m1,p1⟩:=t
   dsimp only
   refine wpS_bind (wpS_mono (wpS_forRange (Q:=fun c r3=>c=(none,())∧rp kd z r3∧∃jB,Pd kf (pendingOf r3).toList jB 0∧(arrOf r3).toList=jB.flatten++T2∧jB.flatten.length=lo) (fun x c r3=>c=(none,())∧rp kd z r3∧∃jB,Pd kf (pendingOf r3).toList jB 0∧(arrOf r3).toList=jB.flatten++T2∧jB.flatten.length=lo) (fun x c r3 _ hx hI=>?_) (fun c r3 hI=>hI) ⟨rfl,W.1,ls,P2,vJ,tI⟩) fun c r3 hI=>?_)
   ·obtain⟨rfl,S3,jB,P3,L3,l3⟩:=hI
    refine wpS_bind (wpS_get ?_)
    by_cases h2:(pendingOf r3).size > 1
    ·rw[if_pos h2]
     cases he:(pendingOf r3)[(pendingOf r3).size-2]? with
     | none=>exact wpS_pure ⟨rfl,S3,jB,P3,L3,l3⟩
     | some t =>
      obtain⟨u1,u2,u3⟩:=t
      dsimp only
      refine cP (fun _=>wpS_pure ⟨rfl,S3,jB,P3,L3,l3⟩) (fun _=>?_)
      refine wpS_bind (Fc C S3 P3 L3 (by omega) fun r4 Vm S4 P4 L4 _ l4=>?_)
      rw[if_neg (by decide)]
      exact wpS_pure ⟨rfl,S4,Vm,P4,L4,by rw[l4,l3]⟩
    ·rw[if_neg h2]
     exact wpS_pure ⟨rfl,S3,jB,P3,L3,l3⟩
   ·obtain⟨rfl,S3,jB,P3,L3,l3⟩:=hI
    dsimp only
    refine wpS_bind (wpS_modify ?_)
    refine wpS_bind (wpS_modify (wpS_pure ⟨lo+n2,rfl,by omega,by omega,fin _ jB ⟨S3.p,S3.k,S3.f⟩ ?_ L3 l3⟩))
    show Pd kf ((pendingOf r3).modify _ _).toList jB 0
    rw[Array.toList_modify]
    exact Fd _ P3
 ·obtain⟨lo,rfl,C5,hlz,B⟩:=hI
  obtain rfl:lo=z.size:=by omega
  exact⟨rfl,B⟩
 ·obtain⟨rfl,Sq,ls,T,Sb,hL,tI⟩:=hI
  dsimp only
  obtain rfl:T=[]:=by
   have:(arrOf q).toList.length=z.size:=by rw[Array.length_toList,Sq.n]
   rw[hL,length_append] at this
   exact List.eq_nil_of_length_eq_zero (by omega)
  have hps:(pendingOf q).size≤z.size:=by have:=(yZ Sb).2;rw[Array.length_toList] at this;omega
  refine wpS_bind (wpS_mono (wpS_forRange (Q:=fun c r=>c=(none,())∧rp kd z r∧(pendingOf r).size≤1∧∃jB,Pd kf (pendingOf r).toList jB 0∧(arrOf r).toList=jB.flatten++[]) (fun x c r=>c=(none,())∧rp kd z r∧(pendingOf r).size+x≤max (x+1) z.size∧∃jB,Pd kf (pendingOf r).toList jB 0∧(arrOf r).toList=jB.flatten++[]) (fun x c r _ hx hI=>?_) (fun c r hI=>?_) ⟨rfl,Sq,by omega,ls,Sb,hL⟩) fun c r hI=>?_)
  ·obtain⟨rfl,Sr,hsz,jB,Pr,Lr⟩:=hI
   refine wpS_bind (wpS_get ?_)
   refine cP (fun h1=>wpS_pure ⟨rfl,Sr,h1,jB,Pr,Lr⟩) (fun h1=>?_)
   refine Vk (ι:=Nat) (C:=fun i=>i+1<(pendingOf r).size) (G:=?G9) (fun rest=>?jc) ?jd
   case jc =>
    generalize hi:(if Option.any _ _=true then (pendingOf r).size-2-1 else (pendingOf r).size-2)=i
    refine rest i ?_
    rw[←hi]
    have two:∀c:Bool,(if c=true then (pendingOf r).size-2-1 else (pendingOf r).size-2)+1<(pendingOf r).size:=fun c=>by
     cases c
     ·rw[if_neg (by decide)];omega
     ·rw[if_pos rfl];omega
    exact two _
   case jd =>
   intro i hi
   refine wpS_bind (Fc C Sr Pr Lr hi fun r4 Vm S4 P4 L4 e4 l4=>?_)
   rw[if_neg (by decide)]
   exact wpS_pure ⟨rfl,S4,by omega,Vm,P4,L4⟩
  ·obtain⟨rfl,Sr,hsz,jB,Pr,Lr⟩:=hI
   exact⟨rfl,Sr,by omega,jB,Pr,Lr⟩
  ·obtain⟨rfl,Sr,h1,jB,Pr,Lr⟩:=hI
   refine wpS_pure (h r Sr ?_)
   rw[Lr,List.append_nil]
   have hl:=(yZ Pr).1
   rw[Array.length_toList] at hl
   match jB,hl,Pr with
   | [],_,_=>exact .nil
   | [l],_,Pr =>
    match hq:(pendingOf r).toList,Pr with
    | [(a,b,c)],Pr =>
     have:=Pr.2.2.2.1
     simpa using this
   | _::_::_,hl,_=>simp at hl;omega
theorem pw_short {kf:Keyed→Nat}:∀{l:List Keyed},l.length≤1→l.Pairwise (fX kf)
 | [],_=>.nil
 | [x],_=>List.pairwise_singleton _ _
 | _::_::_,h=>absurd h (by simp)
theorem Kl:∀{ks:List Value},(∀k∈ks,∃p t,k = .int p t)→∃ns,IntsAre ks ns
 | [],_=>⟨[],.nil⟩
 | k::ks,h=>by
  obtain⟨p,t,rfl⟩:=h k mem_cons_self
  obtain⟨ns,hn⟩:=Kl (ks:=ks) fun k hk=>h k (mem_cons_of_mem _ hk)
  exact⟨p::ns,.cons p t hn⟩
theorem B7 {A:Around}{s:Shared}{prog:Program}{w:World}{E:Value→Shared→Prop}{ks:List Value}{Q:SortKind→Shared→Prop}(h:∀k∈ks,∃p t,k = .int p t) (h2:2≤ks.length) (q:Q oneType' s):wpAny (model prog w) A (keyKind' ks.toArray) Q E s:=by
 match ks,h2 with
 | a::b::r,_ =>
  obtain⟨ns,hn⟩:=Kl h
  rw[keyKind_ints hn]
  exact wpAny_pure q
theorem Ff {l f:Addr}{vs:List Value}{n:Nat}{P:Fin→Shared→Prop}(J:Nat→List Value→Shared→Prop) (ho:s.heap.get? l=some (seqObj "list" vs.toArray n)) (hn:vs.length≤sizeLine)
  (h0:∀ep,(s.heap.update l (Obj.mapSeq fun _=>#[])).get? l=some (seqObj "list" #[] ep)→J ep [] { s with heap:=((s.heap.update l (Obj.mapSeq fun _=>#[])).push (seqObj "tuple" vs.toArray 0)).push (seqObj "list" #[] 0) })
  (hc:∀(ep:Nat) (ks:List Value) (x:Value) (s1:Shared),vs[ks.length]?=some x→J ep ks s1→wpAny (model prog w) A (call (.ref f) [x]) (fun k s2=>wpAny (model prog w) A (Builtin.List.listUpdate (.ref (s.heap.objs.size+1)) fun xs=>xs.push k) (fun _ s3=>J ep (ks++[k]) s3) E s2) (fun _ _=>False) s1)
  (hd:∀(ep:Nat) (ks:List Value) (s1:Shared),ks.length=vs.length→J ep ks s1→∃(m:Nat) (kf:Keyed→Nat),s1.heap.get? (s.heap.objs.size+1)=some (seqObj "list" ks.toArray m)∧s1.heap.get? l=some (seqObj "list" #[] ep)∧s.heap.objs.size+1≠l ∧
   (∀k∈ks,∃p t,k = .int p t)∧pW prog w A s1 oneType' kf (ks.toArray.zip vs.toArray) ∧
   ∀xs:Array Keyed,xs.Perm (ks.toArray.zip vs.toArray)→xs.toList.Pairwise (fX kf)→P (.done (.ret .none)) { s1 with heap:=(s1.heap.update (s.heap.objs.size+1) (Obj.mapSeq fun _=>#[])).update l (Obj.mapSeq fun _=>xs.map (·.2)) }) :
  wpAny (model prog w) A (Builtin.«list.sort» ⟨[.ref l],[("key",.ref f)]⟩) P E s:=by
 have e0:([("key",Value.ref f)]:List (Str×Value)).lookup ("key":Str)=some (.ref f):=rfl
 have e1:([("key",Value.ref f)]:List (Str×Value)).lookup ("reverse":Str)=none:=rfl
 unfold Builtin.«list.sort»
 dsimp only
 rw[if_neg (by show ¬(0+1 > 2);decide),if_neg (by show ¬((!true)=true);decide)]
 refine wpAny_bind ?_
 rw[List.forIn_cons]
 refine wpAny_bind ?_
 rw[if_neg (by show ¬((("key":Str) != "key"&&("key":Str) != "reverse")=true);decide)]
 refine wpAny_pure ?_
 dsimp only
 rw[List.forIn_nil]
 refine wpAny_pure ?_
 rw[e1,e0]
 refine(wpAny_bind (wpAny_pure ?_))
 have hf:(((some (Value.ref f)).getD Value.none != Value.none)=true):=rfl
 refine(wpAny_bind (listItems_at ho rfl ?_))
 refine(wpAny_bind (listUpdate_at ho rfl ?_))
 obtain⟨ep,Lh⟩:∃ep,(s.heap.update l (Obj.mapSeq fun _=>#[])).get? l=some (seqObj "list" #[] ep):=⟨_,get?_update_seq ho (fun _=>#[])⟩
 refine(wpAny_bind (seqEpoch_at Lh rfl ?_))
 refine(wpAny_bind (wpAny_newTuple ?_))
 refine(wpAny_bind (wpAny_newList ?_))
 refine wpAny_holding ?_
 rw[if_pos hf]
 refine(wpAny_bind (wpAny_rule ?_))
 refine wpAny_bind ?_
 have hsz:(s.heap.update l (Obj.mapSeq fun _=>#[])).objs.size=s.heap.objs.size:=Heap.size_update ..
 show wpAny _ _ (forIn vs.toArray PUnit.unit _) _ _ { s with heap:=((s.heap.update l (Obj.mapSeq fun _=>#[])).push (seqObj "tuple" vs.toArray 0)).push (seqObj "list" #[] 0) }
 rw[List.forIn_toArray]
 refine nN (f:=f) (q:=s.heap.objs.size+1) (vs:=vs) (J:=J ep) (fun x s1 R hx=>?_) (hc ep) (fun ks s1 rk hJ=>?_) vs [] _ rfl (Nat.zero_le _) (h0 ep Lh)
 ·refine wpAny_bind (wpAny_attempt (wpAny_mono hx (fun k s2 h2=>?_) fun _ _ z=>False.elim z))
  dsimp only
  refine wpAny_bind ?_
  rw[size_push',hsz]
  exact wpAny_mono h2 (fun _ s3 h3=>wpAny_pure h3) fun _ _ z=>z
 ·obtain⟨m,kf,hq,hl,eY,Nr,LM,hP⟩:=hd ep ks s1 rk hJ
  rw[if_pos hf]
  simp only[size_push',hsz]
  refine wpAny_bind (listItems_at hq rfl ?_)
  rw[if_neg (by decide)]
  have hsv:vs.toArray.size=vs.length:=by simp
  by_cases h2:(vs.toArray.size<2)
  ·rw[if_pos h2]
   refine(wpAny_bind (wpAny_pure ?_))
   rw[if_pos h2]
   refine wpAny_bind (wpAny_mono (Q:=fun a s'=>s'=s1∧(arrOf a.2).Perm (ks.toArray.zip vs.toArray)∧failedOf a.2=none∧(arrOf a.2).toList.Pairwise (fX kf)) ?_ ?_ fun _ _ z=>z)
   ·rw[StateT.run_pure]
    exact wpAny_pure ⟨rfl,Array.Perm.refl _,rfl,pw_short (by show (ks.toArray.zip vs.toArray).toList.length≤1;simp;simp at h2;omega)⟩
   ·rintro⟨⟨⟩,st⟩ s' ⟨rfl,hp,ED,LO⟩
    rw[if_pos hf]
    have Nt:(ks.toArray.zip vs.toArray).size=vs.length:=by simp[rk]
    refine wpAny_bind (listUpdate_at hq rfl ?_ (by rw[List.size_toArray];omega) (Nat.zero_le _))
    refine(wpAny_bind (wpAny_letGo ?_))
    have vG:(s'.heap.update (s.heap.objs.size+1) (Obj.mapSeq fun _=>#[])).get? l=some (seqObj "list" #[] ep):=(Heap.get?_update_other _ _ eY).trans hl
    refine wpAny_bind (seqEpoch_at vG rfl ?_)
    refine wpAny_bind (listUpdate_at vG rfl ?_ (Nat.zero_le _) (by rw[if_neg (by decide),Array.size_map];have nj:(arrOf st).size=_:=hp.size_eq;show (arrOf st).size≤_;omega))
    dsimp only at ED
    rw[show (sortPriv% PySem.Builtin.SortState.failed) (((),st):Unit×SortSt).snd=none from ED]
    dsimp only
    rw[if_neg (by simp)]
    exact wpAny_pure (hP (arrOf st) hp LO)
  ·rw[if_neg h2]
   refine wpAny_bind (B7 Nr (by rw[rk];simpa using h2) ?_)
   rw[if_neg h2]
   refine wpAny_bind (wpAny_mono (Q:=fun a s'=>s'=s1∧(arrOf a.2).Perm (ks.toArray.zip vs.toArray)∧failedOf a.2=none∧(arrOf a.2).toList.Pairwise (fX kf)) ?_ ?_ fun _ _ z=>z)
   ·have Nt:(ks.toArray.zip vs.toArray).size=vs.length:=by simp[rk]
    exact Fe (kd:=oneType') (kf:=kf) (z:=ks.toArray.zip vs.toArray) (st:=SortSt.mk' oneType' (ks.toArray.zip vs.toArray) #[] 7 none) (Q:=fun _ q=>(arrOf q).Perm (ks.toArray.zip vs.toArray)∧failedOf q=none∧(arrOf q).toList.Pairwise (fX kf)) LM ⟨Array.Perm.refl _,rfl,rfl⟩ rfl fun q q1 q2=>⟨q1.p,q1.f,q2⟩
   ·rintro⟨⟨⟩,st⟩ s' ⟨rfl,hp,ED,LO⟩
    rw[if_pos hf]
    have Nt:(ks.toArray.zip vs.toArray).size=vs.length:=by simp[rk]
    refine wpAny_bind (listUpdate_at hq rfl ?_ (by rw[List.size_toArray];omega) (Nat.zero_le _))
    refine(wpAny_bind (wpAny_letGo ?_))
    have vG:(s'.heap.update (s.heap.objs.size+1) (Obj.mapSeq fun _=>#[])).get? l=some (seqObj "list" #[] ep):=(Heap.get?_update_other _ _ eY).trans hl
    refine wpAny_bind (seqEpoch_at vG rfl ?_)
    refine wpAny_bind (listUpdate_at vG rfl ?_ (Nat.zero_le _) (by rw[if_neg (by decide),Array.size_map];have nj:(arrOf st).size=_:=hp.size_eq;show (arrOf st).size≤_;omega))
    dsimp only at ED
    rw[show (sortPriv% PySem.Builtin.SortState.failed) (((),st):Unit×SortSt).snd=none from ED]
    dsimp only
    rw[if_neg (by simp)]
    exact wpAny_pure (hP (arrOf st) hp LO)
end
def Vn (q:Addr) (ks:List Value) (m:Nat):HO:=.ext fun h=>h.get? q=some (seqObj "list" ks.toArray m)
def Vo (X:Cx) (π:List (Addr×Obj)) (σ:St) (H:Hp) (kp:V→Int) (xs:List V) (l q:Addr) (ep:Nat) (ks:List Value) (s1:Shared):Prop :=
 ∃(H1:Hp) (m:Nat),Inv X π σ H1 s1∧aq H H1∧H1 l=some (yP l ep)∧H1 q=some (Vn q ks m)∧∀(i:Nat) (x:V) (k:Value),xs[i]?=some x→ks[i]?=some k→∃t,k = .int (kp x) t
section
variable {X:Cx}{π:List (Addr×Obj)}{σ:St}{H:Hp}{s:Shared}{k:Nat}{f:Addr}{fd:FuncData}{p:Str}{sp:Sp}{l0:Addr}{xs:List V}{kp:V→Int}{Q:VK}
theorem B8 (F:fj X.prog X.w X.K X.mg X.base aS k f fd [p] sp) (hb:Binds X.K fd [p] []) (hr:bF (k+2) X.A)
  (hk:∀x H1 (Q':VK),x∈xs→aq H H1→(∀H2,aq H1 H2→Q' (.int (kp x)) H2)→sp [x] H1 Q' E0)
  {vs:List Value}(r:Vals xs vs) (hn:xs.length≤100000) {l q:Addr}(UG:l≠q) (UH:H q=none) (ep:Nat) (ks:List Value) (x:Value) (s1:Shared) (hx:vs[ks.length]?=some x) (hJ:Vo X π σ H kp xs l q ep ks s1) :
  wpAny (model X.prog X.w) X.A.in1.in1 (call (.ref f) [x]) (fun c s2=>wpAny (model X.prog X.w) X.A.in1.in1 (Builtin.List.listUpdate (.ref q) fun xs=>xs.push c) (fun _ s3=>Vo X π σ H kp xs l q ep (ks++[c]) s3) X.xe s2) (fun _ _=>False) s1:=by
 obtain⟨H1,m,I1,Ij,EF,Ik,J6⟩:=hJ
 have bR:ks.length<xs.length:=by rw[r.length];exact(List.getElem?_eq_some_iff.mp hx).1
 obtain⟨y,hy⟩:∃y,xs[ks.length]?=some y:=⟨xs[ks.length],getElem?_eq_getElem bR⟩
 obtain⟨u,hu,ru⟩:=r.get hy
 rw[hx] at hu
 cases hu
 have pF:y∈xs:=mem_of_getElem? hy
 have hp:=hk y H1 (fun v H2=>v = .int (kp y)∧aq H1 H2) pF Ij fun H2 s2=>⟨rfl,s2⟩
 refine wpAny_call (codeAny_mono (F.run X.A.in1.in1 X.stack s1 H1 ⟨[x],[]⟩ [x] [y] _ E0 hr.in1.in1 I1.BC.in1.in1 (hb s1 [x] I1.oG rfl) (.cons ru .nil) hp) fun r' s2 nj=>?_)
 cases r' with
 | error e=>exact nj
 | ok fl =>
  cases fl with
  | next=>exact nj
  | brk=>exact nj
  | cont=>exact nj
  | ret c =>
   obtain⟨v,H2,I2,rv,rfl,J7⟩:=I1.after nj
   obtain⟨t,rfl⟩:∃t,c = .int (kp y) t:=rv
   have Gr:=J7 _ _ Ik
   have eo:s2.heap.get? q=some (seqObj "list" ks.toArray m):=(I2.aV q _ Gr).1
   have lb:=fQ
   refine listUpdate_at eo rfl ?_ (by rw[List.size_toArray];omega) (by rw[Array.size_push,List.size_toArray];omega)
   have Mm:=get?_update_seq eo (fun xs=>xs.push (.int (kp y) t))
   rw[show ks.toArray.push (Value.int (kp y) t)=(ks++[Value.int (kp y) t]).toArray by simp] at Mm
   obtain⟨m',Mm⟩:∃m',(s2.heap.update q (Obj.mapSeq fun xs=>xs.push (.int (kp y) t))).get? q=some (seqObj "list" (ks++[Value.int (kp y) t]).toArray m'):=⟨_,Mm⟩
   have mu:GD (H2 q):=by rw[Gr];exact trivial
   have I3:Inv X π σ (upd H2 q (Vn q (ks++[Value.int (kp y) t]) m')) { s2 with heap:=s2.heap.update q (Obj.mapSeq fun xs=>xs.push (.int (kp y) t)) }:=by
    have kk:∀b u,b≠q→s2.heap.get? b=some u→(s2.heap.update q (Obj.mapSeq fun xs=>xs.push (.int (kp y) t))).get? b=some u:=fun b u jt hu=>(Heap.get?_update_other _ _ (Ne.symm jt)).trans hu
    generalize s2.heap.update q (Obj.mapSeq fun xs=>xs.push (.int (kp y) t))=h6 at Mm kk ⊢
    exact I2.write (t':=s2.toks) (h':=h6) mu (.inl rfl) kk ⟨_,Mm⟩ ⟨Mm,⟨_,Mm⟩,fun _ _ e kk=>kk _ e⟩
   refine⟨_,_,I3,(Ij.trans J7).upd UH,?_,aj,fun i z b yB jt=>?_⟩
   ·rw[aA UG];exact J7 _ _ EF
   ·rcases Nat.lt_or_ge i ks.length with hi|hi
    ·rw[getElem?_append_left hi] at jt
     exact J6 i z b yB jt
    ·have uk:i=ks.length:=by
      have:=(List.getElem?_eq_some_iff.mp jt).1
      rw[length_append] at this
      have:i<ks.length+1:=this
      omega
     subst uk
     rw[getElem?_append_right (Nat.le_refl _),Nat.sub_self] at jt
     cases jt
     rw[hy] at yB
     cases yB
     exact⟨t,rfl⟩
def Mn (x:Keyed):Nat:=match x.1 with
 | .int p _=>p.toNat
 | _=>0
theorem wX (F:fj X.prog X.w X.K X.mg X.base aS k f fd [p] sp) (hb:Binds X.K fd [p] []) (hr:bF (k+2) X.A) (I:Inv X π σ H s) (hl:bP X.K H l0 xs) (hn:xs.length≤100000)
  (hk:∀x H1 (Q':VK),x∈xs→aq H H1→(∀H2,aq H1 H2→Q' (.int (kp x)) H2)→sp [x] H1 Q' E0)
  (wG:∀x∈xs,0≤kp x)
  (hQ:∀l H' ws,aq H H'→H l=none→H' l=some (.lst ws)→ws.Perm xs→ws.Pairwise (fun x y=>kp x≤kp y)→Q (.ref l) H') :
  wpAny (model X.prog X.w) X.A (call (.builtin "sorted") [.ref l0] [("key",.ref f)]) (EP X π σ Q) X.xe s:=by
 obtain⟨vs,r,⟨o,n,ho,hc,hdc,hd⟩,hz⟩:=I.list hl
 have hlen:=r.length
 have UI:s.heap.IsList l0 vs.toArray:=⟨o,ho,hc,n,hd⟩
 refine call_function_entry_kw kind_sorted plain_sorted entry_sorted (mO _ _) ?_
 unfold Builtin.«sorted»
 refine(wpAny_bind (m:=checkCount "sorted" 1 1 _) (wpAny_pure ?_))
 have lb:=fQ
 refine wpAny_bind (collect_list UI ?_ (by omega))
 refine wpAny_bind (wpAny_newList ?_ (by omega))
 have hsz:((s.heap.push (seqObj "list" #[] 0)).update s.heap.objs.size (Obj.mapSeq (·++vs.toArray))).objs.size=s.heap.objs.size+1:=(Heap.size_update ..).trans (size_push' ..)
 have wH:∀b u,s.heap.get? b=some u→(((s.heap.push (seqObj "list" #[] 0)).update s.heap.objs.size (Obj.mapSeq (·++vs.toArray))).push (seqObj "list" vs.toArray 0)).get? b=some u:=fun b u e=>by
  have:b≠s.heap.objs.size:=Nat.ne_of_lt (Heap.lt_size e)
  exact Heap.get?_push_of_some _ ((Heap.get?_update_other _ _ (Ne.symm this)).trans (Heap.get?_push_of_some _ e))
 have uq:(((s.heap.push (seqObj "list" #[] 0)).update s.heap.objs.size (Obj.mapSeq (·++vs.toArray))).push (seqObj "list" vs.toArray 0)).get? (s.heap.objs.size+1)=some (seqObj "list" vs.toArray 0):=by
  (rw[←hsz];exact Heap.get?_push_size _ rfl)
 have LQ:(((s.heap.push (seqObj "list" #[] 0)).update s.heap.objs.size (Obj.mapSeq (·++vs.toArray))).push (seqObj "list" vs.toArray 0)).objs.size=s.heap.objs.size+2:=by rw[size_push',hsz]
 change wpAny _ _ _ _ _ { s with heap:=((s.heap.push (seqObj "list" #[] 0)).update s.heap.objs.size (Obj.mapSeq (·++vs.toArray))).push (seqObj "list" vs.toArray 0) }
 rw[show ((s.heap.push (seqObj "list" #[] 0)).update s.heap.objs.size (Obj.mapSeq (·++vs.toArray))).objs.size=s.heap.objs.size+1 from hsz]
 generalize ((s.heap.push (seqObj "list" #[] 0)).update s.heap.objs.size (Obj.mapSeq (·++vs.toArray))).push (seqObj "list" vs.toArray 0)=h1 at wH uq LQ ⊢
 generalize hL:s.heap.objs.size+1=l at uq ⊢
 have CV:h1.objs.size=l+1:=by omega
 have LR:H l=none:=I.aV.fresh (by omega)
 have LS:H (l+2)=none:=I.aV.fresh (by omega)
 refine wpAny_bind (wpAny_holding (wpAny_call_entry_kw slot_list_sort ⟨_,uq,rfl⟩ entry_list_sort (Ff (s:={ s with heap:=h1 }) (Vo X π σ H kp xs l (l+2)) uq (by omega) (fun ep UJ=>?_) (fun ep ks x s1 hx hJ=>?_) (fun ep ks s1 rk hJ=>?_)) (pY _ _)))
 ·have eY:∀b u,s.heap.get? b=some u→b≠l:=fun b u e=>Nat.ne_of_lt (Nat.lt_of_lt_of_le (Heap.lt_size e) (by omega))
  have kA:∀b u,s.heap.get? b=some u→((h1.update l (Obj.mapSeq fun _=>#[])).push (seqObj "tuple" vs.toArray 0)).get? b=some u:=fun b u e =>
   Heap.get?_push_of_some _ ((Heap.get?_update_other _ _ (Ne.symm (eY b u e))).trans (wH b u e))
  have eA:((h1.update l (Obj.mapSeq fun _=>#[])).push (seqObj "tuple" vs.toArray 0)).get? l=some (seqObj "list" #[] ep):=Heap.get?_push_of_some _ UJ
  have zA:((h1.update l (Obj.mapSeq fun _=>#[])).push (seqObj "tuple" vs.toArray 0)).objs.size=l+2:=by rw[size_push',Heap.size_update,CV]
  have IA:Inv X π σ (upd H l (yP l ep)) { s with heap:=(h1.update l (Obj.mapSeq fun _=>#[])).push (seqObj "tuple" vs.toArray 0) } :=
   I.laid (t':=s.toks) kA (by omega) ⟨eA,⟨_,eA⟩,fun _ _ e kk=>kk _ e⟩
  generalize (h1.update l (Obj.mapSeq fun _=>#[])).push (seqObj "tuple" vs.toArray 0)=hA at kA eA zA IA ⊢
  have UK:({ s with heap:=hA }:Shared).heap.objs.size=l+2:=zA
  have eB:(hA.push (seqObj "list" #[] 0)).get? (l+2)=some (seqObj "list" ([]:List Value).toArray 0):=by rw[←zA];exact Heap.get?_push_size _ rfl
  have IB:Inv X π σ (upd (upd H l (yP l ep)) (l+2) (Vn (l+2) [] 0)) { s with heap:=hA.push (seqObj "list" #[] 0) } :=
   IA.laid (t':=s.toks) (fun b u e=>Heap.get?_push_of_some _ e) (Nat.le_of_eq UK) ⟨eB,⟨_,eB⟩,fun _ _ e kk=>kk _ e⟩
  refine⟨_,0,IB,(aq.new LR).trans (aq.new ?_),?_,aj,fun i x b _ jt=>by cases jt⟩
  ·rw[aA (Nat.ne_of_gt (by omega:l<l+2))];exact LS
  ·rw[aA (Nat.ne_of_lt (by omega:l<l+2)),aj]
 ·have e:({ s with heap:=h1 }:Shared).heap.objs.size+1=l+2:=by show h1.objs.size+1=_;rw[CV]
  rw[e]
  exact B8 F hb hr hk r hn (Nat.ne_of_lt (by omega:l<l+2)) LS ep ks x s1 hx hJ
 ·obtain⟨H1,m,I1,Ij,EF,Ik,J6⟩:=hJ
  have e:({ s with heap:=h1 }:Shared).heap.objs.size+1=l+2:=by show h1.objs.size+1=_;rw[CV]
  rw[e]
  have eo:s1.heap.get? (l+2)=some (seqObj "list" ks.toArray m):=(I1.aV (l+2) _ Ik).1
  have eL:s1.heap.get? l=some (seqObj "list" #[] ep):=(I1.aV l _ EF).1
  have BV:∀(i:Nat) (x:V),xs[i]?=some x→∃t u,ks[i]?=some (.int (kp x) t)∧vs[i]?=some u∧RelV x u∧(ks.zip vs)[i]?=some (.int (kp x) t,u):=fun i x hx=>by
   have hi:i<ks.length:=by rw[rk,←hlen];exact(List.getElem?_eq_some_iff.mp hx).1
   obtain⟨t,ht⟩:=J6 i x ks[i] hx (getElem?_eq_getElem hi)
   have e1:ks[i]?=some (.int (kp x) t):=by rw[getElem?_eq_getElem hi,ht]
   obtain⟨u,hu,ru⟩:=r.get hx
   exact⟨t,u,e1,hu,ru,List.getElem?_zip_eq_some.mpr ⟨e1,hu⟩⟩
  have Nu:(ks.zip vs).length=xs.length:=by rw[List.length_zip];omega
  have EG:∀y,y∈ks.zip vs→∃i x,xs[i]?=some x∧x∈xs∧(ks.zip vs)[i]?=some y:=fun y hy=>by
   obtain⟨i,hi⟩:=mem_iff_getElem?.mp hy
   have bR:i<xs.length:=by rw[←Nu];exact(List.getElem?_eq_some_iff.mp hi).1
   exact⟨i,xs[i],getElem?_eq_getElem bR,List.getElem_mem bR,hi⟩
  have O0:(ks.toArray.zip vs.toArray).toList=ks.zip vs:=by simp
  have hkv:∀y,y∈ks.zip vs→∃n t,y.1 = .int n t∧0≤n:=fun y hy=>by
   obtain⟨i,x,hx,hm,e⟩:=EG y hy
   obtain⟨t,u,_,_,_,e3⟩:=BV i x hx
   rw[e] at e3;cases e3
   exact⟨_,t,rfl,wG x hm⟩
  refine⟨m,Mn,eo,eL,Nat.ne_of_gt (by omega:l<l+2),?_,?_,?_⟩
  ·intro kx UM
   obtain⟨i,hi⟩:=mem_iff_getElem?.mp UM
   have bR:i<xs.length:=by rw[hlen,←rk];exact(List.getElem?_eq_some_iff.mp hi).1
   obtain⟨t,ht⟩:=J6 i xs[i] kx (getElem?_eq_getElem bR) hi
   exact⟨_,t,ht⟩
  ·intro x y Q' E' hx hy pj
   rw[O0] at hx hy
   obtain⟨n1,t1,e1,p1⟩:=hkv x hx
   obtain⟨n2,t2,e2,p2⟩:=hkv y hy
   obtain⟨x1,x2⟩:=x
   obtain⟨y1,y2⟩:=y
   obtain rfl:x1 = .int n1 t1:=e1
   obtain rfl:y1 = .int n2 t2:=e2
   refine PySem.W.kat_lt_int ?_
   have:decide (n1<n2)=decide (Mn (.int n1 t1,x2)<Mn (.int n2 t2,y2)):=by
    apply decide_eq_decide.mpr
    show n1<n2↔n1.toNat<n2.toNat
    omega
   rw[this];exact pj
  ·intro zs UN O1
   refine⟨_,rfl,wpAny_pure ⟨_,rfl,?_⟩⟩
   have LU:zs.toList.Perm (ks.zip vs):=by rw[←O0];exact Array.perm_iff_toList_perm.mp UN
   have J8:(xs.zip (ks.zip vs)).map Prod.snd=ks.zip vs:=List.map_snd_zip (by omega)
   have UO:(xs.zip (ks.zip vs)).map Prod.fst=xs:=List.map_fst_zip (by omega)
   have hT:∀t∈xs.zip (ks.zip vs),RelV t.1 t.2.2∧Mn t.2=(kp t.1).toNat∧t.1∈xs:=fun t ht=>by
    obtain⟨i,hi⟩:=mem_iff_getElem?.mp ht
    obtain⟨e1,e2⟩:=List.getElem?_zip_eq_some.mp hi
    obtain⟨tk,u,_,_,ru,e3⟩:=BV i t.1 e1
    rw[e2] at e3
    have:t.2=(.int (kp t.1) tk,u):=Option.some.inj e3
    rw[this]
    exact⟨ru,rfl,mem_of_getElem? e1⟩
   obtain⟨T,hp,hm⟩:=sG Prod.snd LU _ J8
   have Nv:∀t∈T,RelV t.1 t.2.2∧Mn t.2=(kp t.1).toNat∧t.1∈xs:=fun t ht=>hT t (hp.mem_iff.mp ht)
   have hv:=uo fun t ht=>(Nv t ht).1
   have O2:(T.map (·.1)).Perm xs:=by have:=hp.map Prod.fst;rw[UO] at this;exact this
   have K2:(T.map (·.1)).length≤sizeLine:=by rw[O2.length_eq];omega
   have UP:zs.map (·.2)=(T.map (·.2.2)).toArray:=by
    apply Array.toList_inj.mp
    rw[Array.toList_map,←hm,List.map_map];rfl
   rw[UP]
   have eq2:=get?_update_seq eo (fun _=>#[])
   have mq:GD (H1 (l+2)):=by rw[Ik];exact trivial
   have I2:Inv X π σ (upd H1 (l+2) (.lst [])) { s1 with heap:=s1.heap.update (l+2) (Obj.mapSeq fun _=>#[]) }:=by
    have kk:∀b u,b≠l+2→s1.heap.get? b=some u→(s1.heap.update (l+2) (Obj.mapSeq fun _=>#[])).get? b=some u:=fun b u jt hu=>(Heap.get?_update_other _ _ (Ne.symm jt)).trans hu
    generalize s1.heap.update (l+2) (Obj.mapSeq fun _=>#[])=h6 at eq2 kk ⊢
    exact I1.write (t':=s1.toks) (h':=h6) mq (.inl rfl) kk ⟨_,eq2⟩ ⟨Nat.zero_le _,[],_,.nil,eq2⟩
   have O3:(s1.heap.update (l+2) (Obj.mapSeq fun _=>#[])).get? l=some (seqObj "list" #[] ep):=(Heap.get?_update_other _ _ (Nat.ne_of_gt (by omega:l<l+2))).trans eL
   have Il:=get?_update_seq O3 (fun _=>(T.map (·.2.2)).toArray)
   have vG:upd H1 (l+2) (.lst []) l=some (yP l ep):=by rw[aA (Nat.ne_of_lt (by omega:l<l+2))];exact EF
   have mu:GD (upd H1 (l+2) (.lst []) l):=by rw[vG];exact trivial
   have I3:Inv X π σ (upd (upd H1 (l+2) (.lst [])) l (.lst (T.map (·.1)))) { s1 with heap:=(s1.heap.update (l+2) (Obj.mapSeq fun _=>#[])).update l (Obj.mapSeq fun _=>(T.map (·.2.2)).toArray) }:=by
    generalize s1.heap.update (l+2) (Obj.mapSeq fun _=>#[])=h5 at I2 O3 Il ⊢
    have kk:∀b u,b≠l→h5.get? b=some u→(h5.update l (Obj.mapSeq fun _=>(T.map (·.2.2)).toArray)).get? b=some u:=fun b u jt hu=>(Heap.get?_update_other _ _ (Ne.symm jt)).trans hu
    generalize h5.update l (Obj.mapSeq fun _=>(T.map (·.2.2)).toArray)=h6 at Il kk ⊢
    exact I2.write (t':=s1.toks) (h':=h6) mu (.inl rfl) kk ⟨_,Il⟩ ⟨K2,_,_,hv,Il⟩
   refine⟨.ref l,_,I3,rfl,hQ l _ _ ((Ij.upd LS).upd LR) LR aj O2 ?_⟩
   rw[←hm] at O1
   rw[pairwise_map] at O1 ⊢
   refine List.Pairwise.imp_of_mem (fun {a b} ha jt Gp=>?_) O1
   have JW:=Nv a ha
   have Hw:=Nv b jt
   have Gp:Mn a.2≤Mn b.2:=Gp
   rw[JW.2.1,Hw.2.1] at Gp
   have:=wG _ JW.2.2
   have:=wG _ Hw.2.2
   show kp a.1≤kp b.1
   omega
def Km (K:Frag) (sp:Sp) (Q:VK) (x:V) (H1:Hp):Prop:=∃(l0:Addr) (xs:List V) (kp:V→Int),x = .ref l0∧bP K H1 l0 xs∧xs.length≤100000 ∧
 (∀x H2 (Q':VK),x∈xs→aq H1 H2→(∀H3,aq H2 H3→Q' (.int (kp x)) H3)→sp [x] H2 Q' E0) ∧
 (∀x∈xs,0≤kp x) ∧
 ∀l H' ws,aq H1 H'→H1 l=none→H' l=some (.lst ws)→ws.Perm xs→ws.Pairwise (fun x y=>kp x≤kp y)→Q (.ref l) H'
def Mo (K:Frag) (sp:Sp) (te:TE):TE:=fun σ H Q=>te σ H (Km K sp Q)
variable {x:Str}{pn:Pos}{pk:Pos}{GW:Pos}{pos:Pos}{e:Expr}{te:TE}
theorem zc (K:Frag) (C:bh X.prog X.w X.K X.mg X.base aS k x [p] sp) (hr:bF (k+2) X.A) (gH:X.mg "sorted"=none) (ha:PE X e te) (LV:Gl X "sorted":=by rfl) (hg:Gl X x:=by rfl) (oJ:(x == ("__debug__":Str))=false:=by decide) (hK:X.K=K:=by rfl)
  (hv:bootBuiltins "sorted"=some (.builtin "sorted"):=by decide +kernel) (he:starEach [e] X.env=[(false,eval e X.env)]:=by rfl) :
  PE X (.Call (.Name "sorted" pn) [e] [⟨some "key",.Name x pk,GW⟩] pos) (Mo K sp te):=by
 subst hK
 obtain⟨f,fd,F,hm,kp',hb⟩:=C.ex
 intro π s σ H Q I h
 refine wpAny_Call_Name_kw (jE I LV gH hv ?_ (by decide) (by decide))
 refine callWith_kw (bL ((aa ha ah he:PA X [e] _) pos π s σ H (O5 (Km X.K sp Q)) I h) fun us s1 ⟨vs,H1,I1,r,q⟩=>?_) (by rw[he];rfl) (by rw[he];rfl)
 match vs,r,q with
 | [v],r,q =>
  obtain⟨u,rfl,ru⟩:=r.one
  obtain⟨l0,xs,kp,rfl,hl,hn,hk,wG,hQ⟩:=q
  obtain rfl:u = .ref l0:=ru
  refine kws_cons (gR I1 hg hm (kws_nil ?_) oJ)
  exact wX F hb hr I1 hl hn hk wG hQ
end
end L2
namespace TC
open PySem L2
def eW (r:Rw):Nat:=pc (r.x|||r.z)
def iH (x z:Nat) (r:Rw):Rw:=⟨1,r.x+x,r.z+z⟩
def CY (many:Int) (ts:List Rw):List Rw:=ts.filter fun r=>decide ((eW r:Int)<many)
def ze (many:Int) (c:Nat) (ts:List Rw):List Rw:=ts++(CY many ts).map (iH (2^c) 0)++(CY many ts).map (iH 0 (2^c))++(CY many ts).map (iH (2^c) (2^c))
def i3 (many:Int):Nat→List Rw
 | 0=>[⟨1,0,0⟩]
 | c+1=>ze many c (i3 many c)
theorem o5 (many:Int):∀c,(i3 many c).length≤4^c
 | 0=>Nat.le_refl 1
 | c+1=>by
  have ih:=o5 many c
  have:=List.length_filter_le (fun r=>decide ((eW r:Int)<many)) (i3 many c)
  show (ze many c (i3 many c)).length≤_
  unfold ze CY
  simp only[length_append,length_map]
  rw[Nat.pow_succ];omega
theorem IP:∀c:Nat,c<6→∀a:Nat,a<2^c→pc (2^c+a)=pc a+1:=by
 have:∀c:Fin 6,∀a:Fin (2^c.1),pc (2^c.1+a.1)=pc a.1+1:=by decide +kernel
 exact fun c hc a ha=>this ⟨c,hc⟩ ⟨a,ha⟩
theorem qa {c a:Nat}(h:a<2^c):2^c+a=2^c|||a:=by
 have:=Nat.two_pow_add_eq_or_of_lt h 1
 rw[Nat.mul_one] at this;exact this
theorem o6 {c:Nat}(hc:c<6) {r:Rw}(hx:r.x<2^c) (hz:r.z<2^c):eW (iH (2^c) 0 r)=eW r+1∧eW (iH 0 (2^c) r)=eW r+1∧eW (iH (2^c) (2^c) r)=eW r+1:=by
 have ho:r.x|||r.z<2^c:=Nat.or_lt_two_pow hx hz
 have e:=IP c hc _ ho
 rw[qa ho] at e
 unfold eW iH
 dsimp only
 refine⟨?_,?_,?_⟩
 ·rw[Nat.add_zero,Nat.add_comm,qa hx,Nat.or_assoc];exact e
 ·rw[Nat.add_zero,Nat.add_comm r.z,qa hz,←Nat.or_assoc,Nat.or_comm r.x,Nat.or_assoc];exact e
 ·rw[Nat.add_comm r.x,Nat.add_comm r.z,qa hx,qa hz,show (2^c|||r.x)|||(2^c|||r.z)=2^c|||(r.x|||r.z) by
   rw[Nat.or_assoc,←Nat.or_assoc r.x,Nat.or_comm r.x (2^c),Nat.or_assoc,←Nat.or_assoc (2^c) (2^c),Nat.or_self]]
  exact e
theorem fJ (many:Int):∀c,c≤6→∀r:Rw,r∈i3 many c↔(r.sg=1∧r.x<2^c∧r.z<2^c)∧((r.x=0∧r.z=0)∨(eW r:Int)≤many)
 | 0,_,r=>by
  show r∈[(⟨1,0,0⟩:Rw)]↔_
  rw[mem_singleton]
  constructor
  ·rintro rfl;exact⟨⟨rfl,by decide,by decide⟩,.inl ⟨rfl,rfl⟩⟩
  ·rintro⟨⟨h1,h2,h3⟩,_⟩
   obtain⟨s,x,z⟩:=r
   obtain rfl:s=1:=h1
   have h2:x<2^0:=h2
   have h3:z<2^0:=h3
   obtain rfl:x=0:=by omega
   obtain rfl:z=0:=by omega
   rfl
 | c+1,hc,r=>by
  have ih:=fJ many c (by omega)
  have p2:2^(c+1)=2^c+2^c:=by rw[Nat.pow_succ];omega
  have pp:=Nat.two_pow_pos c
  have fm:∀t,t∈CY many (i3 many c)↔(t.sg=1∧t.x<2^c∧t.z<2^c)∧(eW t:Int)<many:=fun t=>by
   unfold CY
   rw[mem_filter,ih,decide_eq_true_eq]
   constructor
   ·rintro⟨⟨h1,_⟩,h2⟩;exact⟨h1,h2⟩
   ·rintro⟨h1,h2⟩;exact⟨⟨h1,.inr (by omega)⟩,h2⟩
  show r∈ze many c (i3 many c)↔_
  unfold ze
  simp only[mem_append,List.mem_map]
  constructor
  ·rintro(((h|⟨t,ht,rfl⟩)|⟨t,ht,rfl⟩)|⟨t,ht,rfl⟩)
   ·obtain⟨⟨h1,h2,h3⟩,h4⟩:=(ih r).mp h
    exact⟨⟨h1,by omega,by omega⟩,h4⟩
   all_goals
    obtain⟨⟨h1,h2,h3⟩,h4⟩:=(fm t).mp ht
    have:=o6 (by omega) h2 h3
    refine⟨⟨rfl,?_,?_⟩,.inr ?_⟩
    ·show t.x+_<_;omega
    ·show t.z+_<_;omega
    ·first|(rw[this.1];omega)|(rw[this.2.1];omega)|(rw[this.2.2];omega)
  ·rintro⟨⟨h1,h2,h3⟩,h4⟩
   obtain⟨s,x,z⟩:=r
   obtain rfl:s=1:=h1
   have h2:x<2^(c+1):=h2
   have h3:z<2^(c+1):=h3
   have key:∀(t:Rw) (u v:Nat),t.sg=1→t.x<2^c→t.z<2^c→(⟨1,x,z⟩:Rw)=iH u v t→eW (iH u v t)=eW t+1→¬(x=0∧z=0)→t∈CY many (i3 many c):=fun t u v t1 t2 t3 e l n=>by
    refine(fm t).mpr ⟨⟨t1,t2,t3⟩,?_⟩
    rcases h4 with h4|h4
    ·exact absurd h4 n
    ·rw[e,l] at h4;omega
   by_cases hx:x<2^c
   ·by_cases hz:z<2^c
    ·exact .inl (.inl (.inl ((ih _).mpr ⟨⟨rfl,hx,hz⟩,h4⟩)))
    ·have e:(⟨1,x,z⟩:Rw)=iH 0 (2^c) ⟨1,x,z-2^c⟩:=by
      show _=(⟨1,x+0,z-2^c+2^c⟩:Rw);rw[Nat.add_zero,Nat.sub_add_cancel (by omega)]
     exact .inl (.inr ⟨⟨1,x,z-2^c⟩,key _ _ _ rfl hx (show z-2^c<2^c by omega) e (o6 (by omega) hx (show z-2^c<2^c by omega)).2.1 (by omega),e.symm⟩)
   ·by_cases hz:z<2^c
    ·have e:(⟨1,x,z⟩:Rw)=iH (2^c) 0 ⟨1,x-2^c,z⟩:=by
      show _=(⟨1,x-2^c+2^c,z+0⟩:Rw);rw[Nat.add_zero,Nat.sub_add_cancel (by omega)]
     exact .inl (.inl (.inr ⟨⟨1,x-2^c,z⟩,key _ _ _ rfl (show x-2^c<2^c by omega) hz e (o6 (by omega) (show x-2^c<2^c by omega) hz).1 (by omega),e.symm⟩))
    ·have e:(⟨1,x,z⟩:Rw)=iH (2^c) (2^c) ⟨1,x-2^c,z-2^c⟩:=by
      show _=(⟨1,x-2^c+2^c,z-2^c+2^c⟩:Rw);rw[Nat.sub_add_cancel (by omega),Nat.sub_add_cancel (by omega)]
     exact .inr ⟨⟨1,x-2^c,z-2^c⟩,key _ _ _ rfl (show x-2^c<2^c by omega) (show z-2^c<2^c by omega) e (o6 (by omega) (show x-2^c<2^c by omega) (show z-2^c<2^c by omega)).2.2 (by omega),e.symm⟩
end TC
namespace L2
open PySem
section
variable {X:Cx}{k:Nat}{m:Str}{C:Addr}{sp:Sp}{pos apos:Pos}{o:Expr}{ta:TE}
theorem Pw {pl:Sem Bool}(D:wO X.prog X.w X.K X.mg X.base k C m sp) (hr:bF k X.A) (he:PE X o ta)
  (ht:eval (.Call (.Attribute o m apos) [] [] pos) X.env=(do
   let ov ←eval o X.env
   standAt apos.atName
   let (f,first) ←holding [ov] (getMethod ov m pl)
   callWith pos f first (backTo pos (starEach [] X.env)) (backToKw pos (keywordEach [] X.env))):=by rfl):PE X (.Call (.Attribute o m apos) [] [] pos) (Ad C m sp [] E0 ta GS):=by
 obtain⟨f,fd,ps,F,hm,hb⟩:=D.ex
 exact Dz he D.c hm F hr hb .nil wb ht
end
end L2
namespace L2
open PySem PySem.Spec PyProof.Rows
structure AQ (P:Program) (w:World) (K:Frag) (mg:Str→Option Value) (base:Heap) (k:Nat) (C:Addr) (m:Str) (sp:Sp):Prop where
 ex:∃(f:Addr) (fd:FuncData) (ps:List Str),fj P w K mg base (Hg P w) k f fd ps sp∧Meth K C m f∧Binds K fd ps []
 c:qV K C
section
variable {P:Program}{w:World}{K:Frag}{mg:Str→Option Value}{base:Heap}{C:Addr}{m x qual:Str}{st:Stmt}{ps N:List Str}{k:Nat}{sp:Sp}
theorem p8.T7 (D:p8 K C m qual st ps) (S:aw N ps (ae st)) (len:∀vs H Q E,sp vs H Q E→vs.length=ps.length)
  (fP:∀(f:Addr) (aR:Value) (A:Around) (outer:List Env) (s:Shared) (H:Hp) (vs:List V) (Q:VK) (E:XK),bF k (A.deeper (envOfC qual (ae st) s.heap.objs.size f aR))→sp vs H Q E →
   Rs (lr (Hg P w) P w K mg base N qual (ae st) f aR A outer s H E) (fun c od _ H'=>E c od H') →
   ∃t,oH (lr (Hg P w) P w K mg base N qual (ae st) f aR A outer s H E) (ar st) t∧t { nx:=fun _ H'=>Q .cH H',rt:=Q } (start N vs) H):AQ P w K mg base (k+1) C m sp:=by
 obtain⟨f,fd,F,q,b⟩:=D.ex
 exact⟨⟨f,fd,ps,F.T7 S len (fun aR A outer s H vs Q E hr h R=>fP f aR A outer s H vs Q E hr h R),q,b⟩,D.c⟩
def Mp (C:Addr) (m:Str) (sp:Sp) (E:XS) (ta:TE) (t:TA):TE:=fun σ H Q=>ta σ H fun x H1=>∃a dx fs,x = .ref a∧H1 a=some (.ins C dx fs)∧fs.lookup m=none ∧
 t σ H1 fun vs H2=>sp (x::(vs++[])) H2 Q (fun c od H'=>E c od σ H')
variable {X:Cx}{pos:Pos}{apos:Pos}{o:Expr}{e:Expr}{es:List Expr}{ta:TE}{t:TA}
theorem Fg {pl:Sem Bool}{E:XS}(D:AQ X.prog X.w X.K X.mg X.base k C m sp) (hr:bF k X.A) (R:Rs X E) (he:PE X o ta) (ha:PA X (e::es) t) (hex:X.ex=[]:=by rfl)
  (Dh:starEach (e::es) X.env=(false,eval e X.env)::starEach es X.env:=by rfl) (lq:(backTo pos (starEach es X.env)).any (·.1)=false:=by rfl)
  (ht:eval (.Call (.Attribute o m apos) (e::es) [] pos) X.env=(do
   let ov ←eval o X.env
   standAt apos.atName
   let (f,first) ←holding [ov] (getMethod ov m pl)
   callWith pos f first (backTo pos (starEach (e::es) X.env)) (backToKw pos (keywordEach [] X.env))):=by rfl):PE X (.Call (.Attribute o m apos) (e::es) [] pos) (Mp C m sp E ta t):=by
 obtain⟨f,fd,ps,F,hm,hb⟩:=D.ex
 have c:=D.c
 intro π s σ H Q I h
 refine PySem.W.methodCall_KW (pl:=pl) (bL (he π s σ H _ I h) fun u s1 ⟨x,H1,I1,rx,a,dx,fs,ex,ea,l,q⟩=>?_) ht
 subst ex
 obtain rfl:u=Value.ref a:=rx
 refine iR I1 ea c hm l ?_
 refine PySem.W.callWith_K (first:=[.ref a]) (h₀:=X.base) I.ok.mod.C8 hm.kp (bL (ha pos π s1 σ H1 _ I1 q) fun us s2 ⟨vs,H2,I2,r,q2⟩=>⟨I2.oG,?_⟩) Dh lq
 exact Hi (us:=.ref a::us) (vs:=.ref a::vs) F hr hb .nil R hex I2 (.cons rfl r) q2
def Sd:R2:=fun x y H Q=>∃(a b:Addr) (aB:List (List Key×V)) (k:List Key),x = .ref b∧y = .ref a∧H a=some (.dT aB)∧H b=some (.tup (k.map kV))∧Q (.bl (!(dc aB k).isSome)) H
def rInDK:R2:=fun x y H Q=>∃(a:Addr) (aB:List (Key×V)) (k:Key),x=kV k∧y = .ref a∧H a=some (.dK aB)∧Q (.bl (dc aB k).isSome) H
def Fh:R2:=fun x y H Q=>∃(a:Addr) (aB:List (Key×V)) (k:Key),x=kV k∧y = .ref a∧H a=some (.dK aB)∧Q (.bl (!(dc aB k).isSome)) H
theorem qb (hu:X.A.units+1<cLine):iP X (compareOp .NotIn) Fh:=by
 intro π s σ H x y v u Q I rx ry h
 obtain⟨a,aB,k,rfl,rfl,ea,q⟩:=h
 cases ry
 exact Io hu I (wJ.k ea) rx fun s' I'=>⟨.bl _,H,I',rfl,q⟩
def Mq:Bs:=fun o i v H Q=>∃(a:Addr) (aB:List (Key×V)) (k:Key),o = .ref a∧i=kV k∧H a=some (.dK aB)∧aB.length<sizeLine∧Q (upd H a (.dK (putK aB k v)))
theorem Mr (hu:X.A.units+1<cLine):KG X Mq:=by
 intro π s σ H o i v ov iv u Q I ro ri rv h
 obtain⟨a,aB,k,rfl,rfl,ea,hl,q⟩:=h
 cases ro
 exact BY hu I (Im.k ea hl) ri rv fun s' I'=>⟨_,I',q⟩
def Px:V→V→Hp→VK→Prop:=fun x y H Q=>∃(a:Addr) (aB:List (Key×V)) (k:Key) (v:V),x = .ref a∧y=kV k∧H a=some (.dK aB)∧dc aB k=some v∧Q v H
theorem Fi (hu:X.A.units+1<cLine):Nh X Px:=by
 intro value slice π s σ H x y v u Q I rx ry h hs
 obtain⟨a,aB,k,z,rfl,rfl,ea,ev,q⟩:=h
 cases rx
 obtain⟨_,_,vs,_,dd⟩:=Kb I.aV ea
 exact tail_any dd.mapOf.typeIs PySem.F.slot_dict_getitem.lookup (BX hu I (ev▸wJ.k ea) ry fun w' s' I' r'=>⟨z,H,I',r',q⟩) hs
end
section
variable {X:Cx}{π:List (Addr×Obj)}{σ:St}{H:Hp}{s:Shared}{a:Addr}{aB:List (Key×V)}{k:Key}{u:Value}{A:Around}{E:Value→Shared→Prop}
def Vp (td ty:TE):TE:=fun σ H Q=>td σ H fun x H1=>∃a,x = .ref a∧U0 H1 a∧ty σ H1 fun y H2=>∃aB k v,H2 a=some (.dK aB)∧y=kV k∧dc aB k=some v∧Q v (upd H2 a (.dK (O6 aB k)))
variable {o:Expr}{e:Expr}{f:Expr}{apos:Pos}{dB:Pos}{td:TE}{ty:TE}{tx:TE}
end
section
variable {κ:Type}[DecidableEq κ]
theorem Fj {aB:List (κ×V)}{k:κ}(h:dc aB k=none):¬k∈aB.map (·.1):=by
 intro m
 obtain⟨p,hp,e⟩:=List.mem_map.mp m
 have q:(aB.any fun kv=>decide (kv.1=k))=true:=any_eq_true.mpr ⟨p,hp,decide_eq_true e⟩
 rw[iF,h] at q
 exact absurd q (by simp)
theorem AR:∀{l:List κ}{k:κ},l.Nodup→¬k∈l→(l++[k]).Nodup
 | [],k,_,_=>by simp
 | a::r,k,h,hk=>by
  obtain⟨h1,h2⟩:=List.nodup_cons.mp h
  show (a::(r++[k])).Nodup
  refine List.nodup_cons.mpr ⟨fun m=>?_,AR h2 fun m=>hk (List.mem_cons.mpr (Or.inr m))⟩
  rcases mem_append.mp m with q|q
  ·exact h1 q
  ·exact hk (List.mem_cons.mpr (Or.inl (mem_singleton.mp q).symm))
theorem IQ {aB:List (κ×V)}{k:κ}(v:V) (hn:(aB.map (·.1)).Nodup) (h:dc aB k=none):((putK aB k v).map (·.1)).Nodup:=by
 rw[EH v h,List.map_append]
 exact AR hn (Fj h)
end
def Vq (P:Program) (w:World) (a:Addr) (aB:List (Key×V)) (o:Obj):Heap→Prop:=fun h=>h.get? a=some o∧aB.length≤sizeLine∧(a == sysModules)=false∧∃vs,KV aB vs∧h.DictOf (df P w) a vs
def Py (P:Program) (w:World) (a:Addr) (aB:List (Key×V)) (o:Obj):HO:=.ext (Vq P w a aB o)
section
variable {X:Cx}{π:List (Addr×Obj)}{σ:St}{H:Hp}{s:Shared}{a:Addr}{aB:List (Key×V)}
def ItD (P:Program) (w:World) (a:Addr) (aB:List (Key×V)) (o:Obj):It :=
 ⟨fun i H=>H a=some (Py P w a aB o)∧i<aB.length,fun i H x H'=>H'=H∧∃kv,aB[i]?=some kv∧x=kV kv.1,fun i H=>H a=some (Py P w a aB o)∧i=aB.length⟩
variable {tg:Expr}
def iDct (P:Program) (w:World) (tl:TE):TI:=fun σ H R=>tl σ H fun x H1=>∃a aB,x = .ref a∧H1 a=some (.dK aB)∧∀o,R (ItD P w a aB o) (upd H1 a (Py P w a aB o))
def tThaw (P:Program) (w:World) (t:TE):TE:=fun σ H Q=>t σ H fun v H1=>∃a aB o,H1 a=some (Py P w a aB o)∧Q v (upd H1 a (.dK aB))
def rIxDE (P:Program) (w:World):V→V→Hp→VK→Prop:=fun x y H Q=>∃(a:Addr) (aB:List (Key×V)) (o:Obj) (k:Key) (v:V),x = .ref a∧y=kV k∧H a=some (Py P w a aB o)∧dc aB k=some v∧Q v H
def rClrD:V→List V→Hp→VK→Prop:=fun x vs H Q=>∃a aB,x = .ref a∧vs=[]∧H a=some (.dK aB)∧Q .cH (upd H a (.dK []))
end
end L2
namespace TC
open PySem L2
theorem wY {m:Nat}(hm:m≤6) {xs:List Int}(hl:xs.length=2^m) (h:cg xs) {r:Rw}(hr:r.ok m):cg (lay r xs):=by
 refine Classical.byContradiction fun z=>?_
 have h1:=i0 h
 rw[←mL hm hl hr,wC z] at h1
 omega
theorem Fl (xs:List Int):(xs.map ((-1:Int) * ·)).map ((-1:Int) * ·)=xs:=by
 rw[List.map_map]
 conv=>rhs;rw[←List.map_id xs]
 exact map_congr_left fun n _=>by show (-1:Int)*((-1)*n)=n;omega
theorem wZ {m:Nat}{ys:List Int}(hl:ys.length=2^m) {a t:Rw}(ha:a.ok m) (ht:t.ok m) (h:sy a t=true):lay a (lay t ys)=(lay t (lay a ys)).map ((-1) * ·):=by
 rw[←kQ ha hl,EU ha.s ht.s h,ES,kQ ht hl]
theorem sQ {m:Nat}(hm:m≤6) {L:List Rw}(c:Cm m L) (h:Rd L):∀i,i≤L.length→∃ys:List Int,ys.length=2^m∧cg ys∧∀j,j<i→lay (ra L j) ys=ys
 | 0,_=>⟨st m,BR m,HM m,fun j hj=>absurd hj (Nat.not_lt_zero j)⟩
 | i+1,hi=>by
  obtain⟨ys,hl,h0,hk⟩:=sQ hm c h i (by omega)
  have F:=L6 hm c h
  have mem:∀j,j<L.length→ra L j∈L:=fun j hj=>mem_of_getElem? (dS hj)
  have ok:=c.ok _ (mem i (by omega))
  have ev:=c.ev _ (mem i (by omega))
  by_cases hs:cg (kS 1 ys (lay (ra L i) ys))
  ·refine⟨kS 1 ys (lay (ra L i) ys),by rw[aX,hl],hs,fun j hj=>?_⟩
   rcases Nat.lt_or_ge j i with z|z
   ·exact p6 hl (c.ok _ (mem j (by omega))) ok (hk j z) (c.ag _ (mem j (by omega)) _ (mem i (by omega)))
   ·rw[show j=i by omega]
    have:=wA (k:=1) (.inl rfl) hl ok ev
    rw[map_one] at this
    exact this
  ·have Ms:=BS (k:=1) (.inl rfl) hs
   have Ms:lay (ra L i) ys=ys.map ((-1) * ·):=Ms
   have hd:ra (L.map C0) i=C0 (ra L i):=cf (by rw[getElem?_map,dS (by omega)];rfl)
   have dk:(C0 (ra L i)).ok m:=L1 ok (h.n _ (mem i (by omega)))
   have sd:∀j,j<L.length→sy (ra L j) (C0 (ra L i))=decide (j=i):=fun j hj=>by rw[←hd];exact F.d j i hj (by omega)
   refine⟨lay (C0 (ra L i)) ys,by rw[ax,hl],wY hm hl h0 dk,fun j hj=>?_⟩
   rcases Nat.lt_or_ge j i with z|z
   ·have:=sd j (by omega)
    rw[decide_eq_false (by omega)] at this
    rw[p5 hl (c.ok _ (mem j (by omega))) dk this,hk j z]
   ·rw[show j=i by omega]
    have:=sd i (by omega)
    rw[decide_eq_true rfl] at this
    rw[wZ hl ok dk this,Ms,Et,Fl]
theorem w6 {m:Nat}(hm:m≤6) {rs ds:List Rw}(F:Fr m rs ds):∃ys:List Int,ys.length=2^m∧cg ys∧∀r∈rs,lay r ys=ys:=by
 obtain⟨L,G⟩:=Pg hm F
 obtain⟨ys,hl,h0,hk⟩:=sQ hm G.c G.r L.length (Nat.le_refl _)
 refine⟨ys,hl,h0,fun r hr=>Sn.lay G.c hl (fun t ht=>?_) (G.to r hr)⟩
 obtain⟨j,hj,e⟩:=List.mem_iff_getElem.mp ht
 have:ra L j=t:=cf (by rw[getElem?_eq_getElem hj,e])
 rw[←this]
 exact hk j hj
def lu (rs:List Rw) (xs:List Int):List Int:=rs.foldl (fun v r=>kS 1 v (lay r v)) xs
theorem IS (xs:List Int):lu [] xs=xs:=rfl
theorem AS (rs:List Rw) (r:Rw) (xs:List Int):lu (rs++[r]) xs=kS 1 (lu rs xs) (lay r (lu rs xs)):=by unfold lu;rw[List.foldl_append];rfl
theorem i4:∀(rs:List Rw) (xs:List Int),(lu rs xs).length=xs.length
 | [],_=>rfl
 | r::rs,xs=>by
  show (lu rs (kS 1 xs (lay r xs))).length=_
  rw[i4 rs,aX]
theorem w9 {m:Nat}{rs:List Rw}(c:Cm m rs) {xs:List Int}(hl:xs.length=2^m):∀i,i≤rs.length→∀j,j<i→lay (ra rs j) (lu (rs.take i) xs)=lu (rs.take i) xs
 | 0,_,j,hj=>absurd hj (Nat.not_lt_zero j)
 | i+1,hi,j,hj=>by
  have mem:∀j,j<rs.length→ra rs j∈rs:=fun j hj=>mem_of_getElem? (dS hj)
  have e:rs.take (i+1)=rs.take i++[ra rs i]:=by rw[take_add_one,dS (by omega)];rfl
  have lq:(lu (rs.take i) xs).length=2^m:=by rw[i4,hl]
  rw[e,AS]
  rcases Nat.lt_or_ge j i with z|z
  ·exact p6 lq (c.ok _ (mem j (by omega))) (c.ok _ (mem i (by omega))) (w9 c hl i (by omega) j z) (c.ag _ (mem j (by omega)) _ (mem i (by omega)))
  ·rw[show j=i by omega]
   have:=wA (k:=1) (.inl rfl) lq (c.ok _ (mem i (by omega))) (c.ev _ (mem i (by omega)))
   rw[map_one] at this
   exact this
theorem Fm {m:Nat}{rs:List Rw}(c:Cm m rs) {xs:List Int}(hl:xs.length=2^m):∀r∈rs,lay r (lu rs xs)=lu rs xs:=fun r hr=>by
 obtain⟨j,hj,e⟩:=List.mem_iff_getElem.mp hr
 have er:ra rs j=r:=cf (by rw[getElem?_eq_getElem hj,e])
 have:=w9 c hl rs.length (Nat.le_refl _) j hj
 rw[take_length,er] at this
 exact this
theorem Fo {k:Int}{xs zs ys:List Int}(h:zs.length=xs.length):dot (kS k xs zs) ys=dot xs ys+k*dot zs ys:=by
 unfold dot
 rw[aX,h,←jR,←pQ]
 refine gG fun p hp=>?_
 rw[iZ hp,Int.add_mul,Int.mul_assoc]
theorem AU {m:Nat}(hm:m≤6) {ys:List Int}(hy:ys.length=2^m):∀{rs:List Rw},(∀r∈rs,r.ok m∧lay r ys=ys)→∀{xs:List Int},xs.length=2^m→dot (lu rs xs) ys=2^rs.length*dot xs ys
 | [],_,xs,_=>by show dot xs ys=2^0*_;omega
 | r::rs,h,xs,hl=>by
  obtain⟨ok,hk⟩:=h r mem_cons_self
  have e:dot (lay r xs) ys=dot xs ys:=by
   have:=ET hm hl (by rw[hy,hl]) ok (ys:=ys)
   rw[hk] at this
   exact this
  show dot (lu rs (kS 1 xs (lay r xs))) ys=_
  rw[AU hm hy (fun t ht=>h t (mem_cons_of_mem _ ht)) (by rw[aX,hl]),Fo (ax r xs),e,List.length_cons,Int.pow_succ,Int.one_mul,Int.mul_assoc]
  congr 1
  omega
def e1 (m p:Nat):List Int:=(List.range (2^m)).map fun i=>if i=p then 1 else 0
theorem nU (m p:Nat):(e1 m p).length=2^m:=by unfold e1;simp
theorem Fq {m p i:Nat}(h:i<2^m):cz (e1 m p) i=if i=p then 1 else 0:=by
 apply eP
 unfold e1
 rw[getElem?_map,getElem?_range h];rfl
theorem Mt {m p:Nat}(hp:p<2^m) (ys:List Int):dot (e1 m p) ys=cz ys p:=by
 unfold dot
 rw[nU,E5 hp fun i hi eY=>by rw[Fq hi,if_neg eY,Int.zero_mul],Fq hp,if_pos rfl,Int.one_mul]
theorem Fs {m:Nat}(hm:m≤6) {rs ds:List Rw}(F:Fr m rs ds):∃p,p<2^m∧cg (lu rs (e1 m p)):=by
 obtain⟨ys,hl,h0,hk⟩:=w6 hm F
 refine Classical.byContradiction fun Pz=>?_
 have z:∀p,p<2^m→cz ys p=0:=fun p hp=>by
  have hz:¬cg (lu rs (e1 m p)):=fun h=>Pz ⟨p,hp,h⟩
  have h1:=AU hm hl (rs:=rs) (fun r hr=>⟨F.c.ok r hr,hk r hr⟩) (xs:=e1 m p) (nU m p)
  rw[Mt hp] at h1
  have h2:dot (lu rs (e1 m p)) ys=0:=by
   unfold dot
   refine sM fun i hi=>?_
   have:cz (lu rs (e1 m p)) i=0:=Classical.byContradiction fun w=>hz ⟨_,mem_of_getElem? (d5 hi),w⟩
   rw[this,Int.zero_mul]
  rw[h2] at h1
  have h3:(2:Int)^rs.length≠0:=by
   have:(0:Int)<2^rs.length:=Int.pow_pos (by decide)
   omega
  rcases Int.mul_eq_zero.mp h1.symm with w|w
  ·exact absurd w h3
  ·exact w
 obtain⟨n,hn,eY⟩:=h0
 obtain⟨i,hi,e⟩:=List.mem_iff_getElem.mp hn
 have:cz ys i=n:=eP (by rw[getElem?_eq_getElem hi,e])
 exact eY (by rw[←this];exact z i (by omega))
theorem Ft {m:Nat}{rs:List Rw}(c:∀r∈rs,r.ok m) {k:Nat}:∀{xs:List Int},xs.length=2^m→Sz k xs→Sz (k+rs.length) (lu rs xs):=by
 induction rs generalizing k with
 | nil=>intro xs _ h;exact h
 | cons r rs ih =>
  intro xs hl h
  have h1:=Ew (k:=1) (.inl rfl) h (uh h hl (c r mem_cons_self)) (ax r xs)
  have:=ih (fun t ht=>c t (mem_cons_of_mem _ ht)) (k:=k+1) (xs:=kS 1 xs (lay r xs)) (by rw[aX,hl]) h1
  rw[List.length_cons,show k+(rs.length+1)=k+1+rs.length by omega]
  exact this
theorem zf {m:Nat}{xs:List Int}(hl:xs.length=2^m) {r t:Rw}(hr:r.ok m) (ht:t.ok m) (hk:lay r xs=xs):lay r (lay t xs)=(lay t xs).map (sgn (if sy r t then 1 else 0) * ·):=by
 cases h:sy r t with
 | false =>
  rw[p5 hl hr ht h,hk]
  show _=(lay t xs).map (1 * ·)
  rw[map_one]
 | true =>
  rw[wZ hl hr ht h,hk]
  rfl
theorem Fu {m:Nat}{xs:List Int}(hl:xs.length=2^m) {a b:Rw}(ha:a.ok m) (hb:b.ok m) (hx:a.x=b.x) (hz:a.z=b.z) (hk:lay b xs=xs):lay a xs=xs∨lay a xs=xs.map ((-1) * ·):=by
 have e:a=sc (a.sg*b.sg) b:=by
  obtain⟨s,x,z⟩:=a
  obtain⟨s',x',z'⟩:=b
  obtain rfl:x=x':=hx
  obtain rfl:z=z':=hz
  have h1:s=1∨s=-1:=ha.s
  have h2:s'=1∨s'=-1:=hb.s
  show (⟨s,x,z⟩:Rw)=⟨s*s'*s',x,z⟩
  rcases h1 with rfl|rfl<;>rcases h2 with rfl|rfl<;>rfl
 rw[e,ES,hk]
 have h1:a.sg=1∨a.sg=-1:=ha.s
 have h2:b.sg=1∨b.sg=-1:=hb.s
 rcases h1 with h1|h1<;>rcases h2 with h2|h2<;>rw[h1,h2]
 ·left;exact map_one xs
 ·right;rfl
 ·right;rfl
 ·left;exact map_one xs
theorem xc {m:Nat}{rs:List Rw}(c:Cm m rs) {xs:List Int}(hl:xs.length=2^m) (hk:∀r∈rs,lay r xs=xs) {u t:Rw}(hu:u.ok m) (ht:t.ok m) {n:Nat}(hx:(pm rs n).x=u.x^^^t.x) (hz:(pm rs n).z=u.z^^^t.z):lay u (lay t xs)=xs∨lay u (lay t xs)=xs.map ((-1) * ·):=by
 rw[←kQ hu hl]
 have hs:=EK rs n
 exact Fu hl (nJ hu ht) (Sn.good c hs).1 hx.symm hz.symm (Sn.lay c hl hk hs)
end TC
namespace L2
open PySem PySem.Spec PyProof.Rows
section
variable {X:Cx}{N':List Str}{x y:Str}{sc:Scope}
theorem Fv {i:Nat}{z:Str}{pz we:Pos}{iter elt:Expr}{ifs:List Expr}{px py pt pos:Pos}{kt:Nat}{wi:TI}{tt:TT}{te:TE}(hc:X.calm=true) (hN:X.N.Nodup) (Ov:X.N[i]?=some z) (hy:X.env.scope.names.lookup z=some .local)
  (S:gf X.N N' x y sc X.env.scope) (hi:PI X (.Tuple [.Name x px,.Name y py] kt pt) iter wi)
  (ht:∀C s2 H2 fp,q8 (eN X N' x y sc C s2 H2 fp) ifs tt) (he:∀C s2 H2 fp,PE (eN X N' x y sc C s2 H2 fp) elt te) (hs:∀v,foldedSetIterable iter X.env v=pure v:=by intro _;rfl)
  (Ow:swapsWith (.ListComp elt [⟨.Tuple [.Name x px,.Name y py] kt pt,iter,ifs,0⟩] sc pos) (some (.Name z pz)) we.line X.env=pure true:=by rfl) :
  PS X (.Assign [.Name z pz] (.ListComp elt [⟨.Tuple [.Name x px,.Name y py] kt pt,iter,ifs,0⟩] sc pos) we) (Bt (tS X.K wi tt te) (aP i)):=by
 intro π s σ H D I h
 have pG:closureFor sc X.env=pure (bp sc.names X.env.cells []):=iS fun y hy hk=>I.ok.has _ (S.free y hy hk)
 rw[exec_Assign_Name_used _ _ _ _ Ow]
 refine wpAny_bind (wpAny_standAt (wpAny_bind ?_))
 show wpAny _ X.A (do let _ ←comprehension (.ListComp elt [⟨.Tuple [.Name x px,.Name y py] kt pt,iter,ifs,0⟩] sc pos) sc X.env _ (newList []) false (eval iter X.env) (some (assign (.Name z pz) X.env))) _ _ s
 refine wpAny_bind (wpAny_mono (wpAny_comprehension_free (use:=some (assign (.Name z pz) X.env)) (Q:=fun _ s'=>SP X π D .next s') rfl hs pG S.kind S.names
  (bL (hi π s σ H _ I h) fun v s1 h1=>bL h1 fun Nf s2 h2=>?_)) (fun _ s' hq=>wpAny_pure (wpAny_pure hq)) fun _ _ e=>e)
 obtain⟨it,fp,tn,J,H2,e,I2,T,vU,f2,W,w0,turn⟩:=h2
 subst e
 refine pM (RR:=fun acc C=>compPost (model X.prog X.w) X.A X.xe (some (assign (.Name z pz) X.env)) (fun _ s'=>SP X π D .next s') acc C) hc hN S ht he I2 T vU f2 W w0 turn fun Da C s' H' I' fC hn q=>?_
 obtain⟨m,hn⟩:=hn
 show wpAny _ X.A (assign (.Name z pz) X.env (.ref Da)) _ _ _
 refine wpAny_assign_Name (nr I' hN Ov (Or.inl hy) (v:=.ref Da) rfl (fun KS TU ⟨a,TV,ha⟩=>?_) (Or.inr hy))
 have TX:C≠a:=by
  rintro rfl
  rcases ha with z|z
  ·exact fC.2.1 z
  ·exact fC.2.2.2.2.1 _ _ z rfl
 refine⟨m,hn.sameBut TV TX,fun h' DR=>⟨_,H',?_,q⟩⟩
 exact TU.turned (t':=KS.toks) (fun b o hb e=>(DR.2 b hb).trans e) fC.1 fC.2.1 fC.2.2.2.1 fC.2.2.2.2.1 fC.2.2.2.2.2
theorem B9 (K:Frag) {i:Nat}{z:Str}{pz we:Pos}{iter elt:Expr}{ifs:List Expr}{px py pt pos:Pos}{kt:Nat}{wi:TI}{tt:TT}{te:TE}(hc:X.calm=true) (hN:X.N.Nodup) (Ov:X.N[i]?=some z) (hy:X.env.scope.names.lookup z=some .local)
  (S:gf X.N N' x y sc X.env.scope) (hi:PI X (.Tuple [.Name x px,.Name y py] kt pt) iter wi)
  (ht:∀C s2 H2 fp,q8 (eN X N' x y sc C s2 H2 fp) ifs tt) (he:∀C s2 H2 fp,PE (eN X N' x y sc C s2 H2 fp) elt te) (hs:∀v,foldedSetIterable iter X.env v=pure v:=by intro _;rfl) (hK:X.K=K:=by rfl)
  (Ow:swapsWith (.ListComp elt [⟨.Tuple [.Name x px,.Name y py] kt pt,iter,ifs,0⟩] sc pos) (some (.Name z pz)) we.line X.env=pure true:=by rfl) :
  PS X (.Assign [.Name z pz] (.ListComp elt [⟨.Tuple [.Name x px,.Name y py] kt pt,iter,ifs,0⟩] sc pos) we) (Bt (tS K wi tt te) (aP i)):=hK▸Fv hc hN Ov hy S hi ht he hs Ow
theorem zg (K:Frag) (hc:X.calm=true:=by rfl) (hK:X.K=K:=by rfl):gS X (.builtin "max") (fun xs H Q=>∃p ns,xs=[.ref p]∧bP K H p (zV ns)∧0<ns.length∧∀M,M∈ns→(∀a,a∈ns→a≤M)→Q (.int M) H):=by
 subst hK
 intro π s σ H xs us Q I r h
 obtain⟨p,ns,rfl,hq,eY,q⟩:=h
 obtain⟨u,rfl,rx⟩:=vals1 r
 cases rx
 obtain⟨its,r',pl,hz⟩:=I.list hq
 have hi:=pL r'
 obtain⟨xs,e⟩:=(hi.allInts).items
 have hl:=pl.isList
 have hn:numsOf its=ns:=hi.numsOf
 rw[show its=its.toArray.toList from rfl,e,nums_intItems] at hn
 rw[e] at hl
 have hsz:0<xs.size:=by
  have:(xs.toList.map (·.1)).length=ns.length:=by rw[hn]
  rw[length_map,Array.length_toList] at this
  omega
 refine max_intList (I.ok.hd hc) hl hsz fun v h' tk hv hk=>?_
 obtain⟨t,rfl⟩:=intItems_at hv
 obtain⟨h1,h2⟩:=argBest_gt (numAt xs) (xs.size-1)
 refine⟨.int _,H,I.kept (t':=tk) hk,⟨t,rfl⟩,q _ ?_ fun a ha=>?_⟩
 ·rw[numAt_eq,←hn];exact getD_mem (by rw[length_map,Array.length_toList];omega)
 ·rw[←hn] at ha
  obtain⟨j,hj,rfl⟩:=mem_getD ha
  rw[length_map,Array.length_toList] at hj
  rw[←numAt_eq];exact h2 j (by omega)
end
end L2
namespace Vr
open PySem L2 TC
noncomputable def top (i:Nat):Stmt:=PySem.Challenge.pw_turncoins_k65_whole_wrong_turns_mended.main.body.getD i (.Pass ⟨0,0,0,0⟩)
def qc (K:Frag):Sp:=fun vs H Q _=>∃(p:Addr) (ns:List Int),vs=[.ref p]∧bP K H p (zV ns)∧mH ns.length∧cg ns∧∀H',aq H H'→Q .cH H'
def Nx (K:Frag) (nL:Addr):Sp:=fun vs H _ E=>∃(p:Addr) (ns:List Int),vs=[.ref p]∧bP K H p (zV ns)∧(¬mH ns.length∨¬cg ns)∧∀H',aq H H'→E (.ref nL) none H'
def zh:Sp:=fun vs H Q _=>∃a b:Nat,vs=[.int a,.int b]∧∀H',aq H H'→Q (.int (Nat.gcd a b:Nat)) H'
def qd (K:Frag):Sp:=fun vs H Q _=>∃(p:Addr) (ns:List Int),vs=[.ref p]∧bP K H p (zV ns)∧∀H',aq H H'→Q (.int (pO ns:Nat)) H'
def sR (K:Frag):Sp:=fun vs H Q _=>∃(p:Addr) (ns:List Int),vs=[.ref p]∧bP K H p (zV ns)∧ns.length≤1000∧cg ns∧∀H',aq H H'→Q (.bl (gF ns)) H'
def xf (K:Frag):Sp:=fun vs H Q _=>∃(p:Addr) (ns:List Int),vs=[.ref p]∧bP K H p (zV ns)∧mH ns.length∧cg ns∧Small ns∧∀q H',aq H H'→H q=none→H' q=some (.lst (zV (tV ns)))→Q (.ref q) H'
theorem Fw {n:Nat}(h:mH n):n≤64∧2≤n:=by unfold mH at h;omega
theorem PB (n:Nat):Ni (.int (n:Int)) (zV [2,4,8,16,32,64])=true↔mH n:=by
 show ((2:Int) == (n:Int)||((4:Int) == (n:Int)||((8:Int) == (n:Int)||((16:Int) == (n:Int)||((32:Int) == (n:Int)||((64:Int) == (n:Int)||false))))))=true↔_
 unfold mH
 simp only[Bool.or_eq_true,beq_iff_eq,Bool.or_false]
 omega
section
variable {P:Program}{w:World}{K:Frag}{mg:Str→Option Value}{base:Heap}{aL nL:Addr}
/- check_list: 0:numbers -/
abbrev dC:Stmt:=top 11
theorem rq:aw Z03 Z03 (ae dC):=eX
theorem Fx (T:eK mg) (LN:Lu K mg aL) (D:Def K mg "check_list" dC Z03):bh P w K mg base aS 1 "check_list" Z03 (qc K):=by
 refine D.ok rq (fun vs H Q E h=>?_) (fun f aR A outer s H vs Q E hr h=>?_)
 ·obtain⟨p,ns,rfl,_⟩:=h;rfl
 obtain⟨p,ns,rfl,hS,h1,h2,k⟩:=h
 refine⟨_,(ai (bJ (aE (sk K) (bA (cW K) (by rfl) T.lF ic (aa (pv 0) ah)) (OE LN.m) rfl)
    (ao eG)
    aJ)
   (ao (bJ (iN (fY (bA (so K) (by rfl) T.JS DV (aa (pv 0) ah))))
    (ao eG)
    aJ))),?_⟩
 refine⟨_,rfl,p,_,rfl,.inl hS,aL,_,rfl,.inr (LN.sq _),rfl,Hn _,_,rfl,?_⟩
 refine bV ?_ ?_
 ·show (!Ni _ _)=false
  rw[length_map,(PB _).mpr h1];rfl
 refine⟨_,rfl,p,_,rfl,hS,DY ns,_,rfl,?_⟩
 refine bV ?_ (k H (.refl H))
 rw[Lo,(nI ns).mpr h2];rfl
/- greatest_divisor: 0:one 1:other 2:rest -/
abbrev bD:Stmt:=top 13
theorem cF:aw ["one","other","rest"] Z00 (ae bD):=eX
theorem Mu (T:eK mg) (D:Def K mg "greatest_divisor" bD Z00):bh P w K mg base aS 1 "greatest_divisor" Z00 zh:=by
 refine D.ok cF (fun vs H Q E h=>?_) (fun f aR A outer s H vs Q E hr h=>?_)
 ·obtain⟨a,b,rfl,_⟩:=h;rfl
 obtain⟨a,b,rfl,k⟩:=h
 refine⟨_,(ai (pf PassesOwn.never (aE mv (pv 1) af (aI _))
    (ai (az (i:=2) cF.nd rfl (Or.inl rfl) (ak ba (pv 0) (pv 1)))
    (ai (az (i:=0) cF.nd rfl (Or.inl rfl) (pv 1))
    (ao (az (i:=1) cF.nd rfl (Or.inl rfl) (pv 2))))))
   (ao (aD (pv 0)))),?_⟩
 refine⟨fun m σ H'=>∃(x y:Nat) (v:Option V),σ=[some (.int x),some (.int y),v]∧m=y∧Nat.gcd x y=Nat.gcd a b∧aq H H',⟨_,a,b,_,rfl,rfl,rfl,.refl H⟩,?_⟩
 rintro m σ H' ⟨x,y,v,rfl,em,hg,s'⟩
 have PD:=em.symm
 subst PD
 refine⟨_,rfl,rfl,_,rfl,?_⟩
 by_cases hy:y=0
 ·subst hy
  refine Ou rfl ?_
  refine⟨_,rfl,?_⟩
  have:=k H' s'
  rw[←hg,Nat.gcd_zero_right] at this
  exact this
 ·refine lQ ?_ ?_
  ·rw[decide_eq_false (fun z=>hy (by injection z with z;omega))];rfl
  refine⟨fun σ2 H2=>∃v,σ2=[some (.int (y:Int)),some (.int ((x%y:Nat):Int)),v]∧aq H H2,?_,?_⟩
  ·rintro σ2 H2 ⟨v2,rfl,s2⟩
   refine⟨x%y,Nat.mod_lt _ (Nat.pos_of_ne_zero hy),y,x%y,v2,rfl,rfl,?_,s2⟩
   rw[←hg,Nat.gcd_comm x y,Nat.gcd_rec y x,Nat.gcd_comm]
  ·refine⟨_,rfl,_,rfl,_,_,rfl,rfl,(by omega),?_⟩
   exact⟨_,rfl,_,rfl,_,rfl,s'⟩
/- divisor_of_all: 0:numbers 1:divisor 2:number -/
abbrev bY:Stmt:=top 14
theorem dh:aw ["numbers","divisor","number"] Z03 (ae bY):=eX
theorem zi (T:eK mg) (D:Def K mg "divisor_of_all" bY Z03) (d9:bh P w K mg base aS 1 "greatest_divisor" Z00 zh):bh P w K mg base aS 2 "divisor_of_all" Z03 (qd K):=by
 refine D.ok dh (fun vs H Q E h=>?_) (fun f aR A outer s H vs Q E hr h=>?_)
 ·obtain⟨p,ns,rfl,_⟩:=h;rfl
 obtain⟨p,ns,rfl,hS,k⟩:=h
 refine⟨_,(ai (az (i:=1) dh.nd rfl (Or.inl rfl) af)
   (ai (cy PassesOwn.never rfl (bQ K (pv 0)) (aK (i:=2) dh.nd rfl (Or.inl rfl))
    (ao (az (i:=1) dh.nd rfl (Or.inl rfl) (ay d9 hr.sub (aa (pv 1) (aa (bA Dv (by rfl) T.OG Lk (aa (pv 2) ah)) ah))))))
   (ao (aD (pv 1))))),?_⟩
 refine⟨_,rfl,p,rfl,⟨_,hS⟩,iD (K:=K) (a:=p) (xs:=zV ns) (fun i σ H'=>∃v,σ=[some (.ref p),some (.int (pO (ns.take i):Nat)),v]∧aq H H') ⟨_,rfl,.refl H⟩ (fun i σ H' _ ⟨_,_,s'⟩=>s'.seq hS) ?_ ?_⟩
 ·rintro i y σ H' hi ⟨v,rfl,s'⟩
  obtain⟨n,hn,rfl⟩:=gD hi
  refine⟨_,rfl,_,rfl,_,rfl,?_⟩
  have ea:(if n<0 then -n else n)=(n.natAbs:Int):=by split<;>omega
  refine⟨_,n.natAbs,by rw[ea];rfl,fun H2 s2=>⟨some (.int n),?_,s'.trans s2⟩⟩
  have e:pO (ns.take (i+1))=Nat.gcd (pO (ns.take i)) n.natAbs:=by
   unfold pO
   rw[take_add_one,hn]
   simp
  rw[e];rfl
 ·rintro σ H' ⟨v,rfl,s'⟩
  refine⟨_,rfl,?_⟩
  have e:ns.take (zV ns).length=ns:=by rw[length_map,take_length]
  rw[e]
  exact k H' s'
/- begins_below_nought: 0:numbers -/
abbrev aT:Stmt:=top 15
theorem eS:aw Z03 Z03 (ae aT):=eX
theorem Ca (T:eK mg) (D:Def K mg "begins_below_nought" aT Z03):bh P w K mg base aS 1 "begins_below_nought" Z03 (sR K):=by
 refine D.ok eS (fun vs H Q E h=>?_) (fun f aR A outer s H vs Q E hr h=>?_)
 ·obtain⟨p,ns,rfl,_⟩:=h;rfl
 obtain⟨p,ns,rfl,hS,hz,h0,k⟩:=h
 refine⟨_,(ao (aD (eI mw (aC (cJ K) (eJ rfl eS.nd (cs (N:=Z03) (osc:=ae aT) (by decide +kernel)) (bQ K (pv 0)) (fun _ _ _ _=>(jP (aE mv (pv 0) af (aI _)))) (fun _ _ _ _=>(pv 0))) af (fun _ _=>rfl)) af (aI _)))),?_⟩
 refine⟨_,rfl,p,rfl,⟨_,hS⟩,pI (fun x=>!decide (x=V.int 0)) (fun x=>x) hS (aH (by rw[length_map];exact hz)) ?_ ?_ ?_⟩
 ·intro i x H' Q' hi s' q
  obtain⟨n,hn,rfl⟩:=gD hi
  exact⟨_,rfl,rfl,_,rfl,q H' (.refl H')⟩
 ·intro i x H' Q' hi hc s' q
  exact⟨_,rfl,q H' (.refl H')⟩
 ·intro q H' s' hq e
  obtain⟨pre,n,post,rfl,hp,hn⟩:=ow h0
  have ef:((zV (pre++n::post)).filter fun x=>!decide (x=V.int 0)).map (fun x=>x)=V.int n::((zV post).filter fun x=>!decide (x=V.int 0)):=by
   rw[List.map_id',zV,List.map_append,List.filter_append,List.map_cons]
   have e1:(pre.map V.int).filter (fun x=>!decide (x=V.int 0))=[]:=by
    rw[List.filter_eq_nil_iff]
    intro x hx
    obtain⟨m,hm,rfl⟩:=List.mem_map.mp hx
    rw[hp m hm];simp
   rw[e1,List.nil_append,filter_cons,if_pos]
   simp[hn]
  rw[ef] at e
  refine⟨q,_,_,_,rfl,rfl,.of e,oU (j:=0) rfl,_,_,rfl,rfl,?_⟩
  have:=k H' s'
  rw[pP hp hn] at this
  exact this
/- least: 0:numbers 1:divisor -/
abbrev i5:Stmt:=top 16
theorem mQ:aw ["numbers","divisor"] Z03 (ae i5):=eX
theorem Fy (T:eK mg) (D:Def K mg "least" i5 Z03) (i6:bh P w K mg base aS 1 "check_list" Z03 (qc K)) (nV:bh P w K mg base aS 2 "divisor_of_all" Z03 (qd K))
  (jv:bh P w K mg base aS 1 "begins_below_nought" Z03 (sR K)):bh P w K mg base aS 3 "least" Z03 (xf K):=by
 refine D.ok mQ (fun vs H Q E h=>?_) (fun f aR A outer s H vs Q E hr h=>?_)
 ·obtain⟨p,ns,rfl,_⟩:=h;rfl
 obtain⟨p,ns,rfl,hS,h1,h0,sm,k⟩:=h
 have hle:=Fw h1
 refine⟨_,(ai (fH (ay i6 hr.sub (aa (pv 0) ah)))
   (ai (az (i:=1) mQ.nd rfl (Or.inr rfl) (ay nV hr.sub (aa (pv 0) ah)))
   (ai (bJ (fY (ay jv hr.sub (aa (pv 0) ah)))
    (ao (az (i:=1) mQ.nd rfl (Or.inr rfl) (lC jK (pv 1))))
    aJ)
   (ao (aD (eJ rfl mQ.nd (cs (N:=["numbers","divisor"]) (osc:=ae i5) (by decide +kernel)) (bQ K (pv 0)) (fun _ _ _ _=>b9) (fun _ _ _ _=>(ak bK (pv 0) (pv 2))))))))),?_⟩
 refine⟨_,rfl,p,ns,rfl,hS,h1,h0,fun H1 s1=>?_⟩
 refine⟨_,rfl,p,ns,rfl,s1.seq hS,fun H2 s2=>?_⟩
 have t2:=s1.trans s2
 refine⟨_,rfl,p,ns,rfl,t2.seq hS,by omega,h0,fun H3 s3=>⟨_,rfl,?_⟩⟩
 have t3:=t2.trans s3
 have fin:∀d:Int,d=tU ns→KC (DL (Dj K (Dd 0)) oN (N5 (rI wj fun i j=>.int (i.fdiv j)) (Dd 0) (Dd 2))) { nx:=fun _ H'=>Q .cH H',rt:=Q } [some (.ref p),some (.int d)] H3:=by
  rintro d rfl
  refine⟨_,rfl,p,rfl,⟨_,t3.seq hS⟩,nD (fun x=>match x with | .int n=>.int (n.fdiv (tU ns))|v=>v) (t3.seq hS) (aH (by rw[length_map];omega)) ?_ ?_⟩
  ·intro i x H' Q' hi s' q
   obtain⟨n,hn,rfl⟩:=gD hi
   exact⟨_,rfl,_,rfl,_,_,rfl,rfl,⟨HB h0,yI h0 sm⟩,q H' (.refl H')⟩
  ·intro q H' s' hq e
   refine k q H' (t3.trans s') (t3.free hq) ?_
   rw[e,tV,zV,zV,List.map_map,List.map_map]
   rfl
 cases hn:gF ns with
 | true =>
  refine qY ⟨_,rfl,_,rfl,?_⟩
  exact fin _ (by unfold tU;rw[hn,if_pos rfl])
 | false =>
  refine js ?_
  exact fin _ (by unfold tU;rw[hn,if_neg (by decide)])
def qe (K:Frag):Sp:=fun vs H Q _=>∃(a:Addr) (xs:List Int) (m:Nat),vs=[.ref a]∧bP K H a (zV xs)∧xs.length=2^m∧m≤6∧∀H',aq H H'→Q (.int (m:Nat)) H'
theorem bits_is:∀m:Nat,m≤6→((Builtin.Int.intBits ((2^m:Nat):Int):Nat):Int)-1=(m:Nat):=by decide +kernel
/- coins_of: 0:numbers -/
abbrev fo:Stmt:=top 12
theorem xg:aw Z03 Z03 (ae fo):=eX
theorem zj (T:eK mg) (D:Def K mg "coins_of" fo Z03):bh P w K mg base aS 1 "coins_of" Z03 (qe K):=by
 refine D.ok xg (fun vs H Q E h=>?_) (fun f aR A outer s H vs Q E hr h=>?_)
 ·obtain⟨a,xs,m,rfl,_⟩:=h;rfl
 obtain⟨a,xs,m,rfl,hS,hl,hm,k⟩:=h
 refine⟨_,(ao (aD (ak dQ (DF PySem.F.plainAttrs_int PySem.F.slot_int_bit_length PySem.F.type_int_bit_length lE (bA (cW K) (by rfl) T.lF ic (aa (pv 0) ah))) af))),?_⟩
 refine⟨_,rfl,a,_,rfl,.inl hS,rfl,_,rfl,rfl,_,_,rfl,rfl,?_⟩
 have:=k H (.refl H)
 rw[←bits_is m hm,←hl,←length_map (f:=V.int)] at this
 exact this
def iI:Sp:=fun vs H Q _=>∃n:Nat,vs=[.int n]∧n<64∧∀H',aq H H'→Q (.int (pc n:Nat)) H'
def nW:Sp:=fun vs H Q _=>∃(n:Int) (k:Nat) (b:Bool),vs=[.int n,.int k]∧(k%2=if b then 1 else 0)∧∀H',aq H H'→Q (.int (chg n b)) H'
/- count_bits: 0:bits 1:many -/
abbrev dD:Stmt:=top 18
theorem fK:aw ["bits","many"] ["bits"] (ae dD):=eX
theorem Fz (T:eK mg) (D:Def K mg "count_bits" dD ["bits"]):bh P w K mg base aS 1 "count_bits" ["bits"] iI:=by
 refine D.ok fK (fun vs H Q E h=>?_) (fun f aR A outer s H vs Q E hr h=>?_)
 ·obtain⟨n,rfl,_⟩:=h;rfl
 obtain⟨n,rfl,hn,k⟩:=h
 refine⟨_,(ai (az (i:=1) fK.nd rfl (Or.inl rfl) af)
   (ai (pf PassesOwn.never (aE vV (pv 0) af (aI _))
    (ai (az (i:=1) fK.nd rfl (Or.inl rfl) (ak bS (pv 1) (ak cj (pv 0) af)))
    (ao (az (i:=0) fK.nd rfl (Or.inl rfl) (ak jJ (pv 0) af)))))
   (ao (aD (pv 1))))),?_⟩
 refine⟨fun m σ H'=>∃(j b y:Nat),σ=[some (.int b),some (.int y)]∧m=b∧b<2^j∧y+Np j b=pc n∧aq H H',⟨_,6,n,0,rfl,rfl,hn,Nat.zero_add _,.refl H⟩,?_⟩
 rintro m σ H' ⟨j,b,y,rfl,em,hb,hy,s'⟩
 have PD:=em.symm
 subst PD
 refine⟨_,rfl,_,_,rfl,rfl,_,rfl,?_⟩
 by_cases h0:b=0
 ·subst h0
  refine mF (by decide) ?_
  refine⟨_,rfl,?_⟩
  have:=k H' s'
  rw[wq,Nat.add_zero] at hy
  rw[←hy] at this
  exact this
 ·refine q9 (by omega) ?_
  refine⟨fun σ2 H2=>σ2=[some (.int ((b/2:Nat):Int)),some (.int ((y+b%2:Nat):Int))]∧aq H H2,?_,?_⟩
  ·rintro σ2 H2 ⟨rfl,s2⟩
   cases j with
   | zero=>exact absurd hb (by rw[Nat.pow_zero];omega)
   | succ j =>
    refine⟨b/2,Nat.div_lt_self (by omega) (by decide),j,b/2,y+b%2,rfl,rfl,?_,?_,s2⟩
    ·rw[Nat.pow_succ] at hb;omega
    ·rw[Np] at hy;omega
  ·refine⟨_,rfl,_,rfl,_,_,rfl,rfl,_,_,rfl,rfl,?_⟩
   refine⟨_,rfl,_,_,rfl,rfl,(by show (0:Int)≤1;decide),?_⟩
   refine⟨?_,s'⟩
   show [some (V.int ((b:Int)/2^(1:Int).toNat)),some (V.int ((y:Int)+Builtin.bitAnd (b:Int) ((1:Nat):Int)))]=_
   rw[nF,Uy]
   have e:(b:Int)/2^(1:Int).toNat=((b/2:Nat):Int):=by
    show (b:Int)/2=_
    omega
   rw[e,Int.natCast_add]
/- with_sign_changed: 0:number 1:often -/
abbrev bw:Stmt:=top 19
theorem jV:aw Z22 Z22 (ae bw):=eX
theorem Cb (T:eK mg) (D:Def K mg "with_sign_changed" bw Z22):bh P w K mg base aS 1 "with_sign_changed" Z22 nW:=by
 refine D.ok jV (fun vs H Q E h=>?_) (fun f aR A outer s H vs Q E hr h=>?_)
 ·obtain⟨n,j,b,rfl,_⟩:=h;rfl
 obtain⟨n,j,b,rfl,hb,k⟩:=h
 refine⟨_,(ao (aD (jF (aE e7 (ak ba (pv 1) af) af (aI _)) (lC jK (pv 0)) (pv 0)))),?_⟩
 refine⟨_,rfl,_,_,rfl,rfl,(by show (0:Int)<_;decide),rfl,_,rfl,?_⟩
 have:=k H (.refl H)
 have e:(j:Int)%2=((j%2:Nat):Int):=by omega
 cases b with
 | true =>
  refine lQ ?_ ⟨_,rfl,_,rfl,this⟩
  show decide (V.int ((j:Int)%2)=V.int 1)=true
  rw[e,hb];exact decide_eq_true rfl
 | false =>
  refine bV ?_ ⟨_,rfl,this⟩
  show decide (V.int ((j:Int)%2)=V.int 1)=false
  rw[e,hb];exact decide_eq_false (fun z=>by injection z with z;exact absurd z (by decide))
theorem bM {s:Int}(h:one s):s.natAbs<2^4000:=by rcases h with rfl|rfl<;>exact big (by decide) (by decide)
theorem d3 {a b:Nat}(h:a<64):a&&&b<64:=Nat.lt_of_le_of_lt Nat.and_le_left h
def AV (K:Frag):Sp:=fun vs H Q _=>∃(a g:Addr) (xs:List Int) (p:Nat) (r:Rw),vs=[.ref a,.int p,.ref g]∧bP K H a (zV xs)∧eV K H g r.vals∧p<xs.length∧p<64∧Small xs∧one r.sg∧∀H',aq H H'→Q (.int (ua xs p r)) H'
def AW (K:Frag):Sp:=fun vs H Q _=>∃(a g:Addr) (xs:List Int) (m:Nat) (r:Rw),vs=[.ref a,.ref g]∧bP K H a (zV xs)∧eV K H g r.vals∧xs.length=2^m∧m≤6∧Small xs∧r.ok m∧∀q H',aq H H'→H q=none→H' q=some (.lst (zV (lay r xs)))→Q (.ref q) H'
theorem FA {xs:List Int}(h:Small xs) {p:Nat}(hp:p<xs.length):(cz xs p).natAbs<2^4000:=by
 have:=h _ (mem_of_getElem? (d5 hp))
 exact Nat.lt_trans this (Nat.pow_lt_pow_right (by decide) (by decide))
/- number_sent: 0:numbers 1:place 2:row -/
abbrev cY:Stmt:=top 21
theorem qg:aw Z17 Z17 (ae cY):=eX
theorem IU (T:eK mg) (D:Def K mg "number_sent" cY Z17) (dU:bh P w K mg base aS 1 "with_sign_changed" Z22 nW) (bH:bh P w K mg base aS 1 "count_bits" ["bits"] iI) :
  bh P w K mg base aS 2 "number_sent" Z17 (AV K):=by
 refine D.ok qg (fun vs H Q E h=>?_) (fun f aR A outer s H vs Q E hr h=>?_)
 ·obtain⟨a,g,xs,p,r,rfl,_⟩:=h;rfl
 obtain⟨a,g,xs,p,r,rfl,hS,hG,hp,h6,PF,hs,k⟩:=h
 refine⟨_,(ao (aD (ay dU hr.sub (aa (ak aQ (aC (au K) (pv 2) af (fun _ _=>rfl)) (aC (cJ K) (pv 0) (pv 1) (fun _ _=>rfl))) (aa (ay bH hr.sub (aa (ak cj (pv 1) (aC (au K) (pv 2) af (fun _ _=>rfl))) ah)) ah))))),?_⟩
 refine⟨_,rfl,g,_,_,_,rfl,rfl,hG,rfl,_,rfl,_,rfl,a,_,_,_,rfl,rfl,hS,Am (d5 hp),_,_,rfl,rfl,⟨bM hs,FA PF hp⟩,_,rfl,_,rfl,g,_,_,_,rfl,rfl,hG,rfl,_,_,rfl,rfl,?_⟩
 refine⟨p&&&r.z,by show [V.int (Builtin.bitAnd (p:Int) (r.z:Int))]=_;rw[nF],d3 h6,fun H1 s1=>?_⟩
 exact⟨_,_,par (p&&&r.z),rfl,tW _ (d3 h6),fun H2 s2=>k H2 (s1.trans s2)⟩
/- laid: 0:numbers 1:row -/
abbrev lU:Stmt:=top 22
theorem AX:aw Z11 Z11 (ae lU):=eX
theorem IV (T:eK mg) (D:Def K mg "laid" lU Z11) (rA:bh P w K mg base aS 2 "number_sent" Z17 (AV K)):bh P w K mg base aS 3 "laid" Z11 (AW K):=by
 refine D.ok AX (fun vs H Q E h=>?_) (fun f aR A outer s H vs Q E hr h=>?_)
 ·obtain⟨a,g,xs,m,r,rfl,_⟩:=h;rfl
 obtain⟨a,g,xs,m,r,rfl,hS,hG,hl,hm,PF,eF,k⟩:=h
 refine⟨_,(ao (aD (eJ rfl AX.nd (cs (N:=Z11) (osc:=ae lU) (by decide +kernel)) (bX rfl T.cq (aa (bA (cW K) (by rfl) T.lF ic (aa (pv 0) ah)) ah)) (fun _ _ _ _=>b9) (fun _ _ _ _=>(ay rA hr.sub (aa (pv 1) (aa (ak b8 (pv 0) (aC (au K) (pv 2) af (fun _ _=>rfl))) (aa (pv 2) ah)))))))),?_⟩
 have hle:xs.length≤64:=by rw[hl];exact Nat.pow_le_pow_right (n:=2) (by decide) hm
 refine⟨_,rfl,a,_,rfl,.inl hS,(xs.length:Int),by rw[length_map],by omega,by omega,pJ (fun p=>.int (ua xs (p^^^r.x) r)) (aH (by omega)) ?_ ?_⟩
 ·intro i H' Q' hi s' q
  have uk:i<2^m:=by omega
  rw[Int.zero_add]
  refine⟨_,rfl,_,rfl,_,rfl,g,_,_,_,rfl,rfl,s'.tup hG,rfl,_,_,rfl,rfl,_,rfl,?_⟩
  have hx:=ie uk eF.x
  exact⟨a,g,xs,i^^^r.x,r,by show [V.ref a,V.int (Builtin.bitXor (i:Int) (r.x:Int)),V.ref g]=_;rw[rh],s'.seq hS,s'.tup hG,by omega,le64 hm hx,PF,eF.s,q⟩
 ·intro q H' s' hq e
  refine k q H' s' hq ?_
  rw[e,lay,zV,List.map_map];rfl
def gJ (K:Frag):Sp:=fun vs H Q _=>∃(a b:Addr) (r t:Rw) (m:Nat),vs=[.ref a,.ref b]∧eV K H a r.vals∧eV K H b t.vals∧m≤6∧r.ok m∧t.ok m∧∀q H',aq H H'→H q=none→H' q=some (.tup (bx r t).vals)→Q (.ref q) H'
/- product: 0:one 1:other 2:sign -/
abbrev gn:Stmt:=top 23
theorem qh:aw ["one","other","sign"] Z00 (ae gn):=eX
theorem zk (T:eK mg) (D:Def K mg "product" gn Z00) (dU:bh P w K mg base aS 1 "with_sign_changed" Z22 nW) (bH:bh P w K mg base aS 1 "count_bits" ["bits"] iI) :
  bh P w K mg base aS 2 "product" Z00 (gJ K):=by
 refine D.ok qh (fun vs H Q E h=>?_) (fun f aR A outer s H vs Q E hr h=>?_)
 ·obtain⟨a,b,r,t,m,rfl,_⟩:=h;rfl
 obtain⟨a,b,r,t,m,rfl,hA,hB,hm,eF,ht,k⟩:=h
 refine⟨_,(ai (az (i:=2) qh.nd rfl (Or.inl rfl) (ay dU hr.sub (aa (ak aQ (aC (au K) (pv 0) af (fun _ _=>rfl)) (aC (au K) (pv 1) af (fun _ _=>rfl))) (aa (ay bH hr.sub (aa (ak cj (aC (au K) (pv 0) af (fun _ _=>rfl)) (aC (au K) (pv 1) af (fun _ _=>rfl))) ah)) ah))))
   (ao (aD (aU (aa (pv 2) (aa (ak b8 (aC (au K) (pv 0) af (fun _ _=>rfl)) (aC (au K) (pv 1) af (fun _ _=>rfl))) (aa (ak b8 (aC (au K) (pv 0) af (fun _ _=>rfl)) (aC (au K) (pv 1) af (fun _ _=>rfl))) ah))))))),?_⟩
 refine⟨_,rfl,a,_,_,_,rfl,rfl,hA,rfl,_,rfl,b,_,_,_,rfl,rfl,hB,rfl,_,_,rfl,rfl,⟨bM eF.s,bM ht.s⟩,_,rfl,a,_,_,_,rfl,rfl,hA,rfl,_,rfl,b,_,_,_,rfl,rfl,hB,rfl,_,_,rfl,rfl,?_⟩
 have h6:r.z&&&t.x<64:=d3 (le64 hm eF.z)
 refine⟨r.z&&&t.x,by show [V.int (Builtin.bitAnd (r.z:Int) (t.x:Int))]=_;rw[nF],h6,fun H1 s1=>?_⟩
 refine⟨_,_,par (r.z&&&t.x),rfl,tW _ h6,fun H2 s2=>?_⟩
 have u:=s1.trans s2
 refine⟨_,rfl,_,rfl,a,_,_,_,rfl,rfl,u.tup hA,rfl,_,rfl,b,_,_,_,rfl,rfl,u.tup hB,rfl,_,_,rfl,rfl,_,rfl,a,_,_,_,rfl,rfl,u.tup hA,rfl,_,rfl,b,_,_,_,rfl,rfl,u.tup hB,rfl,_,_,rfl,rfl,aH (by show 3≤1000;decide),fun q hq=>?_⟩
 refine k q _ (u.trans (aq.new hq)) (u.free hq) ?_
 rw[aj]
 show some (HO.tup [V.int (chg (r.sg*t.sg) (par (r.z&&&t.x))),V.int (Builtin.bitXor (r.x:Int) (t.x:Int)),V.int (Builtin.bitXor (r.z:Int) (t.z:Int))])=_
 rw[rh,rh];rfl
def qi (K:Frag):Sp:=fun vs H Q _=>∃(a b:Addr) (r t:Rw) (m:Nat),vs=[.ref a,.ref b]∧eV K H a r.vals∧eV K H b t.vals∧m≤6∧r.ok m∧t.ok m∧∀H',aq H H'→Q (.bl (Ar r t)) H'
theorem Mw (r t:Rw) {m:Nat}(hm:m≤6) (hr:r.ok m):decide (V.int ((((pc (r.x&&&t.z):Nat):Int)+((pc (r.z&&&t.x):Nat):Int))%2)=V.int 0)=Ar r t:=by
 have h1:=tW _ (d3 (b:=t.z) (le64 hm hr.x))
 have h2:=tW _ (d3 (b:=t.x) (le64 hm hr.z))
 rw[iQ]
 unfold Ar
 cases e1:par (r.x&&&t.z)<;>cases e2:par (r.z&&&t.x)<;>rw[e1] at h1<;>rw[e2] at h2<;>simp only[if_true,if_false,Bool.false_eq_true] at h1 h2
 ·exact beq_iff_eq.mpr (by omega)
 ·exact beq_eq_false_iff_ne.mpr (by omega)
 ·exact beq_eq_false_iff_ne.mpr (by omega)
 ·exact beq_iff_eq.mpr (by omega)
/- agree: 0:one 1:other -/
abbrev kW:Stmt:=top 24
theorem FC:aw Z00 Z00 (ae kW):=eX
theorem FD (T:eK mg) (D:Def K mg "agree" kW Z00) (bH:bh P w K mg base aS 1 "count_bits" ["bits"] iI) :
  bh P w K mg base aS 2 "agree" Z00 (qi K):=by
 refine D.ok FC (fun vs H Q E h=>?_) (fun f aR A outer s H vs Q E hr h=>?_)
 ·obtain⟨a,b,r,t,m,rfl,_⟩:=h;rfl
 obtain⟨a,b,r,t,m,rfl,hA,hB,hm,eF,ht,k⟩:=h
 refine⟨_,(ao (aD (eI e7 (ak ba (ak bS (ay bH hr.sub (aa (ak cj (aC (au K) (pv 0) af (fun _ _=>rfl)) (aC (au K) (pv 1) af (fun _ _=>rfl))) ah)) (ay bH hr.sub (aa (ak cj (aC (au K) (pv 0) af (fun _ _=>rfl)) (aC (au K) (pv 1) af (fun _ _=>rfl))) ah))) af) af (aI _)))),?_⟩
 have h6:r.x&&&t.z<64:=d3 (le64 hm eF.x)
 have h7:r.z&&&t.x<64:=d3 (le64 hm eF.z)
 refine⟨_,rfl,a,_,_,_,rfl,rfl,hA,rfl,_,rfl,b,_,_,_,rfl,rfl,hB,rfl,_,_,rfl,rfl,r.x&&&t.z,by show [V.int (Builtin.bitAnd (r.x:Int) (t.z:Int))]=_;rw[nF],h6,fun H1 s1=>?_⟩
 refine⟨_,rfl,a,_,_,_,rfl,rfl,s1.tup hA,rfl,_,rfl,b,_,_,_,rfl,rfl,s1.tup hB,rfl,_,_,rfl,rfl,r.z&&&t.x,by show [V.int (Builtin.bitAnd (r.z:Int) (t.x:Int))]=_;rw[nF],h7,fun H2 s2=>?_⟩
 refine⟨_,_,rfl,rfl,_,_,rfl,rfl,(by show (0:Int)<_;decide),rfl,?_⟩
 have:=k H2 (s1.trans s2)
 rw[←Mw r t hm eF] at this
 exact this
def uI (K:Frag):Sp:=fun vs H Q _=>∃(a:Addr) (r:Rw) (m:Nat),vs=[.ref a]∧eV K H a r.vals∧m≤6∧r.x<2^m∧r.z<2^m∧∀H',aq H H'→Q (.bl (lG r)) H'
theorem Mx:∀n:Nat,n<64→decide (V.int (((pc n:Nat):Int)%2)=V.int 0) = !par n:=by
 simp only[iQ];decide +kernel
/- is_even: 0:row -/
abbrev gr:Stmt:=top 25
theorem zm:aw Z24 Z24 (ae gr):=eX
theorem IW (T:eK mg) (D:Def K mg "is_even" gr Z24) (bH:bh P w K mg base aS 1 "count_bits" ["bits"] iI):bh P w K mg base aS 2 "is_even" Z24 (uI K):=by
 refine D.ok zm (fun vs H Q E h=>?_) (fun f aR A outer s H vs Q E hr h=>?_)
 ·obtain⟨a,r,m,rfl,_⟩:=h;rfl
 obtain⟨a,r,m,rfl,hA,hm,hx,hz,k⟩:=h
 refine⟨_,(ao (aD (eI e7 (ak ba (ay bH hr.sub (aa (ak cj (aC (au K) (pv 0) af (fun _ _=>rfl)) (aC (au K) (pv 0) af (fun _ _=>rfl))) ah)) af) af (aI _)))),?_⟩
 have h6:r.x&&&r.z<64:=d3 (le64 hm hx)
 refine⟨_,rfl,a,_,_,_,rfl,rfl,hA,rfl,_,rfl,a,_,_,_,rfl,rfl,hA,rfl,_,_,rfl,rfl,r.x&&&r.z,by show [V.int (Builtin.bitAnd (r.x:Int) (r.z:Int))]=_;rw[nF],h6,fun H1 s1=>?_⟩
 refine⟨_,_,rfl,rfl,(by show (0:Int)<_;decide),rfl,?_⟩
 have:=k H1 s1
 unfold lG at this
 rw[←Mx _ h6] at this
 exact this
def i7 (K:Frag):Sp:=fun vs H Q _=>∃(a:Addr) (r:Rw) (m:Nat),vs=[.ref a]∧eV K H a r.vals∧m≤6∧r.ok m∧∀H',aq H H'→Q (.int (pc (r.x|||r.z):Nat)) H'
theorem o7 {m a b:Nat}(hm:m≤6) (ha:a<2^m) (hb:b<2^m):a|||b<64:=le64 hm (Nat.or_lt_two_pow ha hb)
/- letters: 0:row -/
abbrev gu:Stmt:=top 26
theorem zo:aw Z24 Z24 (ae gu):=eX
theorem zp (T:eK mg) (D:Def K mg "letters" gu Z24) (bH:bh P w K mg base aS 1 "count_bits" ["bits"] iI):bh P w K mg base aS 2 "letters" Z24 (i7 K):=by
 refine D.ok zo (fun vs H Q E h=>?_) (fun f aR A outer s H vs Q E hr h=>?_)
 ·obtain⟨a,r,m,rfl,_⟩:=h;rfl
 obtain⟨a,r,m,rfl,hA,hm,eF,k⟩:=h
 refine⟨_,(ao (aD (ay bH hr.sub (aa (ak zY (aC (au K) (pv 0) af (fun _ _=>rfl)) (aC (au K) (pv 0) af (fun _ _=>rfl))) ah)))),?_⟩
 exact⟨_,rfl,a,_,_,_,rfl,rfl,hA,rfl,_,rfl,a,_,_,_,rfl,rfl,hA,rfl,_,_,rfl,rfl,r.x|||r.z,by show [V.int (Builtin.bitOr (r.x:Int) (r.z:Int))]=_;rw[Ux],o7 hm eF.x eF.z,k⟩
def uJ (K:Frag):Sp:=fun vs H Q _=>∃(a:Addr) (r:Rw) (m:Nat),vs=[.ref a,.int m]∧eV K H a r.vals∧m≤6∧r.ok m∧∀H',aq H H'→Q (.bl true) H'
/- is_row: 0:row 1:coins 2:beyond -/
abbrev iJ:Stmt:=top 20
theorem sS:aw ["row","coins","beyond"] Z13 (ae iJ):=eX
theorem IY (T:eK mg) (D:Def K mg "is_row" iJ Z13):bh P w K mg base aS 1 "is_row" Z13 (uJ K):=by
 refine D.ok sS (fun vs H Q E h=>?_) (fun f aR A outer s H vs Q E hr h=>?_)
 ·obtain⟨a,r,m,rfl,_⟩:=h;rfl
 obtain⟨a,r,m,rfl,hA,hm,eF,k⟩:=h
 refine⟨_,(ai (bJ (PW.pt (pw_and (aE mv (aC (au K) (pv 0) af (fun _ _=>rfl)) af (aI _)) (pw_and1 (aE mv (aC (au K) (pv 0) af (fun _ _=>rfl)) (lC jK af) (aI _)))))
    (ao (aD zW))
    aJ)
   (ai (az (i:=2) sS.nd rfl (Or.inl rfl) (ak cI af (pv 1)))
   (ao (aD (De (vW Ds mw af (aC (au K) (pv 0) af (fun _ _=>rfl)) (pv 2)) (yb (vW Ds mw af (aC (au K) (pv 0) af (fun _ _=>rfl)) (pv 2)))))))),?_⟩
 refine⟨_,rfl,a,_,_,_,rfl,rfl,hA,rfl,rfl,_,rfl,?_⟩
 refine ON (G:=?G) (fun rest=>?a) ?k
 case a =>
  rcases eF.s with e|e
  ·refine bV (by rw[e];decide) (js ?_)
   exact rest
  ·refine lQ (by rw[e];decide) ⟨_,rfl,a,_,_,_,rfl,rfl,hA,rfl,_,rfl,rfl,_,rfl,bV (by rw[e];decide) ?_⟩
   exact rest
 case k =>
 refine⟨_,rfl,_,_,rfl,rfl,HF hm,?_⟩
 have hx:(r.x:Int)<1*2^(m:Int).toNat:=by rw[fZ];have:=eF.x;omega
 have hz:(r.z:Int)<1*2^(m:Int).toNat:=by rw[fZ];have:=eF.z;omega
 refine⟨_,rfl,a,_,_,_,rfl,rfl,hA,rfl,_,_,rfl,rfl,_,rfl,q9 (Int.natCast_nonneg _) ?_⟩
 refine⟨_,rfl,_,_,rfl,rfl,_,rfl,q9 hx ?_⟩
 refine⟨_,rfl,a,_,_,_,rfl,rfl,hA,rfl,_,_,rfl,rfl,_,rfl,q9 (Int.natCast_nonneg _) ?_⟩
 refine⟨_,rfl,_,_,rfl,rfl,?_⟩
 have:=k H (.refl H)
 rw[←decide_eq_true hz] at this
 exact this
def o8 (K:Frag):Sp:=fun vs H Q _=>∃(p:Addr) (ns:List Int) (k:Nat),vs=[.ref p,.int k]∧bP K H p (zV ns)∧ns.length≤63∧k≤900∧∀c:Int,0≤c→∀H',aq H H'→Q (.int c) H'
def zq:Sp:=fun vs H Q _=>∃n:Nat,vs=[.int n]∧n<64∧∀H',aq H H'→Q (.int (if par n then 1 else 0)) H'
theorem Mz:(10:Int)^(64:Int).toNat=10000000000000000000000000000000000000000000000000000000000000000:=by decide
theorem FE:∀n:Nat,n<64→n≠0→par (n&&&(n-1)) = !par n∧n&&&(n-1)<n:=by decide +kernel
/- _law_number: 0:_law_script 1:_law_k 2:_law_cell 3:_law_number_here -/
abbrev dE:Stmt:=top 55
theorem ij:aw ["_law_script","_law_k","_law_cell","_law_number_here"] Z04 (ae dE):=eX
theorem MA (T:eK mg) (D:Def K mg "_law_number" dE Z04):bh P w K mg base aS 1 "_law_number" Z04 (o8 K):=by
 refine D.ok ij (fun vs H Q E h=>?_) (fun f aR A outer s H vs Q E hr h=>?_)
 ·obtain⟨p,ns,k,rfl,_⟩:=h;rfl
 obtain⟨p,ns,k,rfl,hS,hl,hk,q⟩:=h
 refine⟨_,(ai (az (i:=2) ij.nd rfl (Or.inl rfl) (jF (aE mw (pv 1) (bA (cW K) (by rfl) T.lF ic (aa (pv 0) ah)) (aI _)) (aC (cJ K) (pv 0) (pv 1) (fun _ _=>rfl)) af))
   (ai (bJ (PW.pt (pw_or (aE mw (pv 2) af (aI _)) (pw_or1 (aE Aa (pv 2) (ak tm af af) (aI _)))))
    (ao (aD (ak ba (pv 2) (ak tm af af))))
    aJ)
   (ai (az (i:=3) ij.nd rfl (Or.inl rfl) (ak ba (ak bS (ak aQ (ak ba (pv 2) af) af) (ak aQ (ak bS (ak aQ (pv 1) (pv 1)) af) af)) af))
   (ao (aD (ak ba (ak bS (ak aQ (pv 3) (ak bS (ak ba (pv 3) af) af)) (ak aQ (ak bS (pv 1) af) af)) af)))))),?_⟩
 refine⟨_,rfl,_,rfl,p,_,rfl,.inl hS,_,_,rfl,rfl,_,rfl,?_⟩
 have kk:(k:Int)*k≤810000:=by
  have:=Nat.mul_le_mul hk hk
  have e:((k*k:Nat):Int)=(k:Int)*k:=Int.natCast_mul k k
  omega
 have kk0:0≤(k:Int)*k:=Int.mul_nonneg (by omega) (by omega)
 refine D0 (ι:=Int) (C:=fun _=>True) (G:=?JG) (fun rest=>wc (fun d=>?ja) (fun _=>?jb)) ?jk
 case ja =>
  have c':(k:Int)<(ns.length:Int):=by simpa using d
  obtain⟨n,hn⟩:∃n,ns[k]?=some n:=⟨ns[k]'(by omega),getElem?_eq_getElem (by omega)⟩
  refine⟨_,rfl,_,rfl,p,_,_,_,rfl,rfl,hS,Am hn,?_⟩
  exact rest n trivial
 case jb=>exact rest 0 trivial
 case jk =>
 intro c _
 have PH:Q (.int (c%10^(64:Int).toNat)) H:=q _ (fc _ (by rw[Mz];decide)) H (.refl H)
 refine⟨_,rfl,_,_,rfl,rfl,_,rfl,?_⟩
 refine wc (fun d=>?_) (fun d=>?_)
 ·refine qY ?_
  exact⟨_,rfl,_,_,rfl,rfl,OQ _ (by decide) (by decide),_,_,rfl,rfl,(by show (0:Int)<10^(64:Int).toNat;rw[Mz];decide),PH⟩
 refine⟨_,rfl,_,_,rfl,rfl,OQ _ (by decide) (by decide),_,_,rfl,rfl,_,rfl,?_⟩
 refine wc (fun d=>?_) (fun d=>?_)
 ·exact⟨_,rfl,_,_,rfl,rfl,OQ _ (by decide) (by decide),_,_,rfl,rfl,(by show (0:Int)<10^(64:Int).toNat;rw[Mz];decide),PH⟩
 have a0:=fc c (m:=3037000493) (by decide)
 have a1:=gb c (m:=3037000493) (by decide)
 refine⟨_,rfl,_,_,rfl,rfl,(by show (0:Int)<_;decide),_,_,rfl,rfl,⟨big (by omega) (by omega),big (by decide) (by decide)⟩,_,rfl,_,rfl,_,_,rfl,rfl,⟨big (by omega) (by omega),big (by omega) (by omega)⟩,_,_,rfl,rfl,_,_,rfl,rfl,⟨big (by omega) (by omega),big (by decide) (by decide)⟩,_,_,rfl,rfl,_,_,rfl,rfl,(by show (0:Int)<_;decide),?_⟩
 dsimp only [aP]
 have n0:=fc (c%3037000493*2654435761+((k:Int)*k+3)*104395301) (m:=3037000493) (by decide)
 have n1:=gb (c%3037000493*2654435761+((k:Int)*k+3)*104395301) (m:=3037000493) (by decide)
 generalize (c%3037000493*2654435761+((k:Int)*k+3)*104395301)%3037000493=n at n0 n1 ⊢
 have b0:=fc n (m:=65521) (by decide)
 have b1:=gb n (m:=65521) (by decide)
 refine⟨_,rfl,_,rfl,_,_,rfl,rfl,(by show (0:Int)<_;decide),_,_,rfl,rfl,_,_,rfl,rfl,⟨big (by omega) (by omega),big (by omega) (by omega)⟩,_,rfl,_,_,rfl,rfl,_,_,rfl,rfl,⟨big (by omega) (by omega),big (by decide) (by decide)⟩,_,_,rfl,rfl,_,_,rfl,rfl,(by show (0:Int)<_;decide),?_⟩
 exact q _ (fc _ (by decide)) H (.refl H)
/- _law_odd: 0:_law_number_here 1:_law_found -/
abbrev gv:Stmt:=top 56
theorem i8:aw ["_law_number_here","_law_found"] Z09 (ae gv):=eX
theorem MB (T:eK mg) (D:Def K mg "_law_odd" gv Z09):bh P w K mg base aS 1 "_law_odd" Z09 zq:=by
 refine D.ok i8 (fun vs H Q E h=>?_) (fun f aR A outer s H vs Q E hr h=>?_)
 ·obtain⟨n,rfl,_⟩:=h;rfl
 obtain⟨n,rfl,hn,k⟩:=h
 refine⟨_,(ai (az (i:=1) i8.nd rfl (Or.inl rfl) af)
   (ai (pf PassesOwn.never (aE vV (pv 0) af (aI _))
    (ai (az (i:=1) i8.nd rfl (Or.inl rfl) (ak dQ af (pv 1)))
    (ao (az (i:=0) i8.nd rfl (Or.inl rfl) (ak cj (pv 0) (ak dQ (pv 0) af))))))
   (ao (aD (pv 1))))),?_⟩
 refine⟨fun m σ H'=>∃(b:Nat) (y:Bool),σ=[some (.int b),some (.int (if y=true then 1 else 0))]∧m=b∧b<64∧(y ^^ par b)=par n∧aq H H',⟨_,n,false,rfl,rfl,hn,Bool.false_xor _,.refl H⟩,?_⟩
 rintro m σ H' ⟨b,y,rfl,em,hb,hy,s'⟩
 have PD:=em.symm
 subst PD
 refine⟨_,rfl,_,_,rfl,rfl,_,rfl,?_⟩
 by_cases h0:b=0
 ·subst h0
  refine mF (by decide) ?_
  refine⟨_,rfl,?_⟩
  have:=k H' s'
  rw[pR,Bool.xor_false] at hy
  rw[←hy] at this
  exact this
 ·refine q9 (by omega) ?_
  obtain⟨p1,p2⟩:=FE b hb h0
  refine⟨fun σ2 H2=>σ2=[some (.int ((b&&&(b-1):Nat):Int)),some (.int (if (!y)=true then 1 else 0))]∧aq H H2,?_,?_⟩
  ·rintro σ2 H2 ⟨rfl,s2⟩
   refine⟨b&&&(b-1),p2,b&&&(b-1),!y,rfl,rfl,by omega,?_,s2⟩
   rw[p1,←hy];cases y<;>cases par b<;>rfl
  ·refine⟨_,rfl,_,_,rfl,rfl,?_⟩
   refine⟨_,rfl,_,rfl,_,_,rfl,rfl,_,_,rfl,rfl,?_⟩
   refine⟨?_,s'⟩
   show [some (V.int (Builtin.bitAnd (b:Int) ((b:Int)-1))),some (V.int (1-if y=true then 1 else 0))]=_
   have e:(b:Int)-1=((b-1:Nat):Int):=by omega
   rw[e,nF]
   cases y<;>rfl
/- _law_times: 0:_law_one_here 1:_law_other 2:_law_sign -/
abbrev eC:Stmt:=top 60
theorem mR:aw ["_law_one_here","_law_other","_law_sign"] Z16 (ae eC):=eX
theorem Cc (T:eK mg) (D:Def K mg "_law_times" eC Z16) (nX:bh P w K mg base aS 1 "_law_odd" Z09 zq):bh P w K mg base aS 2 "_law_times" Z16 (gJ K):=by
 refine D.ok mR (fun vs H Q E h=>?_) (fun f aR A outer s H vs Q E hr h=>?_)
 ·obtain⟨a,b,r,t,m,rfl,_⟩:=h;rfl
 obtain⟨a,b,r,t,m,rfl,hA,hB,hm,h1,h2,k⟩:=h
 refine⟨_,(ai (az (i:=2) mR.nd rfl (Or.inl rfl) (ak aQ (ak aQ (aC (au K) (pv 0) af (fun _ _=>rfl)) (aC (au K) (pv 1) af (fun _ _=>rfl))) (ak dQ af (ak aQ af (ay nX hr.sub (aa (ak cj (aC (au K) (pv 0) af (fun _ _=>rfl)) (aC (au K) (pv 1) af (fun _ _=>rfl))) ah))))))
   (ao (aD (aU (aa (pv 2) (aa (ak b8 (aC (au K) (pv 0) af (fun _ _=>rfl)) (aC (au K) (pv 1) af (fun _ _=>rfl))) (aa (ak b8 (aC (au K) (pv 0) af (fun _ _=>rfl)) (aC (au K) (pv 1) af (fun _ _=>rfl))) ah))))))),?_⟩
 have h6:r.z&&&t.x<64:=d3 (le64 hm h1.z)
 refine⟨_,rfl,a,_,_,_,rfl,rfl,hA,rfl,_,rfl,b,_,_,_,rfl,rfl,hB,rfl,_,_,rfl,rfl,⟨bM h1.s,bM h2.s⟩,?_⟩
 refine⟨_,rfl,a,_,_,_,rfl,rfl,hA,rfl,_,rfl,b,_,_,_,rfl,rfl,hB,rfl,_,_,rfl,rfl,r.z&&&t.x,by show [V.int (Builtin.bitAnd (r.z:Int) (t.x:Int))]=_;rw[nF],h6,fun H1 s1=>?_⟩
 have eo:∀b:Bool,(2:Int)*(if b=true then 1 else 0)=if b=true then 2 else 0:=fun b=>by cases b<;>rfl
 have ob:∀b:Bool,one (1-2*(if b=true then 1 else 0)):=fun b=>by cases b<;>simp[one]
 refine⟨_,_,rfl,rfl,⟨big (by decide) (by decide),by cases par (r.z&&&t.x)<;>exact big (by decide) (by decide)⟩,_,_,rfl,rfl,_,_,rfl,rfl,⟨bM (one_mul h1.s h2.s),bM (ob _)⟩,?_⟩
 refine⟨_,rfl,_,rfl,a,_,_,_,rfl,rfl,s1.tup hA,rfl,_,rfl,b,_,_,_,rfl,rfl,s1.tup hB,rfl,_,_,rfl,rfl,_,rfl,a,_,_,_,rfl,rfl,s1.tup hA,rfl,_,rfl,b,_,_,_,rfl,rfl,s1.tup hB,rfl,_,_,rfl,rfl,aH (by show 3≤1000;decide),fun g ng=>?_⟩
 refine k g _ (s1.trans (aq.new ng)) (s1.free ng) ?_
 rw[aj]
 dsimp only
 rw[rh,rh]
 have e:r.sg*t.sg*(1-2*(if par (r.z&&&t.x)=true then 1 else 0))=(bx r t).sg:=by
  show _=chg (r.sg*t.sg) (par (r.z&&&t.x))
  cases par (r.z&&&t.x)
  ·show r.sg*t.sg*1=r.sg*t.sg;omega
  ·show r.sg*t.sg*(-1)=-(r.sg*t.sg);omega
 rw[e];rfl
/- the leading column,as the program tells it -/
noncomputable def Gy (j:Nat):Int:=if j<6 then 1 else 2
def xX (j:Nat):Int:=((2^(j%6):Nat):Int)
def kc (j:Nat):List V:=[.int (Gy j),.int (xX j)]
theorem FF:∀x:Nat,x<64→∀j:Nat,j<6→bt x j=true→(∀i,i<j→bt x i=false)→Builtin.bitAnd (x:Int) (-(x:Int))=((2^j:Nat):Int):=by decide +kernel
theorem PL {r:Rw}{m:Nat}(hm:m≤6) (hr:r.ok m) (hn:nz r) (h0:r.x≠0):kc (ld r)=[.int 1,.int (Builtin.bitAnd (r.x:Int) (-(r.x:Int)))]:=by
 have L:=hn.ld
 have x64:=le64 hm hr.x
 have h6:ld r<6:=by
  refine Decidable.by_contra fun h=>h0 (oX fun i=>?_)
  rcases Nat.lt_or_ge i 6 with hi|hi
  ·have:=L.f i (by omega)
   unfold cb at this
   rw[if_pos hi] at this
   rw[this];unfold bt;rw[Nat.zero_testBit]
  ·have h1:bt r.x i=false:=Nat.testBit_lt_two_pow (Nat.lt_of_lt_of_le x64 (show 2^6≤2^i from Nat.pow_le_pow_right (by decide) hi))
   rw[h1];unfold bt;rw[Nat.zero_testBit]
 have hb:=L.b
 have hf:=L.f
 unfold cb at hb hf
 rw[if_pos h6] at hb
 unfold kc Gy xX
 rw[if_pos h6,Nat.mod_eq_of_lt h6,FF r.x x64 (ld r) h6 hb fun i hi=>by have:=hf i hi;rw[if_pos (by omega)] at this;exact this]
theorem PM {r:Rw}{m:Nat}(hm:m≤6) (hr:r.ok m) (hn:nz r) (h0:r.x=0):kc (ld r)=[.int 2,.int (Builtin.bitAnd (r.z:Int) (-(r.z:Int)))]:=by
 have L:=hn.ld
 have z64:=le64 hm hr.z
 have hb:=L.b
 have hf:=L.f
 have bR:=L.lt
 have h6:¬ld r<6:=fun h=>by
  unfold cb at hb
  rw[if_pos h,h0] at hb
  unfold bt at hb
  rw[Nat.zero_testBit] at hb;cases hb
 unfold cb at hb hf
 rw[if_neg h6] at hb
 unfold kc Gy xX
 rw[if_neg h6,show ld r%6=ld r-6 by omega,FF r.z z64 (ld r-6) (by omega) hb fun i hi=>by have:=hf (i+6) (by omega);rw[if_neg (by omega),Nat.add_sub_cancel] at this;exact this]
theorem PN:∀p:Nat,p<64→∀c:Nat,c<6→(!decide (V.int (Builtin.bitAnd (p:Int) ((2^c:Nat):Int))=V.int 0))=bt p c:=by
 simp only[iQ];decide +kernel
structure Md (Φ:Rw→Nat→Prop) (H:Hp) (m:Nat) (a:Addr) (r:Rw):Prop where
 e:∃(b:Addr) (k:Nat),H a=some (.tup [.ref b,.int (k:Int)])∧k<64∧H b=some (.tup r.vals)∧r.ok m∧Φ r k
theorem Md.same {Φ:Rw→Nat→Prop}{H H':Hp}{m:Nat}{a:Addr}{r:Rw}(h:Md Φ H m a r) (s:aq H H'):Md Φ H' m a r:=by
 obtain⟨b,k,h1,h2,h3,h4⟩:=h.e
 exact⟨b,k,s _ _ h1,h2,s _ _ h3,h4⟩
structure rB (Φ:Rw→Nat→Prop) (H:Hp) (m:Nat) (as:List Addr) (cs:List Rw):Prop where
 l:as.length=cs.length
 g:∀(i:Nat) (a:Addr),as[i]?=some a→∃r,cs[i]?=some r∧Md Φ H m a r
theorem rB.same {Φ:Rw→Nat→Prop}{H H':Hp}{m:Nat}{as:List Addr}{cs:List Rw}(h:rB Φ H m as cs) (s:aq H H'):rB Φ H' m as cs:=⟨h.l,fun i a e=>by
 obtain⟨r,h1,h2⟩:=h.g i a e
 exact⟨r,h1,h2.same s⟩⟩
theorem rB.nil {Φ:Rw→Nat→Prop}{H:Hp}{m:Nat}:rB Φ H m [] []:=⟨rfl,fun _ _ h=>nomatch h⟩
theorem rB.app {Φ:Rw→Nat→Prop}{H:Hp}{m:Nat}{as:List Addr}{cs:List Rw}(h:rB Φ H m as cs) {a:Addr}{r:Rw}(hd:Md Φ H m a r):rB Φ H m (as++[a]) (cs++[r]):=by
 refine⟨by rw[length_append,length_append,h.l];rfl,fun i x e=>?_⟩
 rcases Nat.lt_or_ge i as.length with hi|hi
 ·rw[getElem?_append_left hi] at e
  obtain⟨r,h1,h2⟩:=h.g i x e
  exact⟨r,by rw[getElem?_append_left (h.l▸hi)];exact h1,h2⟩
 ·rw[getElem?_append_right hi] at e
  rw[getElem?_append_right (h.l▸hi),←h.l]
  cases hz:i-as.length with
  | zero=>rw[hz] at e;cases e;exact⟨r,rfl,hd⟩
  | succ n=>rw[hz] at e;cases e
def AY (K:Frag):Sp:=fun vs H Q _=>∃(a:Addr) (r:Rw) (m:Nat),vs=[.ref a]∧eV K H a r.vals∧m≤6∧r.ok m∧nz r∧∀q H',aq H H'→H q=none→H' q=some (.tup (kc (ld r)))→Q (.ref q) H'
def sT (K:Frag):Sp:=fun vs H Q _=>∃(a b:Addr) (r:Rw) (j m:Nat),vs=[.ref a,.ref b]∧eV K H a r.vals∧eV K H b (kc j)∧j<12∧m≤6∧r.ok m∧∀H',aq H H'→Q (.bl (cb r j)) H'
def Se (Φ Ψ:Rw→Nat→Prop):Prop:=∀r n t k,Φ r n→Ψ t k→Φ (bx r t) (n^^^k)
def xh:Sp:=fun vs H Q _=>∃(a b:Addr) (r t:Rw) (m:Nat) (Φ Ψ:Rw→Nat→Prop),vs=[.ref a,.ref b]∧Se Φ Ψ∧Md Φ H m a r∧Md Ψ H m b t∧m≤6∧∀q H',aq H H'→Md Φ H' m q (bx r t)→Q (.ref q) H'
def qj:Sp:=fun vs H Q _=>∃(a:Addr) (r:Rw) (m:Nat) (Φ:Rw→Nat→Prop),vs=[.ref a]∧Md Φ H m a r∧m≤6∧nz r∧∀q H',aq H H'→H' q=some (.tup (kc (ld r)))→Q (.ref q) H'
def lV (K:Frag):Sp:=fun vs H Q _=>∃(a l:Addr) (as:List Addr) (r:Rw) (cs:List Rw) (m:Nat) (Φ Ψ:Rw→Nat→Prop),vs=[.ref a,.ref l]∧Se Φ Ψ∧Md Φ H m a r∧bP K H l (rV as)∧rB Ψ H m as cs∧(∀c∈cs,nz c)∧m≤6∧∀q H',aq H H'→Md Φ H' m q (ml cs r)→Q (.ref q) H'
/- leading_column: 0:row 1:part -/
abbrev bZ:Stmt:=top 30
theorem gZ:aw ["row","part"] Z24 (ae bZ):=eX
theorem IZ (T:eK mg) (Sf:∃t,mg "XS"=some (.int 1 t)) (Vs:∃t,mg "ZS"=some (.int 2 t)) (D:Def K mg "leading_column" bZ Z24):bh P w K mg base aS 1 "leading_column" Z24 (AY K):=by
 refine D.ok gZ (fun vs H Q E h=>?_) (fun f aR A outer s H vs Q E hr h=>?_)
 ·obtain⟨a,r,m,rfl,_⟩:=h;rfl
 obtain⟨a,r,m,rfl,hA,hm,eF,hn,k⟩:=h
 refine⟨_,(ai (az (i:=1) gZ.nd rfl (Or.inl rfl) (jF (aE e7 (aC (au K) (pv 0) (An Sf) (fun _ _=>rfl)) af (aI _)) (An Vs) (An Sf)))
   (ao (aD (aU (aa (pv 1) (aa (ak cj (aC (au K) (pv 0) (pv 1) (fun _ _=>rfl)) (lC jK (aC (au K) (pv 0) (pv 1) (fun _ _=>rfl)))) ah)))))),?_⟩
 refine⟨_,rfl,a,_,_,_,rfl,rfl,hA,rfl,rfl,_,rfl,?_⟩
 by_cases h0:r.x=0
 ·refine lQ (by rw[h0];rfl) ?_
  refine⟨_,rfl,_,rfl,_,rfl,a,_,_,_,rfl,rfl,hA,rfl,_,rfl,_,rfl,a,_,_,_,rfl,rfl,hA,rfl,_,rfl,_,_,rfl,rfl,aH (by show 2≤1000;decide),fun q nq=>?_⟩
  refine k q _ (aq.new nq) nq ?_
  rw[aj,PM hm eF hn h0]
 ·refine bV (decide_eq_false fun z=>h0 (by injection z with z;omega)) ?_
  refine⟨_,rfl,_,rfl,_,rfl,a,_,_,_,rfl,rfl,hA,rfl,_,rfl,_,rfl,a,_,_,_,rfl,rfl,hA,rfl,_,rfl,_,_,rfl,rfl,aH (by show 2≤1000;decide),fun q nq=>?_⟩
  refine k q _ (aq.new nq) nq ?_
  rw[aj,PL hm eF hn h0]
/- has_column: 0:row 1:column -/
abbrev dF:Stmt:=top 31
theorem rC:aw Z28 Z28 (ae dF):=eX
theorem Cd (T:eK mg) (D:Def K mg "has_column" dF Z28):bh P w K mg base aS 1 "has_column" Z28 (sT K):=by
 refine D.ok rC (fun vs H Q E h=>?_) (fun f aR A outer s H vs Q E hr h=>?_)
 ·obtain⟨a,b,r,j,m,rfl,_⟩:=h;rfl
 obtain⟨a,b,r,j,m,rfl,hA,hB,hj,hm,eF,k⟩:=h
 refine⟨_,(ao (aD (eI mv (ak cj (aC (au K) (pv 0) (aC (au K) (pv 1) af (fun _ _=>rfl)) (fun _ _=>rfl)) (aC (au K) (pv 1) af (fun _ _=>rfl))) af (aI _)))),?_⟩
 have hk:=k H (.refl H)
 by_cases h6:j<6
 ·have e:kc j=[.int 1,.int ((2^j:Nat):Int)]:=by unfold kc Gy xX;rw[if_pos h6,Nat.mod_eq_of_lt h6]
  rw[e] at hB
  unfold cb at hk
  rw[if_pos h6,←PN r.x (le64 hm eF.x) j h6] at hk
  exact⟨_,rfl,_,rfl,b,_,_,_,rfl,rfl,hB,rfl,a,_,_,_,rfl,rfl,hA,rfl,_,rfl,b,_,_,_,rfl,rfl,hB,rfl,_,_,rfl,rfl,rfl,hk⟩
 ·have e:kc j=[.int 2,.int ((2^(j-6):Nat):Int)]:=by unfold kc Gy xX;rw[if_neg h6,show j%6=j-6 by omega]
  rw[e] at hB
  unfold cb at hk
  rw[if_neg h6,←PN r.z (le64 hm eF.z) (j-6) (by omega)] at hk
  exact⟨_,rfl,_,rfl,b,_,_,_,rfl,rfl,hB,rfl,a,_,_,_,rfl,rfl,hA,rfl,_,rfl,b,_,_,_,rfl,rfl,hB,rfl,_,_,rfl,rfl,rfl,hk⟩
/- made_product: 0:one 1:other -/
abbrev cK:Stmt:=top 34
theorem oP:aw Z00 Z00 (ae cK):=eX
theorem FG (T:eK mg) (D:Def K mg "made_product" cK Z00) (nY:bh P w K mg base aS 2 "product" Z00 (gJ K)):bh P w K mg base aS 3 "made_product" Z00 xh:=by
 refine D.ok oP (fun vs H Q E h=>?_) (fun f aR A outer s H vs Q E hr h=>?_)
 ·obtain⟨a,b,r,t,m,Φ,Ψ,rfl,_⟩:=h;rfl
 obtain⟨a,b,r,t,m,Φ,Ψ,rfl,hC,hA,hB,hm,k⟩:=h
 obtain⟨a1,ka,ea,Vt,ea1,oka,fa⟩:=hA.e
 obtain⟨b1,kb,eb,MD,Vu,okb,fb⟩:=hB.e
 refine⟨_,(ao (aD (aU (aa (ay nY hr.sub (aa (aC (au K) (pv 0) af (fun _ _=>rfl)) (aa (aC (au K) (pv 1) af (fun _ _=>rfl)) ah))) (aa (ak b8 (aC (au K) (pv 0) af (fun _ _=>rfl)) (aC (au K) (pv 1) af (fun _ _=>rfl))) ah))))),?_⟩
 refine⟨_,rfl,a,_,_,_,rfl,rfl,dt ea,rfl,_,rfl,b,_,_,_,rfl,rfl,dt eb,rfl,a1,b1,r,t,m,rfl,dt ea1,dt Vu,hm,oka,okb,fun q H1 s1 nq eq=>?_⟩
 refine⟨_,rfl,a,_,_,_,rfl,rfl,dt (s1 _ _ ea),rfl,_,rfl,b,_,_,_,rfl,rfl,dt (s1 _ _ eb),rfl,_,_,rfl,rfl,aH (by show 2≤1000;decide),fun p np=>?_⟩
 refine k p _ (s1.trans (aq.new np)) ⟨q,ka^^^kb,?_,xor64 Vt MD,aq.new np _ _ eq,nJ oka okb,hC _ _ _ _ fa fb⟩
 rw[aj]
 show some (HO.tup [V.ref q,V.int (Builtin.bitXor (ka:Int) (kb:Int))])=_
 rw[rh]
/- made_leading_column: 0:made -/
abbrev aY:Stmt:=top 35
theorem i9:aw Z29 Z29 (ae aY):=eX
theorem FH (T:eK mg) (D:Def K mg "made_leading_column" aY Z29) (nZ:bh P w K mg base aS 1 "leading_column" Z24 (AY K)):bh P w K mg base aS 2 "made_leading_column" Z29 qj:=by
 refine D.ok i9 (fun vs H Q E h=>?_) (fun f aR A outer s H vs Q E hr h=>?_)
 ·obtain⟨a,r,m,Φ,rfl,_⟩:=h;rfl
 obtain⟨a,r,m,Φ,rfl,hA,hm,hn,k⟩:=h
 obtain⟨b,kk,e,_,e1,ok,_⟩:=hA.e
 refine⟨_,(ao (aD (ay nZ hr.sub (aa (aC (au K) (pv 0) af (fun _ _=>rfl)) ah)))),?_⟩
 exact⟨_,rfl,a,_,_,_,rfl,rfl,dt e,rfl,b,r,m,rfl,dt e1,hm,ok,hn,fun q H' s' _ eq=>k q H' s' eq⟩
/- cleared: 0:made 1:others 2:other -/
abbrev gw:Stmt:=top 36
theorem lW:aw ["made","others","other"] Z26 (ae gw):=eX
theorem zr (T:eK mg) (D:Def K mg "cleared" gw Z26) (uK:bh P w K mg base aS 1 "has_column" Z28 (sT K)) (de:bh P w K mg base aS 2 "made_leading_column" Z29 qj) (qk:bh P w K mg base aS 3 "made_product" Z00 xh):bh P w K mg base aS 4 "cleared" Z26 (lV K):=by
 refine D.ok lW (fun vs H Q E h=>?_) (fun f aR A outer s H vs Q E hr h=>?_)
 ·obtain⟨a,l,as,r,cs,m,Φ,Ψ,rfl,_⟩:=h;rfl
 obtain⟨a,l,as,r,cl,m,Φ,Ψ,rfl,hC,hA,hL,hM,JX,hm,k⟩:=h
 refine⟨_,(ai (cy PassesOwn.never rfl (bQ K (pv 1)) (aK (i:=2) lW.nd rfl (Or.inl rfl))
    (ao (bJ (fY (ay uK hr.sub (aa (aC (au K) (pv 0) af (fun _ _=>rfl)) (aa (ay de hr.sub (aa (pv 2) ah)) ah))))
     (ao (az (i:=0) lW.nd rfl (Or.inl rfl) (ay qk hr.sub (aa (pv 0) (aa (pv 2) ah)))))
     aJ)))
   (ao (aD (pv 0)))),?_⟩
 refine⟨_,rfl,l,rfl,⟨_,hL⟩,iD (K:=K) (a:=l) (xs:=rV as) (fun i σ H'=>∃(q:Addr) (v:Option V),σ=[some (.ref q),some (.ref l),v]∧aq H H'∧Md Φ H' m q (ml (cl.take i) r)) ⟨a,_,rfl,.refl H,by rw[List.take_zero];exact hA⟩ (fun i σ H' _ ⟨_,_,_,s',_⟩=>s'.seq hL) ?_ ?_⟩
 ·rintro i x σ H' hi ⟨q,v,rfl,s',hq⟩
  obtain⟨c,hc,rfl⟩:=dR hi
  obtain⟨t,ht,hd⟩:=hM.g i c hc
  have Sa:=JX t (mem_of_getElem? ht)
  have kJ:=hd.same s'
  obtain⟨b,kk,e,RU,e1,ok,_⟩:=hq.e
  refine⟨_,rfl,q,_,_,_,rfl,rfl,dt e,rfl,_,rfl,c,t,m,Ψ,rfl,kJ,hm,Sa,fun p H2 s2 ep=>?_⟩
  refine⟨b,p,ml (cl.take i) r,ld t,m,rfl,dt (s2 _ _ e1),dt ep,Sa.ld.lt,hm,ok,fun H3 s3=>⟨_,rfl,?_⟩⟩
  have Ja:=s2.trans s3
  have u:=s'.trans Ja
  have pB:=Ek (t:=r) ht
  unfold oA at pB
  cases hb:cb (ml (cl.take i) r) (ld t) with
  | true =>
   rw[hb,if_pos rfl] at pB
   refine qY ?_
   refine⟨_,rfl,_,rfl,q,c,ml (cl.take i) r,t,m,Φ,Ψ,rfl,hC,hq.same Ja,kJ.same Ja,hm,fun p2 H4 s4 Nw=>?_⟩
   exact⟨p2,_,rfl,u.trans s4,by rw[pB];exact Nw⟩
  | false =>
   rw[hb,if_neg (by decide)] at pB
   exact js ⟨q,_,rfl,u,by rw[pB];exact hq.same Ja⟩
 ·rintro σ H' ⟨q,v,rfl,s',hq⟩
  rw[rV,length_map,hM.l,take_length] at hq
  exact⟨_,rfl,k q H' s' hq⟩
theorem Ce {f:Rw→Nat}{L:List Rw}(h:Rd L) (hf:∀a∈L,∀b∈L,f a=f b→ld a=ld b):(L.map f).Nodup:=by
 have:L.Pairwise fun a b=>f a≠f b:=by
  refine List.Pairwise.imp_of_mem (fun {a b} ha hb Gp e=>?_) h.p
  have:=Gp.1
  rw[←hf a ha b hb e,h.on ha] at this
  cases this
 exact pairwise_map.mpr this
def FI:V→Addr
 | .ref a=>a
 | _=>0
theorem sU {ws:List V}{qs:List Addr}(h:ws.Perm (rV qs)):∃bs:List Addr,ws=rV bs∧bs.Perm qs:=by
 refine⟨ws.map FI,?_,?_⟩
 ·rw[rV,List.map_map]
  conv=>lhs;rw[←List.map_id ws]
  refine map_congr_left fun x hx=>?_
  obtain⟨a,_,rfl⟩:=List.mem_map.mp (h.mem_iff.mp hx)
  rfl
 ·have:=h.map FI
  rw[rV,List.map_map] at this
  have e:qs.map (FI ∘ V.ref)=qs:=by
   conv=>rhs;rw[←List.map_id qs]
   exact map_congr_left fun x _=>rfl
  rw[e] at this
  exact this
def Mk (rs:List Rw) (r:Rw) (n:Nat):Prop:=r=pm rs n∧n<2^rs.length
theorem Mk.clo {m:Nat}{rs:List Rw}(c:Cm m rs):Se (Mk rs) (Mk rs):=fun r n t k h1 h2=>⟨by rw[h1.1,h2.1,uv c],Nat.xor_lt_two_pow h1.2 h2.2⟩
def uL (K:Frag):Sp:=fun vs H Q _=>∃(a:Addr) (as:List Addr) (rs:List Rw) (m:Nat),vs=[.ref a]∧bP K H a (rV as)∧cX H m as rs∧Cm m rs∧m≤6∧rs.length≤64∧∀H',aq H H'→Q .cH H'
def ql (K:Frag):Sp:=fun vs H Q _=>∃(a:Addr) (as:List Addr) (rs ds:List Rw) (m:Nat),vs=[.ref a]∧bP K H a (rV as)∧cX H m as rs∧Fr m rs ds∧m≤6∧rs.length≤6∧∀q qs L H',aq H H'→H' q=some (.lst (rV qs))→rB (Mk rs) H' m qs L→Got m rs L→L.Pairwise (fun a b=>ld a<ld b)→Q (.ref q) H'
theorem rB.perm {Φ:Rw→Nat→Prop}{H:Hp}{m:Nat}:∀{as bs:List Addr},bs.Perm as→∀{cs:List Rw},rB Φ H m as cs→∃ds,ds.Perm cs∧rB Φ H m bs ds:=by
 have zt:∀{a:Addr}{as:List Addr}{cs:List Rw},rB Φ H m (a::as) cs→∃r ds,cs=r::ds∧Md Φ H m a r∧rB Φ H m as ds:=fun {a as cs} h=>by
  obtain⟨r,h1,h2⟩:=h.g 0 a rfl
  cases cs with
  | nil=>cases h1
  | cons c ds =>
   have hc:c=r:=Option.some.inj h1
   refine⟨c,ds,rfl,hc▸h2,by have:=h.l;simpa using this,fun i x e=>?_⟩
   obtain⟨r,q1,q2⟩:=h.g (i+1) x e
   exact⟨r,q1,q2⟩
 have cons:∀{a:Addr}{as:List Addr}{r:Rw}{cs:List Rw},Md Φ H m a r→rB Φ H m as cs→rB Φ H m (a::as) (r::cs):=fun {a as r cs} h1 h2=>⟨by simp[h2.l],fun i x e=>by
  cases i with
  | zero=>cases e;exact⟨r,rfl,h1⟩
  | succ i=>exact h2.g i x e⟩
 intro as bs p
 induction p with
 | nil=>intro cs h;exact⟨cs,.refl _,h⟩
 | cons x p ih =>
  intro cs h
  obtain⟨r,ds,rfl,h1,h2⟩:=zt h
  obtain⟨es,p2,h3⟩:=ih h2
  exact⟨r::es,p2.cons r,cons h1 h3⟩
 | swap x y l =>
  intro cs h
  obtain⟨r,ds,rfl,h1,h2⟩:=zt h
  obtain⟨r2,es,rfl,h3,h4⟩:=zt h2
  exact⟨r2::r::es,.swap r r2 es,cons h3 (cons h1 h4)⟩
 | trans p q OY LI =>
  intro cs h
  obtain⟨ds,p1,h1⟩:=LI h
  obtain⟨es,p2,h2⟩:=OY h1
  exact⟨es,p2.trans p1,h2⟩
theorem Got.perm {m:Nat}{rs C D:List Rw}(h:Got m rs C) (p:D.Perm C):Got m rs D :=
 ⟨h.c.sub fun r hr=>p.mem_iff.mp hr,⟨fun a ha=>h.r.n a (p.mem_iff.mp ha),(List.Perm.pairwise_iff (fun {x y}(z:RQ x y)=>⟨z.2,z.1⟩) p.symm).mp h.r.p⟩,by rw[p.length_eq,h.l],fun x hx=>Sn.of (fun y hy=>.gen (p.mem_iff.mpr hy)) (h.to x hx),fun x hx=>h.Em x (p.mem_iff.mp hx)⟩
def Ny (H:Hp):V→Int×Int
 | .ref a=>match H a with
  | some (.tup [.ref b,_])=>match H b with
   | some (.tup [_,.int x,.int z])=>(Gy (ld ⟨1,x.toNat,z.toNat⟩),xX (ld ⟨1,x.toNat,z.toNat⟩))
   | _=>(0,0)
  | _=>(0,0)
 | _=>(0,0)
theorem uM {Φ:Rw→Nat→Prop}{H:Hp}{m:Nat}{a:Addr}{r:Rw}(h:Md Φ H m a r):Ny H (.ref a)=(Gy (ld r),xX (ld r)):=by
 obtain⟨b,k,h1,h2,h3,h4⟩:=h.e
 unfold Ny
 simp only[h1,h3,Rw.vals,Int.toNat_natCast]
 rfl
def kN (j:Nat):Nat:=(Gy j).toNat*2^64+(xX j).toNat
theorem FJ:∀j:Nat,j<12→∀i:Nat,i<12→(kN i<kN j↔i<j):=by decide +kernel
theorem PQ:∀j:Nat,j<12→0≤Gy j∧0≤xX j∧xX j<2^64:=by decide +kernel
theorem Kn:∀n:Nat,n<64→n≠0→decide (V.int ((pc n:Nat):Int)=V.int 0)=false:=by
 simp only[iQ];decide +kernel
theorem PR {r:Rw}(h:nz r):r.x|||r.z≠0:=fun e=>by
 have ex:r.x=0:=Nat.le_zero.mp (e▸Nat.left_le_or)
 have ez:r.z=0:=Nat.le_zero.mp (e▸Nat.right_le_or)
 obtain⟨j,_,hb⟩:=h
 unfold cb at hb
 rw[ex,ez] at hb
 unfold bt at hb
 rw[Nat.zero_testBit,Nat.zero_testBit] at hb
 split at hb<;>cases hb
/- check_even: 0:rows 1:at 2:row -/
abbrev dG:Stmt:=top 32
theorem ik:aw ["rows","at","row"] Z18 (ae dG):=eX
theorem Jb (T:eK mg) (D:Def K mg "check_even" dG Z18) (n5:bh P w K mg base aS 2 "is_even" Z24 (uI K)):bh P w K mg base aS 3 "check_even" Z18 (uL K):=by
 refine D.ok ik (fun vs H Q E h=>?_) (fun f aR A outer s H vs Q E hr h=>?_)
 ·obtain⟨a,as,rs,m,rfl,_⟩:=h;rfl
 obtain⟨a,as,rs,m,rfl,hS,hR,hC,hm,_,k⟩:=h
 refine⟨_,(ao (cy PassesOwn.never rfl (mG K rfl T.gU (aa (pv 0) ah)) (iU K rfl (b7 (aK (i:=1) ik.nd rfl (Or.inl rfl)) (b7 (aK (i:=2) ik.nd rfl (Or.inl rfl)) iO)))
    (ao (bJ (iN (fY (ay n5 hr.sub (aa (pv 2) ah))))
     (ao eG)
     aJ)))),?_⟩
 refine⟨_,rfl,a,_,rfl,hS,pK (K:=K) (a:=a) (xs:=rV as) (fun i σ H'=>∃u v,σ=[some (.ref a),u,v]∧aq H H') ⟨_,_,rfl,.refl H⟩ (fun i σ H' _ ⟨_,_,_,s'⟩=>s'.seq hS) ?_ ?_⟩
 ·rintro i x σ H' p hi ⟨u,v,rfl,s'⟩ hp
  obtain⟨b,hb,rfl⟩:=dR hi
  obtain⟨r,n6,er,fg⟩:=hR.g i b hb
  have s2:=s'.upd (o:=.tup [.int i,.ref b]) (s'.free hp)
  refine⟨p,_,rfl,dt aj,rfl,_,_,rfl,_,_,rfl,rfl,?_⟩
  refine⟨_,rfl,b,r,m,rfl,dt (s2 _ _ er),hm,fg.x,fg.z,fun H3 s3=>⟨_,rfl,?_⟩⟩
  rw[hC.ev r (mem_of_getElem? n6)]
  exact js ⟨_,_,rfl,s2.trans s3⟩
 ·rintro σ H' ⟨u,v,rfl,s'⟩
  exact k H' s'
/- check_agreeing: 0:rows 1:at 2:row 3:before -/
abbrev b6:Stmt:=top 33
theorem di:aw ["rows","at","row","before"] Z18 (ae b6):=eX
theorem Jc (T:eK mg) (D:Def K mg "check_agreeing" b6 Z18) (uN:bh P w K mg base aS 2 "agree" Z00 (qi K)):bh P w K mg base aS 3 "check_agreeing" Z18 (uL K):=by
 refine D.ok di (fun vs H Q E h=>?_) (fun f aR A outer s H vs Q E hr h=>?_)
 ·obtain⟨a,as,rs,m,rfl,_⟩:=h;rfl
 obtain⟨a,as,rs,m,rfl,hS,hR,hC,hm,RU,k⟩:=h
 refine⟨_,(ao (cy PassesOwn.never rfl (mG K rfl T.gU (aa (pv 0) ah)) (iU K rfl (b7 (aK (i:=1) di.nd rfl (Or.inl rfl)) (b7 (aK (i:=2) di.nd rfl (Or.inl rfl)) iO)))
    (ao (cy PassesOwn.never rfl (bX rfl T.cq (aa (pv 1) ah)) (aK (i:=3) di.nd rfl (Or.inl rfl))
     (ao (bJ (iN (fY (ay uN hr.sub (aa (aC (cJ K) (pv 0) (pv 3) (fun _ _=>rfl)) (aa (pv 2) ah)))))
      (ao eG)
      aJ)))))),?_⟩
 refine⟨_,rfl,a,_,rfl,hS,pK (K:=K) (a:=a) (xs:=rV as) (fun i σ H'=>∃u v x,σ=[some (.ref a),u,v,x]∧aq H H') ⟨_,_,_,rfl,.refl H⟩ (fun i σ H' _ ⟨_,_,_,_,s'⟩=>s'.seq hS) ?_ ?_⟩
 ·rintro i x σ H' p hi ⟨u,v,x',rfl,s'⟩ hp
  obtain⟨b,hb,rfl⟩:=dR hi
  obtain⟨r,n6,er,fg⟩:=hR.g i b hb
  have Vv:i<rs.length:=(List.getElem?_eq_some_iff.mp n6).1
  have s2:=s'.upd (o:=.tup [.int i,.ref b]) (s'.free hp)
  refine⟨p,_,rfl,dt aj,rfl,_,_,rfl,_,_,rfl,rfl,?_⟩
  refine⟨_,rfl,(i:Int),rfl,by omega,by omega,ck (lo:=0) (n:=(i:Int).toNat) (fun j σ kO=>∃x,σ=[some (.ref a),some (.int i),some (.ref b),x]∧aq H kO) ⟨_,rfl,s2⟩ ?_ ?_⟩
  ·rintro j σ H2 hj ⟨x,rfl,s3⟩
   have hj':j<i:=by omega
   rw[Int.zero_add]
   obtain⟨c,t,oO,sO,ec,PU⟩:=hR.get (i:=j) (by omega)
   have Ry:yq (rV as) (j:Int)=some (.ref c):=oU (by rw[rV,getElem?_map,oO];rfl)
   refine⟨_,rfl,_,rfl,a,_,_,_,rfl,rfl,s3.seq hS,Ry,_,rfl,c,b,t,r,m,rfl,dt (s3 _ _ ec),dt (s3 _ _ er),hm,PU,fg,fun H3 s4=>⟨_,rfl,?_⟩⟩
   rw[ub,hC.ag t (mem_of_getElem? sO) r (mem_of_getElem? n6)]
   exact js ⟨_,rfl,s3.trans s4⟩
  ·rintro σ H2 ⟨x,rfl,s3⟩
   exact⟨_,_,_,rfl,s3⟩
 ·rintro σ H' ⟨u,v,x,rfl,s'⟩
  exact k H' s'
/- least_made: 0:rows 1:coming 2:at 3:row 4:made -/
abbrev cQ:Stmt:=top 38
theorem cA:aw ["rows","coming","at","row","made"] Z18 (ae cQ):=eX
theorem FK (T:eK mg) (gH:mg "sorted"=none) (D:Def K mg "least_made" cQ Z18) (uO:bh P w K mg base aS 3 "check_even" Z18 (uL K)) (n8:bh P w K mg base aS 3 "check_agreeing" Z18 (uL K)) (kX:bh P w K mg base aS 4 "cleared" Z26 (lV K)) (gx:bh P w K mg base aS 2 "letters" Z24 (i7 K)) (de:bh P w K mg base aS 2 "made_leading_column" Z29 qj):bh P w K mg base aS 5 "least_made" Z18 (ql K):=by
 refine D.ok cA (fun vs H Q E h=>?_) (fun f aR A outer s H vs Q E hr h=>?_)
 ·obtain⟨a,as,rs,ds,m,rfl,_⟩:=h;rfl
 obtain⟨a,as,rs,ds,m,rfl,hS,hR,hF,hm,h6,k⟩:=h
 refine⟨_,(ai (fH (ay uO hr.sub (aa (pv 0) ah)))
   (ai (fH (ay n8 hr.sub (aa (pv 0) ah)))
   (ai (az (i:=1) cA.nd rfl (Or.inl rfl) (gB ah))
   (ai (cy PassesOwn.never rfl (mG K rfl T.gU (aa (pv 0) ah)) (iU K rfl (b7 (aK (i:=2) cA.nd rfl (Or.inl rfl)) (b7 (aK (i:=3) cA.nd rfl (Or.inl rfl)) iO)))
    (ai (az (i:=4) cA.nd rfl (Or.inr rfl) (ay kX hr.sub (aa (aU (aa (pv 3) (aa (ak cI af (pv 2)) ah))) (aa (pv 1) ah))))
    (ai (bJ (aE e7 (ay gx hr.sub (aa (aC (au K) (pv 4) af (fun _ _=>rfl)) ah)) af (aI _))
     (ao eG)
     aJ)
    (ao (az (i:=1) cA.nd rfl (Or.inl rfl) (ak yz (eJ rfl cA.nd (cs (N:=["rows","coming","at","row","made"]) (osc:=ae cQ) (by decide +kernel)) (bQ K (pv 1)) (fun _ _ _ _=>b9) (fun _ _ _ _=>(ay kX hr.sub (aa (pv 0) (aa (gB (aa (pv 5) ah)) ah))))) (gB (aa (pv 4) ah))))))))
   (ao (aD (BW K de hr.sub gH (pv 1)))))))),?_⟩
 refine⟨_,rfl,a,as,rs,m,rfl,hS,hR,hF.c,hm,by omega,fun H1 s1=>?_⟩
 refine⟨_,rfl,a,as,rs,m,rfl,s1.seq hS,hR.same s1,hF.c,hm,by omega,fun H2 s2=>?_⟩
 have t2:=s1.trans s2
 refine⟨aH (by show 0≤1000;decide),fun e ne=>?_⟩
 have s3:=aq.new (o:=.lst []) ne
 have ee:upd H2 e (.lst []) e=some (.lst []):=aj
 have t3:=t2.trans s3
 dsimp only [aP]
 generalize upd H2 e (.lst [])=H3 at ee t3 ⊢
 have g0:Got m (rs.take 0) []:=⟨⟨fun _ h=>(nomatch h),fun _ h=>(nomatch h),fun _ h=>(nomatch h)⟩,⟨fun _ h=>(nomatch h),List.Pairwise.nil⟩,by simp,fun _ h=>by simp at h,fun _ h=>(nomatch h)⟩
 refine⟨_,rfl,a,_,rfl,t3.seq hS,pK (K:=K) (a:=a) (xs:=rV as) (fun i σ H'=>∃(q:Addr) (qs:List Addr) (C:List Rw) (v2 v3 v4:Option V),σ=[some (.ref a),some (.ref q),v2,v3,v4]∧aq H H'∧H' q=some (.lst (rV qs))∧rB (Mk rs) H' m qs C∧Got m (rs.take i) C) ⟨e,[],[],_,_,_,rfl,t3,ee,.nil,g0⟩ (fun i σ H' _ ⟨_,_,_,_,_,_,_,s',_⟩=>s'.seq hS) ?_ ?_⟩
 ·rintro i x σ H4 p hi ⟨q,qs,C,v2,v3,v4,rfl,t4,eq,hM,hG⟩ hp
  obtain⟨b,hb,rfl⟩:=dR hi
  obtain⟨r,n6,er,fg⟩:=hR.g i b hb
  have Vv:i<rs.length:=(List.getElem?_eq_some_iff.mp n6).1
  have s5:=aq.new (o:=.tup [.int i,.ref b]) hp
  have ep:upd H4 p (.tup [.int i,.ref b]) p=some (.tup [.int i,.ref b]):=aj
  have eq:=s5 _ _ eq
  have hM:=hM.same s5
  have t5:=t4.trans s5
  generalize upd H4 p (.tup [.int i,.ref b])=H5 at ep eq hM t5 ⊢
  obtain⟨JX,wz,hG'⟩:=hG.step hm hF n6
  have hCl:C.length≤6:=by rw[hG.l,length_take];omega
  refine⟨p,_,rfl,dt ep,rfl,_,_,rfl,_,_,rfl,rfl,?_⟩
  refine⟨_,rfl,_,rfl,_,_,rfl,rfl,HF (by omega),aH (by show 2≤1000;decide),fun g ng=>?_⟩
  have s6:=aq.new (o:=.tup [.ref b,.int ((1:Int)*2^(i:Int).toNat)]) ng
  have eg:upd H5 g (.tup [.ref b,.int ((1:Int)*2^(i:Int).toNat)]) g=some (.tup [.ref b,.int ((1:Int)*2^(i:Int).toNat)]):=aj
  have eq:=s6 _ _ eq
  have hM:=hM.same s6
  have t6:=t5.trans s6
  dsimp only
  generalize upd H5 g (.tup [.ref b,.int ((1:Int)*2^(i:Int).toNat)])=H6 at eg eq hM t6 ⊢
  have Vw:Md (Mk rs) H6 m g r:=⟨b,2^i,by rw[eg,fZ],show 2^i<2^6 from Nat.pow_lt_pow_right (by decide) (by omega),t6 _ _ er,fg,by rw[LY Vv,cf n6],Nat.pow_lt_pow_right (by decide) Vv⟩
  refine⟨_,rfl,g,q,qs,r,C,m,Mk rs,Mk rs,rfl,Mk.clo hF.c,Vw,.of eq,hM,hG.r.n,hm,fun q2 H7 s7 nj=>?_⟩
  have eq:=s7 _ _ eq
  have hM:=hM.same s7
  have t7:=t6.trans s7
  generalize ml C r=t at JX wz hG' nj
  obtain⟨b2,k2,e2,_,IL,_⟩:=nj.e
  refine⟨_,rfl,q2,_,_,_,rfl,rfl,dt e2,rfl,b2,t,m,rfl,dt IL,hm,wz,fun H8 s8=>⟨rfl,_,rfl,bV (Kn _ (OV (le64 hm wz.x) (le64 hm wz.z)) (PR JX)) ?_⟩⟩
  have eq:=s8 _ _ eq
  have hM:=hM.same s8
  have nj:=nj.same s8
  have t8:=t7.trans s8
  have Vx:qs.length=C.length:=hM.l
  refine⟨_,rfl,q,rfl,⟨_,.of eq⟩,gE (K:=K) (a:=q) (xs:=rV qs) (fun j ys H'=>∃cs:List Addr,ys=rV cs∧cs.length=j∧aq H8 H'∧rB (Mk rs) H' m cs ((C.take j).map fun c=>oA c t)) ⟨[],rfl,rfl,.refl H8,.nil⟩ (fun j ys H' _ ⟨cs,e,hj,s',_⟩=>⟨.of (s' _ _ eq),by rw[e,rV,length_map,hj]⟩) (aH (by rw[rV,length_map];omega)) ?_ ?_⟩
  ·rintro j x ys H9 Q' hj ⟨zu,rfl,mm,s9,se⟩ q'
   obtain⟨c,hc,rfl⟩:=dR hj
   obtain⟨u,hu,hd⟩:=hM.g j c hc
   refine⟨_,rfl,_,rfl,aH (by show 1≤1000;decide),fun l nl=>?_⟩
   have AZ:=aq.new (o:=.lst [.ref q2]) nl
   have el:upd H9 l (.lst [.ref q2]) l=some (.lst [.ref q2]):=aj
   have zv:=s9.trans AZ
   have se:=se.same AZ
   generalize upd H9 l (.lst [.ref q2])=Gz at el zv se ⊢
   refine⟨c,l,[q2],u,[t],m,Mk rs,Mk rs,rfl,Mk.clo hF.c,hd.same zv,.of el,rB.nil.app (nj.same zv),fun x hx=>by rw[mem_singleton.mp hx];exact JX,hm,fun q3 ME vK Gr=>q' _ _ ?_⟩
   refine⟨zu++[q3],by simp[rV],by simp[mm],zv.trans vK,?_⟩
   rw[take_add_one,hu,Option.toList_some,List.map_append]
   exact(se.same vK).app Gr
  ·rintro ys H9 z ⟨zu,rfl,mm,s9,se⟩ nz9
   rw[rV,length_map,Vx,take_length] at se
   have AZ:=s9.trans (aq.new (o:=.lst (rV zu)) nz9)
   have ez:upd H9 z (.lst (rV zu)) z=some (.lst (rV zu)):=aj
   have se:=se.same (aq.new (o:=.lst (rV zu)) nz9)
   generalize upd H9 z (.lst (rV zu))=Gz at AZ ez se ⊢
   refine⟨_,rfl,aH (by show 1≤1000;decide),fun l nl=>?_⟩
   have vK:=aq.new (o:=.lst [.ref q2]) nl
   have el:upd Gz l (.lst [.ref q2]) l=some (.lst [.ref q2]):=aj
   have ez:=vK _ _ ez
   have se:=se.same vK
   have oB:=AZ.trans vK
   generalize upd Gz l (.lst [.ref q2])=ME at el ez se oB ⊢
   rw[rV,length_map] at mm
   refine⟨z,l,_,_,rfl,rfl,ez,el,aH (by simp[rV];omega),fun z2 nz2=>?_⟩
   rw[show rV zu++[V.ref q2]=rV (zu++[q2]) by simp[rV]]
   have uP:=aq.new (o:=.lst (rV (zu++[q2]))) nz2
   exact⟨z2,zu++[q2],_,_,_,_,rfl,(t8.trans oB).trans uP,aj,(se.app (nj.same oB)).same uP,hG'⟩
 ·rintro σ H4 ⟨q,qs,C,v2,v3,v4,rfl,t4,eq,hM,hG⟩
  rw[rV,length_map,hR.l,take_length] at hG
  have hCl:C.length≤6:=by rw[hG.l];exact h6
  have Vx:qs.length=C.length:=hM.l
  have GQ:∀x∈rV qs,∃c b,x = .ref b∧c∈C∧Md (Mk rs) H4 m b c∧Ny H4 x=(Gy (ld c),xX (ld c)):=fun x hx=>by
   obtain⟨j,hj⟩:=mem_iff_getElem?.mp hx
   obtain⟨b,hb,rfl⟩:=dR hj
   obtain⟨c,hc,hd⟩:=hM.g j b hb
   exact⟨c,b,rfl,mem_of_getElem? hc,hd,uM hd⟩
  refine⟨_,rfl,q,rV qs,Ny H4,rfl,.of eq,by rw[rV,length_map];omega,fun x H5 Q' hx s5 q'=>?_,fun x hx=>?_,?_,fun l H5 ws s5 nl el hp hs=>?_⟩
  ·obtain⟨c,b,rfl,hc,hd,hk⟩:=GQ x hx
   refine⟨b,c,m,Mk rs,rfl,hd.same s5,hm,hG.r.n c hc,fun p H6 s6 ep=>q' p H6 s6 ?_⟩
   rw[hk];exact ep
  ·obtain⟨c,b,rfl,hc,hd,hk⟩:=GQ x hx
   rw[hk];exact PQ _ (hG.r.n c hc).ld.lt
  ·have e:(rV qs).map (kv (Ny H4))=C.map fun c=>kN (ld c):=by
    apply List.ext_getElem?
    intro j
    simp only[rV,getElem?_map]
    cases hj:qs[j]? with
    | none=>rw[getElem?_eq_none (by rw[←Vx];exact List.getElem?_eq_none_iff.mp hj)];rfl
    | some b =>
     obtain⟨c,hc,hd⟩:=hM.g j b hj
     rw[hc]
     show some (kv (Ny H4) (.ref b))=some (kN (ld c))
     unfold kv kN
     rw[uM hd]
   rw[e]
   refine Ce hG.r (fun c hc d kJ he=>?_)
   have l1:=(hG.r.n c hc).ld.lt
   have l2:=(hG.r.n d kJ).ld.lt
   rcases Nat.lt_trichotomy (ld c) (ld d) with x|x|x
   ·have:=(FJ _ l2 _ l1).mpr x;omega
   ·exact x
   ·have:=(FJ _ l1 _ l2).mpr x;omega
  ·obtain⟨bs,rfl,hpb⟩:∃bs:List Addr,ws=rV bs∧bs.Perm qs:=sU hp
   obtain⟨L,hpL,PV⟩:=rB.perm hpb hM
   have gL:=Got.perm hG hpL
   refine k l bs L H5 (t4.trans s5) el (PV.same s5) gL ?_
   rw[List.pairwise_iff_getElem] at hs ⊢
   intro i j hi hj gP
   have wG:i<bs.length:=by rw[PV.l];exact hi
   have Hw:j<bs.length:=by rw[PV.l];exact hj
   have bR:=hs i j (by rw[rV,length_map];exact wG) (by rw[rV,length_map];exact Hw) gP
   obtain⟨c,hc,hd⟩:=PV.g i bs[i] (getElem?_eq_getElem wG)
   obtain⟨d,Nl,hd2⟩:=PV.g j bs[j] (getElem?_eq_getElem Hw)
   rw[getElem?_eq_getElem hi] at hc
   rw[getElem?_eq_getElem hj] at Nl
   have ec:=Option.some.inj hc
   have ed:=Option.some.inj Nl
   rw[ec,ed]
   have e1:(rV bs)[i]'(by rw[rV,length_map];exact wG)=V.ref bs[i]:=by rw[List.getElem_map]
   have e2:(rV bs)[j]'(by rw[rV,length_map];exact Hw)=V.ref bs[j]:=by rw[List.getElem_map]
   rw[e1,e2] at bR
   unfold kv at bR
   rw[uM hd,uM hd2] at bR
   have l1:=(gL.r.n c (ec▸List.getElem_mem hi)).ld.lt
   have l2:=(gL.r.n d (ed▸List.getElem_mem hj)).ld.lt
   exact(FJ _ l2 _ l1).mp bR
def nb (n:Nat):List Nat:=(List.range 6).filter (bt n)
abbrev cV (L:List Nat):List V:=L.map fun n:Nat=>V.int (n:Int)
theorem Jd:∀n:Nat,n<64→((List.range (Builtin.Int.intBits (n:Int))).filter (bt n))=nb n∧Builtin.Int.intBits (n:Int)≤6:=by decide +kernel
theorem MF:∀n:Nat,n<64→∀i:Nat,i<6→decide (V.int (Builtin.bitAnd ((n:Int)/2^i) 1)=V.int 1)=bt n i:=by
 simp only[iQ];decide +kernel
theorem uQ (rs:List Rw):pm rs 0=ig:=by
 have:∀i,sJ rs 0 i=ig:=fun i=>by
  induction i with
  | zero=>rfl
  | succ i ih=>unfold sJ;rw[Nat.zero_testBit,if_neg (by decide),ih]
 exact this _
def A3:Sp:=fun vs H Q _=>∃(a b:Addr) (n:Nat),vs=[.ref a]∧H a=some (.tup [.ref b,.int (n:Int)])∧n<64∧∀p H',aq H H'→H p=none→H' p=some (.lst (cV (nb n)))→Q (.ref p) H'
def Is (rs:List Rw) (t:Rw) (n:Nat):Prop:=n<2^rs.length∧(pm rs n).x=t.x∧(pm rs n).z=t.z
def sV (K:Frag):Sp:=fun vs H Q _=>∃(a b:Addr) (as:List Addr) (rs ds:List Rw) (t:Rw) (m:Nat),vs=[.ref a,.ref b]∧bP K H a (rV as)∧cX H m as rs∧Fr m rs ds∧m≤6∧rs.length≤6∧H b=some (.tup t.vals)∧t.ok m ∧
 (∀n,Is rs t n→∀q l H',aq H H'→H q=none→H l=none→H' l=some (.lst (cV (nb n)))→H' q=some (.tup [.ref l,.int (t.sg*(pm rs n).sg)])→Q (.ref q) H')∧((∀n,¬Is rs t n)→∀H',aq H H'→Q .cH H')
theorem PX {m:Nat}{rs:List Rw}(c:Cm m rs) {t:Rw}{n:Nat}(h:Is rs t n):t=sc (t.sg*(pm rs n).sg) (pm rs n):=by
 obtain⟨_,hx,hz⟩:=h
 have hs:=(Sn.good c (EK rs n)).1.s
 obtain⟨s,x,z⟩:=t
 unfold sc
 dsimp only at hx hz ⊢
 rw[hx,hz,Int.mul_assoc,tZ hs,Int.mul_one]
theorem xor_zero {a b:Nat}(h:a^^^b=0):b=a:=by
 have:=congrArg (a^^^·) h
 rw[←Nat.xor_assoc,Nat.xor_self,Nat.zero_xor,Nat.xor_zero] at this
 exact this
theorem A5 {m:Nat}{rs ds:List Rw}(F:Fr m rs ds) {t:Rw}{n:Nat}(hn:n<2^rs.length) (hx:(bx t (pm rs n)).x=0) (hz:(bx t (pm rs n)).z=0):Is rs t n:=by
 have hx':t.x^^^(pm rs n).x=0:=hx
 have yB:t.z^^^(pm rs n).z=0:=hz
 exact⟨hn,xor_zero hx',xor_zero yB⟩
/- numbers_made_of: 0:made -/
abbrev bq:Stmt:=top 37
theorem gK:aw Z29 Z29 (ae bq):=eX
theorem Je (T:eK mg) (D:Def K mg "numbers_made_of" bq Z29):bh P w K mg base aS 1 "numbers_made_of" Z29 A3:=by
 refine D.ok gK (fun vs H Q E h=>?_) (fun f aR A outer s H vs Q E hr h=>?_)
 ·obtain⟨a,b,n,rfl,_⟩:=h;rfl
 obtain⟨a,b,n,rfl,ea,hn,k⟩:=h
 obtain⟨e1,e3⟩:=Jd n hn
 refine⟨_,(ao (aD (eJ rfl gK.nd (cs (N:=Z29) (osc:=ae bq) (by decide +kernel)) (bX rfl T.cq (aa (DF PySem.F.plainAttrs_int PySem.F.slot_int_bit_length PySem.F.type_int_bit_length lE (aC (au K) (pv 0) af (fun _ _=>rfl))) ah)) (fun _ _ _ _=>(jP (aE e7 (ak cj (ak jJ (aC (au K) (pv 1) af (fun _ _=>rfl)) (pv 0)) af) af (aI _)))) (fun _ _ _ _=>(pv 0))))),?_⟩
 refine⟨_,rfl,a,_,_,_,rfl,rfl,dt ea,rfl,rfl,(n:Int),rfl,rfl,((Builtin.Int.intBits (n:Int):Nat):Int),rfl,by omega,by omega,?_⟩
 rw[Int.toNat_natCast]
 refine oq (bt n) (fun i=>.int (i:Int)) (aH (by omega)) ?_ ?_ ?_
 ·intro i H' Q' hi s' q'
  rw[Int.zero_add]
  have:=q' H' (.refl H')
  rw[←MF n hn i (by omega)] at this
  exact⟨_,rfl,a,_,_,_,rfl,rfl,dt (s' _ _ ea),rfl,_,rfl,_,_,rfl,rfl,by omega,_,_,rfl,rfl,rfl,_,rfl,this⟩
 ·intro i H' Q' hi _ s' q'
  rw[Int.zero_add]
  exact⟨_,rfl,q' H' (.refl H')⟩
 ·intro p H' s' np ep
  rw[e1] at ep
  exact k p H' s' np ep
/- made_of: 0:rows 1:row 2:rest -/
abbrev gy:Stmt:=top 39
theorem qm:aw ["rows","row","rest"] ["rows","row"] (ae gy):=eX
theorem Cf (T:eK mg) (D:Def K mg "made_of" gy ["rows","row"]) (kX:bh P w K mg base aS 4 "cleared" Z26 (lV K)) (je:bh P w K mg base aS 5 "least_made" Z18 (ql K)) (gx:bh P w K mg base aS 2 "letters" Z24 (i7 K)) (mS:bh P w K mg base aS 1 "numbers_made_of" Z29 A3):bh P w K mg base aS 6 "made_of" ["rows","row"] (sV K):=by
 refine D.ok qm (fun vs H Q E h=>?_) (fun f aR A outer s H vs Q E hr h=>?_)
 ·obtain⟨a,b,as,rs,ds,t,m,rfl,_⟩:=h;rfl
 obtain⟨a,b,as,rs,ds,t,m,rfl,hS,hR,hF,hm,h6,eb,tok,k1,k2⟩:=h
 refine⟨_,(ai (az (i:=2) qm.nd rfl (Or.inl rfl) (ay kX hr.sub (aa (aU (aa (pv 1) (aa af ah))) (aa (ay je hr.sub (aa (pv 0) ah)) ah))))
   (ai (bJ (aE mv (ay gx hr.sub (aa (aC (au K) (pv 2) af (fun _ _=>rfl)) ah)) af (aI _))
    (ao (aD nt))
    aJ)
   (ao (aD (aU (aa (ay mS hr.sub (aa (pv 2) ah)) (aa (aC (au K) (aC (au K) (pv 2) af (fun _ _=>rfl)) af (fun _ _=>rfl)) ah))))))),?_⟩
 refine⟨_,rfl,aH (by show 2≤1000;decide),fun g ng=>?_⟩
 have s1:=aq.new (o:=.tup [.ref b,.int 0]) ng
 have eg:upd H g (.tup [.ref b,.int 0]) g=some (.tup [.ref b,.int 0]):=aj
 dsimp only
 generalize upd H g (.tup [.ref b,.int 0])=H1 at s1 eg ⊢
 refine⟨_,rfl,a,as,rs,ds,m,rfl,s1.seq hS,hR.same s1,hF,hm,h6,fun q qs L H2 s2 eq hM hG hs=>?_⟩
 have t2:=s1.trans s2
 have c0:Se (fun r n=>r=bx t (pm rs n)∧n<2^rs.length) (Mk rs):=fun r n u j h1 h2=>⟨by rw[h1.1,h2.1,uv hF.c,bC],Nat.xor_lt_two_pow h1.2 h2.2⟩
 have Vw:Md (fun r n=>r=bx t (pm rs n)∧n<2^rs.length) H2 m g t:=⟨b,0,s2 _ _ eg,by decide,t2 _ _ eb,tok,by rw[uQ,gj],Nat.two_pow_pos _⟩
 refine⟨g,q,qs,t,L,m,_,Mk rs,rfl,c0,Vw,.of eq,hM,hG.r.n,hm,fun p H3 s3 hp=>?_⟩
 have t3:=t2.trans s3
 obtain⟨c,n,ep,Vy,ec,PU,Sg,zw⟩:=hp.e
 refine⟨_,rfl,p,_,_,_,rfl,rfl,dt ep,rfl,c,_,m,rfl,dt ec,hm,PU,fun H4 s4=>⟨rfl,_,rfl,?_⟩⟩
 have t4:=t3.trans s4
 by_cases hi:∃n',Is rs t n'
 ·obtain⟨n',hi⟩:=hi
  have h0:ml L t=sc (t.sg*(pm rs n').sg) ig:=by
   conv=>lhs;rw[PX hF.c hi]
   exact EO hG _ (EK rs n')
  have UX:(ml L t).x=0:=by rw[h0];rfl
  have hz0:(ml L t).z=0:=by rw[h0];rfl
  have C1:Is rs t n:=A5 hF zw (by rw[←Sg];exact UX) (by rw[←Sg];exact hz0)
  have hnn:n=n':=LZ hF zw hi.1 (by rw[C1.2.1,hi.2.1]) (by rw[C1.2.2,hi.2.2])
  subst hnn
  rw[UX,hz0]
  refine js ?_
  refine⟨_,rfl,p,c,n,rfl,s4 _ _ ep,Vy,fun l H5 s5 nl el=>?_⟩
  refine⟨_,rfl,p,_,_,_,rfl,rfl,dt (s5 _ _ (s4 _ _ ep)),rfl,c,_,_,_,rfl,rfl,dt (s5 _ _ (s4 _ _ ec)),rfl,aH (by show 2≤1000;decide),fun z Vz=>?_⟩
  refine k1 n hi z l _ ((t4.trans s5).trans (aq.new Vz)) ((t4.trans s5).free Vz) (t4.free nl) (aq.new Vz _ _ el) ?_
  rw[aj,h0]
  show some (HO.tup [V.ref l,V.int (t.sg*(pm rs n).sg*1)])=_
  rw[Int.mul_one]
 ·have eY:(ml L t).x|||(ml L t).z≠0:=fun e=>hi ⟨n,A5 hF zw (by rw[←Sg];exact Nat.le_zero.mp (e▸Nat.left_le_or)) (by rw[←Sg];exact Nat.le_zero.mp (e▸Nat.right_le_or))⟩
  refine lQ (by rw[Kn _ (OV (le64 hm PU.x) (le64 hm PU.z)) eY];rfl) ?_
  exact k2 (fun n' h=>hi ⟨n',h⟩) H4 t4
def xj (K:Frag):Sp:=fun vs H Q _=>∃(a:Addr) (as:List Addr) (rs ds:List Rw) (m:Nat),vs=[.ref a]∧bP K H a (rV as)∧cX H m as rs∧Fr m rs ds∧m≤6∧rs.length≤6∧∀q qs L H',aq H H'→H q=none→H' q=some (.lst (rV qs))→cX H' m qs L→Got m rs L→L.Pairwise (fun a b=>ld a<ld b)→Q (.ref q) H'
/- least_rows: 0:rows -/
abbrev cR:Stmt:=top 40
theorem lJ:aw Z18 Z18 (ae cR):=eX
theorem FL (T:eK mg) (D:Def K mg "least_rows" cR Z18) (je:bh P w K mg base aS 5 "least_made" Z18 (ql K)):bh P w K mg base aS 6 "least_rows" Z18 (xj K):=by
 refine D.ok lJ (fun vs H Q E h=>?_) (fun f aR A outer s H vs Q E hr h=>?_)
 ·obtain⟨a,as,rs,ds,m,rfl,_⟩:=h;rfl
 obtain⟨a,as,rs,ds,m,rfl,hS,hR,hF,hm,h6,k⟩:=h
 refine⟨_,(ao (aD (eJ rfl lJ.nd (cs (N:=Z18) (osc:=ae cR) (by decide +kernel)) (bQ K (ay je hr.sub (aa (pv 0) ah))) (fun _ _ _ _=>b9) (fun _ _ _ _=>(aU (aa (aC (au K) (aC (au K) (pv 0) af (fun _ _=>rfl)) af (fun _ _=>rfl)) (aa (aC (au K) (aC (au K) (pv 0) af (fun _ _=>rfl)) af (fun _ _=>rfl)) (aa (aC (au K) (aC (au K) (pv 0) af (fun _ _=>rfl)) af (fun _ _=>rfl)) ah)))))))),?_⟩
 refine⟨_,rfl,a,as,rs,ds,m,rfl,hS,hR,hF,hm,h6,fun q qs L H1 s1 eq hM hG hs=>?_⟩
 have hl:qs.length≤6:=by rw[hM.l,hG.l];exact h6
 refine⟨q,rfl,⟨_,.of eq⟩,gE (K:=K) (a:=q) (xs:=rV qs) (fun j ys H'=>∃cs:List Addr,ys=rV cs∧cs.length=j∧aq H1 H'∧cX H' m cs (L.take j)) ⟨[],rfl,rfl,.refl H1,⟨rfl,fun _ _ h=>nomatch h⟩⟩ (fun j ys H' _ ⟨cs,e,hj,s',_⟩=>⟨.of (s' _ _ eq),by rw[e,rV,length_map,hj]⟩) (aH (by rw[rV,length_map];omega)) ?_ ?_⟩
 ·rintro j x ys H2 Q' hj ⟨zu,rfl,mm,s2,se⟩ q'
  obtain⟨c,hc,rfl⟩:=dR hj
  obtain⟨r,n6,hd⟩:=hM.g j c hc
  obtain⟨b,kk,e,_,eb,fg⟩:=hd.e
  have e:=s2 _ _ e
  have eb:=s2 _ _ eb
  refine⟨_,rfl,c,_,_,_,rfl,rfl,dt e,rfl,b,_,_,_,rfl,rfl,dt eb,rfl,_,rfl,c,_,_,_,rfl,rfl,dt e,rfl,b,_,_,_,rfl,rfl,dt eb,rfl,_,rfl,c,_,_,_,rfl,rfl,dt e,rfl,b,_,_,_,rfl,rfl,dt eb,rfl,aH (by show 3≤1000;decide),fun g ng=>?_⟩
  refine q' _ _ ⟨zu++[g],by simp[rV],by simp[mm],s2.trans (aq.new ng),?_⟩
  rw[take_add_one,n6,Option.toList_some]
  exact(se.same (aq.new ng)).app aj fg.1
 ·rintro ys H2 p ⟨zu,rfl,mm,s2,se⟩ np
  rw[rV,length_map,hM.l,take_length] at se
  exact k p zu L _ ((s1.trans s2).trans (aq.new np)) ((s1.trans s2).free np) aj (se.same (aq.new np)) hG hs
theorem zB {K:Frag}{a:Addr}{xs:List V}{tt:TT}{te:TE}{σ:St}{H:Hp}{Q:VK}(c:Nat→Bool) (f:Nat→V) (hl:bP K H a xs) (hz:xs.length≤sizeLine)
  (ht:∀(i:Nat) x H' Q',xs[i]?=some x→aq H H'→(∀kO,aq H' kO→Q' (c i) kO)→tt (some (.int i)::some x::σ) H' Q')
  (he:∀(i:Nat) x H' Q',xs[i]?=some x→c i=true→aq H H'→(∀kO,aq H' kO→Q' (f i) kO)→te (some (.int i)::some x::σ) H' Q')
  (hd:∀p H',aq H H'→H p=none→H' p=some (.lst (((List.range xs.length).filter c).map f))→Q (.ref p) H'):∃W,(∃m,W 0 m [] H)∧tR K (Nm K a) tt te σ Q W:=by
 refine⟨fun i m ys H'=>m=xs.length-i∧i≤xs.length∧ys=((List.range i).filter c).map f∧aq H H',⟨xs.length,by simp,Nat.zero_le _,rfl,.refl H⟩,?_⟩
 rintro i m ys H' ⟨rfl,hi,rfl,s⟩
 have q:=s.seq hl
 have hlen:(((List.range i).filter c).map f).length≤i:=by
  rw[length_map];exact Nat.le_trans (List.length_filter_le _ _) (by rw[length_range];exact Nat.le_refl _)
 by_cases bR:i<xs.length
 ·refine .inr ⟨⟨xs,xs[i],q,by simp[bR]⟩,by omega,fun x H2 y=>?_⟩
  obtain⟨p,v,hp,rfl,rfl,y⟩:=y
  have hx:=y xs q
  have s2:aq H (upd H' p (.tup [.int i,v])):=s.trans (aq.new hp)
  refine⟨p,_,_,rfl,.inl (.inl aj),?_⟩
  refine ht i v _ _ hx s2 fun H3 s3=>?_
  cases hc:c i with
  | true =>
   rw[if_pos rfl]
   refine he i v _ _ hx hc (s2.trans s3) fun kO s'=>⟨xs.length-(i+1),by omega,rfl,bR,?_,(s2.trans s3).trans s'⟩
   rw[List.range_succ,List.filter_append,filter_cons,hc];simp
  | false =>
   rw[if_neg (by decide)]
   refine⟨xs.length-(i+1),by omega,rfl,bR,?_,s2.trans s3⟩
   rw[List.range_succ,List.filter_append,filter_cons,hc];simp
 ·have e:i=xs.length:=by omega
  subst e
  refine .inl ⟨⟨xs,q,Nat.le_refl _⟩,by omega,fun p hp=>hd p _ (s.upd (s.free hp)) (s.free hp) ?_⟩
  rw[aj]
def C6 (c:Nat→Bool):Nat→Nat
 | 0=>0
 | n+1=>C6 c n+if c n then 2^n else 0
theorem MG (c:Nat→Bool):∀n,C6 c n<2^n
 | 0=>by show 0<2^0;decide
 | n+1=>by
  have ih:=MG c n
  show C6 c n+(if c n then 2^n else 0)<_
  rw[Nat.pow_succ]
  split<;>omega
theorem A6 (c:Nat→Bool):∀n,(((List.range n).filter c).map fun i=>((2^i:Nat):Int)).sum=(C6 c n:Int)
 | 0=>rfl
 | n+1=>by
  rw[List.range_succ,List.filter_append,List.map_append,List.sum_append,A6 c n]
  show _=((C6 c n+(if c n then 2^n else 0):Nat):Int)
  cases h:c n with
  | true=>rw[filter_cons,h];simp
  | false=>rw[filter_cons,h];simp
def qo (rs:List Rw) (t:Rw):Nat:=C6 (fun i=>!Ar (ra rs i) t) rs.length
abbrev cfs (m:Nat) (l:Addr):List (Str×V):=[("coins",.int m),("checks",.ref l)]
structure Jf (H:Hp) (C x:Addr) (m:Nat) (rs:List Rw):Prop where
 ex:∃(dx l:Addr) (as:List Addr),H x=some (.ins C dx (cfs m l))∧H l=some (.lst (rV as))∧cX H m as rs
theorem Jf.same {H H':Hp}{C x:Addr}{m:Nat}{rs:List Rw}(h:Jf H C x m rs) (s:aq H H'):Jf H' C x m rs:=by
 obtain⟨dx,l,as,h1,h2,h3⟩:=h.ex
 exact⟨dx,l,as,s _ _ h1,s _ _ h2,h3.same s⟩
def xk (K:Frag):Sp:=fun vs H Q _=>∃(a:Addr) (as:List Addr) (rs ds:List Rw) (m:Nat),vs=[.int m,.ref a]∧bP K H a (rV as)∧cX H m as rs∧Fr m rs ds∧1≤m∧m≤6∧rs.length≤m∧∀H',aq H H'→Q .cH H'
def A7 (K:Frag) (C:Addr):Sp:=fun vs H Q _=>∃(x dx a:Addr) (as:List Addr) (rs ds:List Rw) (m:Nat),vs=[.ref x,.int m,.ref a]∧bP K H a (rV as)∧cX H m as rs∧Fr m rs ds∧1≤m∧m≤6∧rs.length≤m∧H x=some (.ins C dx []) ∧
 ∀l H',H' x=some (.ins C dx (cfs m l))→H' l=some (.lst (rV as))→(∀b o,b≠x→H b=some o→H' b=some o)→Q .cH H'
def qp (K:Frag) (C:Addr):Sp:=fun vs H Q _=>∃(x t:Addr) (rs:List Rw) (r:Rw) (m:Nat),vs=[.ref x,.ref t]∧Jf H C x m rs∧eV K H t r.vals∧r.ok m∧m≤6∧rs.length≤6∧∀H',aq H H'→Q (.int (qo rs r:Nat)) H'
def A8 (C:Addr):Sp:=fun vs H Q _=>∃(x t:Addr) (rs ds:List Rw) (r:Rw) (m:Nat),vs=[.ref x,.ref t]∧Jf H C x m rs∧H t=some (.tup r.vals)∧r.ok m∧m≤6∧rs.length≤6∧Fr m rs ds∧((∃n,Is rs r n)→∀H',aq H H'→Q (.bl true) H')∧((∀n,¬Is rs r n)→∀H',aq H H'→Q (.bl false) H')
variable {C:Addr}
/- check_code: 0:coins 1:checks 2:check -/
abbrev dH:Stmt:=top 42
theorem lK:aw ["coins","checks","check"] Z30 (ae dH):=eX
theorem FN (T:eK mg) (MC:∃t,mg "MOST_COINS"=some (.int 6 t)) (D:Def K mg "check_code" dH Z30) (qq:bh P w K mg base aS 1 "is_row" Z13 (uJ K)) (uR:bh P w K mg base aS 6 "least_rows" Z18 (xj K)):bh P w K mg base aS 7 "check_code" Z30 (xk K):=by
 refine D.ok lK (fun vs H Q E h=>?_) (fun f aR A outer s H vs Q E hr h=>?_)
 ·obtain⟨a,as,rs,ds,m,rfl,_⟩:=h;rfl
 obtain⟨a,as,rs,ds,m,rfl,hS,hR,hF,m1,m6,hl,k⟩:=h
 have CZ:as.length=rs.length:=hR.l
 refine⟨_,(ai (bJ (PW.pt (pw_or (aE mw (pv 0) af (aI _)) (pw_or1 (aE vV (pv 0) (An MC) (aI _)))))
    (ao eG)
    aJ)
   (ai (bJ (aE vV (bA (cW K) (by rfl) T.lF ic (aa (pv 1) ah)) (pv 0) (aI _))
    (ao eG)
    aJ)
   (ai (cy PassesOwn.never rfl (bQ K (pv 1)) (aK (i:=2) lK.nd rfl (Or.inl rfl))
    (ao (bJ (iN (fY (ay qq hr.sub (aa (pv 2) (aa (pv 0) ah)))))
     (ao eG)
     aJ)))
   (ao (fH (ay uR hr.sub (aa (pv 1) ah))))))),?_⟩
 refine⟨_,rfl,_,_,rfl,rfl,_,rfl,mF (by show ¬(m:Int)<1;omega) ?_⟩
 refine⟨_,rfl,_,_,rfl,rfl,_,rfl,mF (by show ¬(m:Int) > 6;omega) ?_⟩
 refine⟨_,rfl,a,_,rfl,.inl hS,_,rfl,_,_,rfl,rfl,_,rfl,mF (by show ¬((rV as).length:Int) > (m:Int);rw[rV,length_map];omega) ?_⟩
 refine⟨_,rfl,a,rfl,⟨_,hS⟩,iD (K:=K) (a:=a) (xs:=rV as) (fun i σ H'=>∃v,σ=[some (.int m),some (.ref a),v]∧aq H H') ⟨_,rfl,.refl H⟩ (fun i σ H' _ ⟨_,_,s'⟩=>s'.seq hS) ?_ ?_⟩
 ·rintro i x σ H' hi ⟨v,rfl,s'⟩
  obtain⟨b,hb,rfl⟩:=dR hi
  obtain⟨r,n6,er,fg⟩:=hR.g i b hb
  exact⟨_,rfl,_,rfl,b,r,m,rfl,dt (s' _ _ er),m6,fg,fun H2 s2=>⟨_,rfl,js ⟨_,rfl,s'.trans s2⟩⟩⟩
 ·rintro σ H' ⟨v,rfl,s'⟩
  exact⟨_,rfl,a,as,rs,ds,m,rfl,s'.seq hS,hR.same s',hF,m6,by omega,fun q qs L H2 s2 _ _ _ _ _=>k H2 (s'.trans s2)⟩
/- Code.__init__: 0:self 1:coins 2:checks -/
abbrev cm:Stmt:=wM (top 44) 0
theorem n9:aw Z25 Z25 (ae cm):=eX
theorem Jg (T:eK mg) (N1:bz K C "coins") (N2:bz K C "checks") (D:E3 K mg "Code" C "Code.__init__" cm Z25) (uS:bh P w K mg base aS 7 "check_code" Z30 (xk K)):Iz P w K mg base 8 "Code" C (A7 K C):=by
 have cl:=D.c
 refine D.ok n9 (fun vs H Q E h=>?_) (fun f aR A outer s H vs Q E hr h=>?_)
 ·obtain⟨x,dx,a,as,rs,ds,m,rfl,_⟩:=h;rfl
 obtain⟨x,dx,a,as,rs,ds,m,rfl,hS,hR,hF,m1,m6,hl,ex,k⟩:=h
 refine⟨_,(ai (fH (ay uS hr.sub (aa (pv 1) (aa (pv 2) ah))))
   (ai (AM K (pv 0) (pv 1))
   (ao (AM K (pv 0) (iE (iT K) (by rfl) T.tN oV (aa (pv 2) ah)))))),?_⟩
 refine⟨_,rfl,_,rfl,a,as,rs,ds,m,rfl,hS,hR,hF,m1,m6,hl,fun H1 s1=>?_⟩
 have MH:=s1 _ _ ex
 refine⟨_,rfl,_,rfl,x,C,dx,[],rfl,MH,cl,N1,by decide,?_⟩
 have VA:upd H1 x (.ins C dx (gO "coins" (.int m) [])) x=some (.ins C dx [("coins",.int m)]):=aj
 have xX:∀b o,b≠x→H1 b=some o→upd H1 x (.ins C dx (gO "coins" (.int m) [])) b=some o:=fun b o hb h=>by rw[aA hb];exact h
 generalize upd H1 x (.ins C dx (gO "coins" (.int m) []))=H2 at VA xX ⊢
 have hS2:bP K H2 a (rV as):=by
  rcases s1.seq hS with(h|⟨o,h⟩)|h
  ·exact .inl (.inl (xX a _ (fun z=>by rw[z,MH] at h;cases h) h))
  ·exact .inl (.inr ⟨o,xX a _ (fun z=>by rw[z,MH] at h;cases h) h⟩)
  ·exact .inr h
 refine⟨_,rfl,a,_,rfl,.inl hS2,fun l nl=>?_⟩
 have hlx:x≠l:=aF VA nl
 refine⟨_,rfl,x,C,dx,[("coins",.int m)],rfl,aq.new nl _ _ VA,cl,N2,by show 1<1000;decide,?_⟩
 refine k l _ (by rw[aj];rfl) (by rw[aA (Ne.symm hlx)];exact aj) (fun b o hb h=>?_)
 rw[aA hb]
 exact aq.new nl _ _ (xX b o hb (s1 _ _ h))
/- Code.marks: 0:self 1:turn -/
abbrev cS:Stmt:=wM (top 44) 1
theorem lL:aw Z20 Z20 (ae cS):=eX
theorem FO (T:eK mg) (FP:mg "sum"=none) (N2:bz K C "checks") (D:p8 K C "marks" "Code.marks" cS Z20) (uN:bh P w K mg base aS 2 "agree" Z00 (qi K)):wO P w K mg base 3 C "marks" (qp K C):=by
 have cl:=D.c
 refine D.ok lL (fun vs H Q E h=>?_) (fun f aR A outer s H vs Q E hr h=>?_)
 ·obtain⟨x,t,rs,r,m,rfl,_⟩:=h;rfl
 obtain⟨x,t,rs,r,m,rfl,hc,hT,fg,m6,hl,k⟩:=h
 obtain⟨dx,l,as,ex,el,hR⟩:=hc.ex
 have CZ:as.length=rs.length:=hR.l
 refine⟨_,(ao (aD (bA (sr K) (by rfl) FP D1 (aa (nG K rfl lL.nd (RN (N:=Z20) (N':=Z20) (osc:=ae cS) (by decide +kernel)) (mG K rfl T.gU (aa (uB K (pv 0)) ah)) (fun _ _ _ _=>(jP (iN (fY (ay uN hr.sub (aa (pv 1) (aa (pv 3) ah))))))) (fun _ _ _ _=>(ak cI af (pv 0)))) ah)))),?_⟩
 refine⟨_,rfl,x,C,dx,_,.ref l,rfl,ex,cl,N2,rfl,l,_,rfl,.of el,zB (fun i=>!Ar (ra rs i) r) (fun i=>.int ((2^i:Nat):Int)) (.of el) (aH (by rw[rV,length_map];omega)) ?_ ?_ ?_⟩
 ·intro i y H' Q' hi s' q'
  obtain⟨b,hb,rfl⟩:=dR hi
  obtain⟨u,hu,eu,Cg⟩:=hR.g i b hb
  rw[cf hu] at q'
  exact⟨_,rfl,_,rfl,b,t,u,r,m,rfl,dt (s' _ _ eu),s'.tup hT,m6,Cg,fg,fun H2 s2=>⟨_,rfl,q' H2 s2⟩⟩
 ·intro i y H' Q' hi _ s' q'
  have hi6:i<6:=by have:=(List.getElem?_eq_some_iff.mp hi).1;rw[rV,length_map] at this;omega
  refine⟨_,rfl,_,_,rfl,rfl,HF (by omega),?_⟩
  have:=q' H' (.refl H')
  rw[←fZ] at this
  exact this
 intro p H1 s1 np ep
 rw[rV,length_map,CZ] at ep
 refine⟨p,_,rfl,.of (xs:=zV (((List.range rs.length).filter fun i=>!Ar (ra rs i) r).map fun i=>((2^i:Nat):Int))) (by rw[ep,zV,List.map_map];rfl),?_⟩
 rw[A6]
 exact k H1 s1
/- Code.is_harmless: 0:self 1:turn -/
abbrev bE:Stmt:=wM (top 44) 2
theorem lA:aw Z20 Z20 (ae bE):=eX
theorem Jh (T:eK mg) (N2:bz K C "checks") (D:p8 K C "is_harmless" "Code.is_harmless" bE Z20) (Ci:bh P w K mg base aS 6 "made_of" ["rows","row"] (sV K)):wO P w K mg base 7 C "is_harmless" (A8 C):=by
 have cl:=D.c
 refine D.ok lA (fun vs H Q E h=>?_) (fun f aR A outer s H vs Q E hr h=>?_)
 ·obtain⟨x,t,rs,ds,r,m,rfl,_⟩:=h;rfl
 obtain⟨x,t,rs,ds,r,m,rfl,hc,eT,fg,m6,hl,hF,k1,k2⟩:=h
 obtain⟨dx,l,as,ex,el,hR⟩:=hc.ex
 refine⟨_,(ao (aD (eI GP (ay Ci hr.sub (aa (uB K (pv 0)) (aa (pv 1) ah))) nt (aI _)))),?_⟩
 refine⟨_,rfl,x,C,dx,_,.ref l,rfl,ex,cl,N2,rfl,_,rfl,l,t,as,rs,ds,r,m,rfl,.of el,hR,hF,m6,hl,eT,fg,fun n hn q z H1 s1 nq nz ez eq=>?_,fun hn H1 s1=>?_⟩
 ·exact⟨rfl,k1 ⟨n,hn⟩ H1 s1⟩
 ·exact⟨rfl,k2 hn H1 s1⟩
noncomputable def PY (H:Hp) (p:Rw→Bool):V→Bool
 | .ref a=>match H a with
  | some (.tup [.int s,.int x,.int z])=>p ⟨s,x.toNat,z.toNat⟩
  | _=>false
 | _=>false
theorem FQ {H:Hp}{p:Rw→Bool}{a:Addr}{r:Rw}(h:H a=some (.tup r.vals)):PY H p (.ref a)=p r:=by
 unfold PY
 simp only[h,Rw.vals,Int.toNat_natCast]
theorem sW {H:Hp}{m:Nat}(p:Rw→Bool):∀{as:List Addr}{L:List Rw},cX H m as L→∃bs:List Addr,((rV as).filter (PY H p)).map id=rV bs∧cX H m bs (L.filter p)
 | [],L,h=>⟨[],rfl,by
   have:L=[]:=length_eq_zero_iff.mp h.l.symm
   subst this
   exact⟨rfl,fun _ _ e=>nomatch e⟩⟩
 | a::as,L,h=>by
  cases L with
  | nil=>exact absurd h.l (by simp)
  | cons r L =>
   obtain⟨r',h1,h2,h3⟩:=h.g 0 a rfl
   have er:r=r':=Option.some.inj h1
   subst er
   have hT:cX H m as L:=⟨by have:=h.l;simpa using this,fun i b e=>h.g (i+1) b e⟩
   obtain⟨bs,e,hb⟩:=sW p hT
   have ez:=FQ (p:=p) h2
   show ∃cs,((V.ref a::rV as).filter (PY H p)).map id=rV cs∧_
   rw[filter_cons,filter_cons,ez]
   cases p r with
   | true =>
    refine⟨a::bs,by rw[if_pos rfl,List.map_cons,e];rfl,?_⟩
    rw[if_pos rfl]
    refine⟨by simp[hb.l],fun i b eb=>?_⟩
    cases i with
    | zero=>cases eb;exact⟨r,rfl,h2,h3⟩
    | succ i=>exact hb.g i b eb
   | false =>
    exact⟨bs,by rw[if_neg (by decide)];exact e,by rw[if_neg (by decide)];exact hb⟩
theorem cX.cat {H:Hp}{m:Nat}{as bs:List Addr}{rs ts:List Rw}(h:cX H m as rs) (g:cX H m bs ts):cX H m (as++bs) (rs++ts):=⟨by rw[length_append,length_append,h.l,g.l],fun i a e=>by
 rcases Nat.lt_or_ge i as.length with q|q
 ·rw[getElem?_append_left q] at e
  obtain⟨r,h1,h2,h3⟩:=h.g i a e
  exact⟨r,by rw[getElem?_append_left (by rw[←h.l];exact q)];exact h1,h2,h3⟩
 ·rw[getElem?_append_right q] at e
  obtain⟨r,h1,h2,h3⟩:=g.g _ a e
  exact⟨r,by rw[getElem?_append_right (by rw[←h.l];exact q),←h.l];exact h1,h2,h3⟩⟩
def Nz (H:Hp):V→Nat
 | .ref a=>match H a with
  | some (.tup [.int _,.int x,.int z])=>pc (x.toNat|||z.toNat)
  | _=>0
 | _=>0
theorem zC {H:Hp}{a:Addr}{r:Rw}(h:H a=some (.tup r.vals)):Nz H (.ref a)=eW r:=by
 unfold Nz eW
 simp only[h,Rw.vals,Int.toNat_natCast]
theorem FR {H:Hp}{m:Nat}{as bs:List Addr}(p:bs.Perm as):∀{rs:List Rw},cX H m as rs→∃ts,cX H m bs ts∧ts.Perm rs:=by
 induction p with
 | nil=>intro rs h;exact⟨rs,h,.refl rs⟩
 | cons x _ ih =>
  intro rs h
  cases rs with
  | nil=>exact absurd h.l (by simp)
  | cons r rs =>
   obtain⟨r',h1,h2,h3⟩:=h.g 0 x rfl
   cases h1
   have hT:cX H m _ rs:=⟨by have:=h.l;simpa using this,fun i b e=>h.g (i+1) b e⟩
   obtain⟨ts,g,gp⟩:=ih hT
   exact⟨r::ts,⟨by simp[g.l],fun i b e=>by
    cases i with
    | zero=>cases e;exact⟨r,rfl,h2,h3⟩
    | succ i=>exact g.g i b e⟩,gp.cons r⟩
 | swap x y l =>
  intro rs h
  match rs,h with
  | [],h=>exact absurd h.l (by simp)
  | [_],h=>exact absurd h.l (by simp)
  | r::t::rs,h =>
   obtain⟨r',h1,h2,h3⟩:=h.g 0 _ rfl
   cases h1
   obtain⟨t',g1,g2,g3⟩:=h.g 1 _ rfl
   cases g1
   refine⟨t::r::rs,⟨by have:=h.l;simpa using this,fun i b e=>?_⟩,.swap r t rs⟩
   match i,e with
   | 0,e=>cases e;exact⟨t,rfl,g2,g3⟩
   | 1,e=>cases e;exact⟨r,rfl,h2,h3⟩
   | i+2,e=>exact h.g (i+2) b e
 | trans _ _ OY LI =>
  intro rs h
  obtain⟨t1,h1,p1⟩:=LI h
  obtain⟨t2,h2,p2⟩:=OY h1
  exact⟨t2,h2,p2.trans p1⟩
def xn:Sp:=fun vs H Q _=>∃(m:Nat) (n:Int),vs=[.int m,.int n]∧1≤m∧m≤6∧∀q as rs H',aq H H'→H q=none→H' q=some (.lst (rV as))→cX H' m as rs→rs.Perm (i3 n m)→rs.Pairwise (fun r t=>eW r≤eW t)→Q (.ref q) H'
/- turns_up_to: 0:coins 1:many 2:turns 3:coin 4:bit 5:fewer 6:x 7:z -/
abbrev bW:Stmt:=top 43
theorem br:aw Z15 Z31 (ae bW):=eX
theorem FT (T:eK mg) (gH:mg "sorted"=none) (D:Def K mg "turns_up_to" bW Z31) (gx:bh P w K mg base aS 2 "letters" Z24 (i7 K)):bh P w K mg base aS 5 "turns_up_to" Z31 xn:=by
 refine D.ok br (fun vs H Q E h=>?_) (fun f aR A outer s H vs Q E hr h=>?_)
 ·obtain⟨m,n,rfl,_⟩:=h;rfl
 obtain⟨m,n,rfl,m1,m6,k⟩:=h
 refine⟨_,(ai (az (i:=2) br.nd rfl (Or.inl rfl) (gB (aa (aU (aa af (aa af (aa af ah)))) ah)))
   (ai (cy PassesOwn.never rfl (bX rfl T.cq (aa (pv 0) ah)) (aK (i:=3) br.nd rfl (Or.inl rfl))
    (ai (az (i:=4) br.nd rfl (Or.inl rfl) (ak cI af (pv 3)))
    (ai (mC (i:=5) rfl br.nd rfl rfl (cs (N:=Z15) (osc:=ae bW) (by decide +kernel)) (bQ K (pv 2)) (fun _ _ _ _=>(jP (aE mw (ay gx hr.sub (aa (pv 0) ah)) (pv 2) (aI _)))) (fun _ _ _ _=>(pv 0)))
    (ao (cy PassesOwn.never rfl (Ho K (aU (aa (aU (aa (pv 4) (aa af ah))) (aa (aU (aa af (aa (pv 4) ah))) (aa (aU (aa (pv 4) (aa (pv 4) ah))) ah))))) (iU K rfl (b7 (aK (i:=6) br.nd rfl (Or.inr rfl)) (b7 (aK (i:=7) br.nd rfl (Or.inr rfl)) iO)))
     (ao (az (i:=2) br.nd rfl (Or.inl rfl) (ak yz (pv 2) (eJ rfl br.nd (cs (N:=Z15) (osc:=ae bW) (by decide +kernel)) (bQ K (pv 5)) (fun _ _ _ _=>b9) (fun _ _ _ _=>(aU (aa af (aa (ak bS (aC (au K) (pv 0) af (fun _ _=>rfl)) (pv 7)) (aa (ak bS (aC (au K) (pv 0) af (fun _ _=>rfl)) (pv 8)) ah))))))))))))))
   (ao (aD (zc K gx hr.sub gH (pv 2)))))),?_⟩
 refine⟨aH (by show 3≤1000;decide),fun g ng=>⟨aH (by show 1≤1000;decide),fun q nq=>?_⟩⟩
 dsimp only [aP]
 have v1:=aq.new (o:=.tup [V.int 1,V.int 0,V.int 0]) ng
 have v2:=aq.new (o:=.lst [V.ref g]) nq
 have eg:upd H g (.tup [V.int 1,V.int 0,V.int 0]) g=some (.tup (⟨1,0,0⟩:Rw).vals):=aj
 have eq:upd (upd H g (.tup [V.int 1,V.int 0,V.int 0])) q (.lst [V.ref g]) q=some (.lst (rV [g])):=aj
 have eg:=v2 _ _ eg
 have t2:=v1.trans v2
 have NA:H q=none:=v1.free nq
 generalize upd (upd H g (.tup [V.int 1,V.int 0,V.int 0])) q (.lst [V.ref g])=H2 at eq eg t2 ⊢
 have R0:cX H2 m [g] (i3 n 0):=cX.app (as:=[]) (rs:=[]) ⟨rfl,fun _ _ e=>nomatch e⟩ eg ⟨.inl rfl,Nat.two_pow_pos m,Nat.two_pow_pos m⟩
 refine⟨_,rfl,(m:Int),rfl,by omega,by omega,ck (lo:=0) (n:=(m:Int).toNat) (fun c σ H'=>∃(q:Addr) (as:List Addr) (v3 v4 v5 v6 v7:Option V),σ=[some (.int m),some (.int n),some (.ref q),v3,v4,v5,v6,v7]∧aq H H'∧H q=none∧H' q=some (.lst (rV as))∧cX H' m as (i3 n c)) ⟨q,[g],_,_,_,_,_,rfl,t2,NA,eq,R0⟩ ?_ ?_⟩
 ·clear eq eg t2 R0 NA nq v1 v2 ng
  rintro c σ H3 hc ⟨q,as,v3,v4,v5,v6,v7,rfl,s3,nq,eq,R3⟩
  have hcm:c<m:=by omega
  rw[Int.zero_add]
  refine⟨_,rfl,_,_,rfl,rfl,⟨Int.natCast_nonneg _,by omega,by decide⟩,?_⟩
  have lb:=fQ
  have l4:=o5 n c
  have p4:4^c≤4^6:=Nat.pow_le_pow_right (by decide) (by omega)
  have p4':(4:Nat)^6=4096:=by decide
  have CZ:(rV as).length=(i3 n c).length:=by rw[rV,length_map,R3.l]
  have VB:(1:Int)*2^(c:Int).toNat=((2^c:Nat):Int):=fZ c
  refine⟨_,rfl,q,rfl,⟨_,.of eq⟩,pI (PY H3 (fun r=>decide ((eW r:Int)<n))) id (.of eq) (by omega) ?_ ?_ ?_⟩
  ·intro i x H' Q' hi s' q'
   obtain⟨b,hb,rfl⟩:=dR hi
   obtain⟨r,n6,er,fg⟩:=R3.g i b hb
   refine⟨_,rfl,b,r,m,rfl,dt (s' _ _ er),m6,fg,fun H4 s4=>?_⟩
   have:=q' H4 s4
   rw[FQ er] at this
   exact⟨_,rfl,_,_,rfl,rfl,_,rfl,this⟩
  ·intro j y H' Q' hj _ s' q'
   exact⟨_,rfl,q' H' (.refl H')⟩
  intro fq H4 s4 nfq Sh
  obtain⟨fs,e1,hF⟩:=sW (fun r=>decide ((eW r:Int)<n)) R3
  rw[e1] at Sh
  have hF4:=hF.same s4
  have eq4:=s4 _ _ eq
  have R4:=R3.same s4
  have t4:=s3.trans s4
  dsimp only [aP]
  rw[VB]
  refine⟨_,rfl,aH (by show 2≤1000;decide),fun u1 n1=>⟨_,rfl,aH (by show 2≤1000;decide),fun u2 n2=>⟨_,rfl,_,rfl,aH (by show 2≤1000;decide),fun u3 n3=>⟨aH (by show 3≤1000;decide),fun u n4=>?_⟩⟩⟩⟩
  have w1:=aq.new (o:=.tup [V.int ((2^c:Nat):Int),V.int 0]) n1
  have w2:=aq.new (o:=.tup [V.int 0,V.int ((2^c:Nat):Int)]) n2
  have w3:=aq.new (o:=.tup [V.int ((2^c:Nat):Int),V.int ((2^c:Nat):Int)]) n3
  have w4:=aq.new (o:=.tup [V.ref u1,V.ref u2,V.ref u3]) n4
  have x1:=(w2.trans (w3.trans w4)) u1 _ aj
  have x2:=(w3.trans w4) u2 _ aj
  have x3:=w4 u3 _ aj
  have x4:upd (upd (upd (upd H4 u1 (.tup [V.int ((2^c:Nat):Int),V.int 0])) u2 (.tup [V.int 0,V.int ((2^c:Nat):Int)])) u3 (.tup [V.int ((2^c:Nat):Int),V.int ((2^c:Nat):Int)])) u (.tup [V.ref u1,V.ref u2,V.ref u3]) u=some (.tup [V.ref u1,V.ref u2,V.ref u3]):=aj
  have w:=w1.trans (w2.trans (w3.trans w4))
  generalize upd (upd (upd (upd H4 u1 (.tup [V.int ((2^c:Nat):Int),V.int 0])) u2 (.tup [V.int 0,V.int ((2^c:Nat):Int)])) u3 (.tup [V.int ((2^c:Nat):Int),V.int ((2^c:Nat):Int)])) u (.tup [V.ref u1,V.ref u2,V.ref u3])=H5 at x1 x2 x3 x4 w ⊢
  clear w1 w2 w3 w4 n1 n2 n3 n4
  have Sh:=w _ _ Sh
  have Si:=hF4.same w
  have eq5:=w _ _ eq4
  have R5:=R4.same w
  have t5:=t4.trans w
  obtain⟨ad,Sj⟩:∃ad:List (Nat×Nat),ad=[(2^c,0),(0,2^c),(2^c,2^c)]:=⟨_,rfl⟩
  obtain⟨fw,VC⟩:∃fw,fw=CY n (i3 n c):=⟨_,rfl⟩
  have PZ:(i3 n c).filter (fun r=>decide ((eW r:Int)<n))=fw:=by rw[VC];rfl
  rw[PZ] at Si
  have fl:fw.length≤4096:=by
   have:=List.length_filter_le (fun r=>decide ((eW r:Int)<n)) (i3 n c)
   rw[PZ] at this;omega
  have IG:∀r∈fw,r.x<2^c∧r.z<2^c:=fun r eF=>by
   rw[VC] at eF
   have:=(fJ n c (by omega) r).mp (mem_filter.mp eF).1
   exact this.1.2
  have pcm:2^c+2^c≤2^m:=by
   have:2^(c+1)≤2^m:=Nat.pow_le_pow_right (by decide) hcm
   rw[Nat.pow_succ] at this;omega
  have prt:∀(j:Nat) (p:Nat×Nat),ad[j]?=some p→∃uj:Addr,([V.ref u1,V.ref u2,V.ref u3]:List V)[j]?=some (V.ref uj)∧H5 uj=some (.tup [V.int (p.1:Int),V.int (p.2:Int)])∧p.1≤2^c∧p.2≤2^c:=fun j p hp=>by
   rw[Sj] at hp
   match j,hp with
   | 0,hp=>cases hp;exact⟨u1,rfl,x1,Nat.le_refl _,Nat.zero_le _⟩
   | 1,hp=>cases hp;exact⟨u2,rfl,x2,Nat.zero_le _,Nat.le_refl _⟩
   | 2,hp=>cases hp;exact⟨u3,rfl,x3,Nat.le_refl _,Nat.le_refl _⟩
  refine⟨u,rfl,⟨_,dt x4⟩,GN (K:=K) (a:=u) (xs:=[V.ref u1,V.ref u2,V.ref u3]) (fun j σ H'=>∃(q':Addr) (Ji:List Addr) (v6 v7:Option V),σ=[some (.int m),some (.int n),some (.ref q'),some (.int c),some (.int ((2^c:Nat):Int)),some (.ref fq),v6,v7]∧aq H5 H'∧H q'=none∧H' q'=some (.lst (rV Ji))∧cX H' m Ji (i3 n c++((ad.take j).map fun p=>fw.map (iH p.1 p.2)).flatten)) ⟨q,as,_,_,rfl,.refl H5,nq,eq5,by simpa using R5⟩ (fun j σ H' _ ⟨_,_,_,_,_,s',_⟩=>s'.tup (dt x4)) ?_ ?_⟩
  ·rintro j x σ H6 hj ⟨q',Ji,v6,v7,rfl,s6,nq',Ko,R6⟩
   obtain⟨p,hp⟩:∃p,ad[j]?=some p:=by
    have:j<3:=(List.getElem?_eq_some_iff.mp hj).1
    rw[Sj];exact⟨_,getElem?_eq_getElem (by simpa using this)⟩
   obtain⟨uj,e1,e2,b1,b2⟩:=prt j p hp
   rw[hj] at e1;cases e1
   refine⟨uj,_,rfl,dt (s6 _ _ e2),rfl,_,_,rfl,_,_,rfl,rfl,?_⟩
   have P1:=s6 _ _ Sh
   have VD:=Si.same s6
   refine⟨_,rfl,_,rfl,fq,rfl,⟨_,.of P1⟩,gE (K:=K) (a:=fq) (xs:=rV fs) (fun i ys H'=>∃bs:List Addr,ys=rV bs∧bs.length=i∧aq H6 H'∧cX H' m bs ((fw.take i).map (iH p.1 p.2))) ⟨[],rfl,rfl,.refl H6,⟨rfl,fun _ _ e=>nomatch e⟩⟩ (fun i ys H' _ ⟨bs,e,hb,s',_⟩=>⟨.of (s' _ _ P1),by rw[e,rV,length_map,hb]⟩) (by rw[rV,length_map,VD.l];omega) ?_ ?_⟩
   ·rintro i y ys H7 Q' hi ⟨bs,rfl,yV,s7,hB⟩ q7
    obtain⟨b,hb,rfl⟩:=dR hi
    obtain⟨r,n6,er,fg⟩:=VD.g i b hb
    have er7:=s7 _ _ er
    obtain⟨rx,rz⟩:=IG r (mem_of_getElem? n6)
    refine⟨_,rfl,b,_,_,_,rfl,rfl,dt er7,rfl,_,rfl,_,_,rfl,rfl,_,rfl,b,_,_,_,rfl,rfl,dt er7,rfl,_,rfl,_,_,rfl,rfl,aH (by show 3≤1000;decide),fun g ng=>q7 _ _ ?_⟩
    have vv:=aq.new (o:=.tup [V.int 1,V.int ((r.x:Int)+(p.1:Int)),V.int ((r.z:Int)+(p.2:Int))]) ng
    refine⟨bs++[g],by simp[rV],by simp[yV],s7.trans vv,?_⟩
    rw[take_add_one,n6,Option.toList_some,List.map_append]
    refine(hB.same vv).app (r:=iH p.1 p.2 r) ?_ ⟨.inl rfl,?_,?_⟩
    ·rw[aj]
     show some (HO.tup [V.int 1,V.int ((r.x:Int)+(p.1:Int)),V.int ((r.z:Int)+(p.2:Int))])=some (HO.tup [V.int 1,V.int ((r.x+p.1:Nat):Int),V.int ((r.z+p.2:Nat):Int)])
     rw[Int.natCast_add,Int.natCast_add]
    ·show r.x+p.1<2^m;omega
    ·show r.z+p.2<2^m;omega
   ·rintro ys H7 pz ⟨bs,rfl,yV,s7,hB⟩ npz
    rw[rV,length_map,VD.l,take_length] at hB
    have vz:=aq.new (o:=.lst (rV bs)) npz
    have ez:upd H7 pz (.lst (rV bs)) pz=some (.lst (rV bs)):=aj
    have s8:=s7.trans vz
    have hB:=hB.same vz
    generalize upd H7 pz (.lst (rV bs))=H8 at ez s8 hB ⊢
    have R8:=(R6.same s8).cat hB
    have eq8:=s8 _ _ Ko
    have EF:Ji.length≤16384:=by
     rw[R6.l,length_append]
     have h0:(((ad.take j).map fun p=>fw.map (iH p.1 p.2)).flatten).length≤3*fw.length:=by
      rw[Sj]
      match j with
      | 0=>simp
      | 1=>simp;omega
      | 2=>simp;omega
      | j+3=>simp;omega
     omega
    have vG:bs.length≤4096:=by rw[hB.l,length_map];exact fl
    refine⟨q',pz,_,_,rfl,rfl,eq8,ez,by rw[rV,rV,length_map,length_map];omega,fun q2 Kp=>?_⟩
    have v9:=aq.new (o:=.lst (rV Ji++rV bs)) Kp
    refine⟨q2,Ji++bs,_,_,rfl,(s6.trans s8).trans v9,?_,by rw[aj];simp[rV],?_⟩
    ·exact(t5.trans (s6.trans s8)).free Kp
    ·have e:i3 n c++((ad.take (j+1)).map fun p=>fw.map (iH p.1 p.2)).flatten=(i3 n c++((ad.take j).map fun p=>fw.map (iH p.1 p.2)).flatten)++fw.map (iH p.1 p.2):=by
      rw[take_add_one,hp];simp
     rw[e]
     exact R8.same v9
  ·rintro σ H6 ⟨q',Ji,v6,v7,rfl,s6,nq',Ko,R6⟩
   refine⟨q',Ji,_,_,_,_,_,rfl,t5.trans s6,nq',Ko,?_⟩
   have e:i3 n c++((ad.take [V.ref u1,V.ref u2,V.ref u3].length).map fun p=>fw.map (iH p.1 p.2)).flatten=i3 n (c+1):=by
    show _=ze n c (i3 n c)
    rw[Sj,VC];unfold ze;simp
   rw[e] at R6
   exact R6
 ·rintro σ H3 ⟨q,as,v3,v4,v5,v6,v7,rfl,s3,nq,eq,R3⟩
  rw[Int.toNat_natCast] at R3
  have l4:=o5 n m
  have p4:4^m≤4^6:=Nat.pow_le_pow_right (by decide) m6
  have p4':(4:Nat)^6=4096:=by decide
  refine⟨_,rfl,q,rV as,fun v=>(Nz H3 v:Int),rfl,.of eq,by rw[rV,length_map,R3.l];omega,fun x H4 Q' hx s4 q'=>?_,fun x _=>Int.natCast_nonneg _,fun l H4 ws s4 nl el hp hw=>?_⟩
  ·obtain⟨a,ha,rfl⟩:=List.mem_map.mp hx
   obtain⟨i,hi⟩:=mem_iff_getElem?.mp ha
   obtain⟨r,n6,er,fg⟩:=R3.g i a hi
   refine⟨a,r,m,rfl,dt (s4 _ _ er),m6,fg,fun H5 s5=>?_⟩
   have:Q' (.int (Nz H3 (.ref a):Int)) H5:=q' H5 s5
   rw[zC er] at this
   exact this
  ·obtain⟨bs,rfl,hbp⟩:=sU hp
   obtain⟨rs,hR,hrp⟩:=FR hbp R3
   refine k l bs rs H4 (s3.trans s4) (s3.free nl) el (hR.same s4) hrp ?_
   rw[List.pairwise_iff_getElem]
   intro i j hi hj gP
   have gt:∀t (ht:t<rs.length),∃b,bs[t]?=some b∧H3 b=some (.tup (rs[t]).vals):=fun t ht=>by
    have hb:t<bs.length:=by rw[hR.l];exact ht
    obtain⟨r,e1,e2,_⟩:=hR.g t bs[t] (getElem?_eq_getElem hb)
    rw[getElem?_eq_getElem ht] at e1;cases e1
    exact⟨bs[t],getElem?_eq_getElem hb,e2⟩
   obtain⟨b1,f1,g1⟩:=gt i hi
   obtain⟨b2,f2,g2⟩:=gt j hj
   have hl:∀t b,bs[t]?=some b→(rV bs)[t]?=some (V.ref b):=fun t b h=>by rw[rV,getElem?_map,h];rfl
   obtain⟨y1,z1⟩:=List.getElem?_eq_some_iff.mp (hl i b1 f1)
   obtain⟨y2,z2⟩:=List.getElem?_eq_some_iff.mp (hl j b2 f2)
   have:=List.pairwise_iff_getElem.mp hw i j y1 y2 gP
   rw[z1,z2] at this
   have this:(Nz H3 (.ref b1):Int)≤(Nz H3 (.ref b2):Int):=this
   rw[zC g1,zC g2] at this
   omega
def A9 (K:Frag):Sp:=fun vs H Q _=>∃(p:Addr) (ns:List Int) (k:Nat),vs=[.ref p,.int k]∧bP K H p (zV ns)∧ns.length≤63∧k<64∧∀c:Int,0≤c→c<2000001→∀H',aq H H'→Q (.int c) H'
def jw (x c a:Nat):Nat:=(x&&&(63^^^2^c))|||2^c*a
theorem Ba:∀x:Nat,x<64→∀c:Nat,c<6→∀a:Nat,a<2→Builtin.bitOr (Builtin.bitAnd (x:Int) (Builtin.bitNot ((2^c:Nat):Int))) (((2^c:Nat):Int)*(a:Int))=((jw x c a:Nat):Int):=by
 have:∀x:Fin 64,∀c:Fin 6,∀a:Fin 2,Builtin.bitOr (Builtin.bitAnd (x.1:Int) (Builtin.bitNot ((2^c.1:Nat):Int))) (((2^c.1:Nat):Int)*(a.1:Int))=((jw x.1 c.1 a.1:Nat):Int):=by decide +kernel
 exact fun x hx c hc a ha=>this ⟨x,hx⟩ ⟨c,hc⟩ ⟨a,ha⟩
theorem Jj:∀x:Nat,x<64→∀c:Nat,c<6→∀a:Nat,a<2→pc (jw x c a)≤pc x+1:=by
 have:∀x:Fin 64,∀c:Fin 6,∀a:Fin 2,pc (jw x.1 c.1 a.1)≤pc x.1+1:=by decide +kernel
 exact fun x hx c hc a ha=>this ⟨x,hx⟩ ⟨c,hc⟩ ⟨a,ha⟩
theorem Bb {m x c a:Nat}(hx:x<2^m) (hc:c<m) (ha:a<2):jw x c a<2^m:=by
 unfold jw
 refine Nat.or_lt_two_pow (Nat.lt_of_le_of_lt Nat.and_le_left hx) ?_
 ·have h1:2^c<2^m:=Nat.pow_lt_pow_right (by decide) hc
  have:2^c*a≤2^c*1:=Nat.mul_le_mul_left _ (by omega)
  omega
theorem Jk (x z c a b:Nat) (ha:a<2) (hb:b<2):jw x c a|||jw z c b=jw (x|||z) c (a|||b):=by
 have e:2^c*a|||2^c*b=2^c*(a|||b):=by
  rcases(show a=0∨a=1 by omega) with rfl|rfl<;>rcases(show b=0∨b=1 by omega) with rfl|rfl<;>simp
 unfold jw
 rw[←e,Nat.and_or_distrib_right]
 generalize x&&&(63^^^2^c)=p
 generalize z&&&(63^^^2^c)=q
 rw[Nat.or_assoc,Nat.or_assoc,←Nat.or_assoc (2^c*a) q,Nat.or_comm (2^c*a) q,Nat.or_assoc q]
def sX:Sp:=fun vs H Q _=>∃(c:Int) (m n:Nat),vs=[.int c,.int m,.int n]∧0≤c∧1≤m∧m≤6∧n≤2∧∀(g:Addr) (r:Rw) H',aq H H'→H' g=some (.tup r.vals)→r.ok m→eW r≤n→Q (.ref g) H'
theorem Sk {x m:Int}(h:0<m) (h2:m≤1000000):L2.wj x m:=Ap h (by omega)
theorem MI {c d:Int}(h:0≤c) (hd:0<d):0≤c.fdiv d:=by rw[Int.fdiv_eq_ediv_of_nonneg _ (by omega)];exact Int.ediv_nonneg h (by omega)
/- _law_one: 0:_law_script 1:_law_k 2:_law_number_here 3:_law_turn -/
abbrev gz:Stmt:=top 63
theorem jf:aw ["_law_script","_law_k","_law_number_here","_law_turn"] Z04 (ae gz):=eX
theorem Jl (T:eK mg) (D:Def K mg "_law_one" gz Z04) (cu:bh P w K mg base aS 1 "_law_number" Z04 (o8 K)):bh P w K mg base aS 2 "_law_one" Z04 (A9 K):=by
 refine D.ok jf (fun vs H Q E h=>?_) (fun f aR A outer s H vs Q E hr h=>?_)
 ·obtain⟨p,ns,k,rfl,_⟩:=h;rfl
 obtain⟨p,ns,k,rfl,hS,hl,hk,q⟩:=h
 have e:(24:Int)+(k:Int)%8=((24+k%8:Nat):Int):=by omega
 refine⟨_,(ai (az (i:=2) jf.nd rfl (Or.inl rfl) (ay cu hr.sub (aa (pv 0) (aa (ak bS af (ak ba (pv 1) af)) ah))))
   (ai (bJ (PW.pt (pw_or (aE Aa (ak bS af (ak ba (pv 1) af)) (bA (cW K) (by rfl) T.lF ic (aa (pv 0) ah)) (aI _)) (pw_or1 (Du Ds mw af (aC (cJ K) (pv 0) (ak bS af (ak ba (pv 1) af)) (fun _ _=>rfl)) (ak tm af af)))))
    (ao (aD (ak ba (ak bK (pv 2) (ak bS (pv 1) af)) af)))
    aJ)
   (ai (cy PassesOwn.never rfl (bX rfl T.cq (aa (ak bK (pv 1) af) ah)) (aK (i:=3) jf.nd rfl (Or.inl rfl))
    (ao (az (i:=2) jf.nd rfl (Or.inl rfl) (ak bK (pv 2) af))))
   (ao (aD (ak ba (pv 2) af)))))),?_⟩
 refine⟨_,rfl,_,rfl,_,_,rfl,rfl,(by show (0:Int)<_;decide),_,_,rfl,rfl,?_⟩
 dsimp only
 rw[e]
 refine⟨p,ns,24+k%8,rfl,hS,hl,by omega,fun c c0 H1 s1=>?_⟩
 dsimp only [aP]
 have S1:=s1.seq hS
 have fin:∀H',aq H H'→∀d:Int,0≤d%2000001→Q (.int (d%2000001)) H':=fun H' s' d h0=>q _ h0 (gb d (by decide)) H' s'
 refine⟨_,rfl,_,_,rfl,rfl,(by show (0:Int)<_;decide),_,_,rfl,rfl,_,rfl,p,_,rfl,.inl S1,_,_,rfl,rfl,_,rfl,?_⟩
 have ret:∀d:Int,0≤d%2000001:=fun d=>fc d (by decide)
 by_cases h1:(24:Int)+(k:Int)%8 ≥ ((zV ns).length:Int)
 ·refine q9 h1 ?_
  exact⟨_,rfl,_,rfl,_,_,rfl,rfl,_,_,rfl,rfl,Sk (by omega) (by omega),_,_,rfl,rfl,(by show (0:Int)<_;decide),fin H1 s1 _ (ret _)⟩
 refine mF h1 ?_
 have RF:24+k%8<ns.length:=by rw[length_map] at h1;omega
 obtain⟨n,hn⟩:∃n,ns[24+k%8]?=some n:=⟨ns[24+k%8],getElem?_eq_getElem RF⟩
 have hat:yq (zV ns) ((24:Int)+(k:Int)%8)=some (.int n):=by rw[e];exact Am hn
 have f0:0≤(k:Int).fdiv 8:=MI (by omega) (by decide)
 have f1:(k:Int).fdiv 8≤8:=by rw[Int.fdiv_eq_ediv_of_nonneg _ (by decide)];omega
 refine⟨_,rfl,_,rfl,_,_,rfl,rfl,(by show (0:Int)<_;decide),_,_,rfl,rfl,p,_,_,_,rfl,rfl,S1,hat,_,_,rfl,rfl,_,rfl,?_⟩
 refine wc (fun d1=>?_) (fun d1=>?_)
 ·refine⟨_,_,rfl,rfl,OQ _ (by decide) (by decide),_,_,rfl,rfl,_,rfl,wc (fun d2=>?_) (fun d2=>?_)⟩
  ·exact⟨_,rfl,_,rfl,_,_,rfl,rfl,_,_,rfl,rfl,Sk (by omega) (by omega),_,_,rfl,rfl,(by show (0:Int)<_;decide),fin H1 s1 _ (ret _)⟩
  ·refine⟨_,rfl,_,_,rfl,rfl,Ap (by decide) (by decide),(k:Int).fdiv 8,rfl,by omega,by omega,ck (lo:=0) (n:=((k:Int).fdiv 8).toNat) (fun i σ H'=>∃(c:Int) (v3:Option V),σ=[some (.ref p),some (.int k),some (.int c),v3]∧aq H H') ⟨c,_,rfl,s1⟩ ?_ ?_⟩
   ·rintro i σ H2 hi ⟨c,v3,rfl,s2⟩
    exact⟨_,rfl,_,_,rfl,rfl,Ap (by decide) (by decide),_,_,rfl,s2⟩
   ·rintro σ H2 ⟨c,v3,rfl,s2⟩
    exact⟨_,rfl,_,_,rfl,rfl,(by show (0:Int)<_;decide),fin H2 s2 _ (ret _)⟩
 ·refine⟨_,rfl,js ?_⟩
  refine⟨_,rfl,_,_,rfl,rfl,Ap (by decide) (by decide),(k:Int).fdiv 8,rfl,by omega,by omega,ck (lo:=0) (n:=((k:Int).fdiv 8).toNat) (fun i σ H'=>∃(c:Int) (v3:Option V),σ=[some (.ref p),some (.int k),some (.int c),v3]∧aq H H') ⟨c,_,rfl,s1⟩ ?_ ?_⟩
  ·rintro i σ H2 hi ⟨c,v3,rfl,s2⟩
   exact⟨_,rfl,_,_,rfl,rfl,Ap (by decide) (by decide),_,_,rfl,s2⟩
  ·rintro σ H2 ⟨c,v3,rfl,s2⟩
   exact⟨_,rfl,_,_,rfl,rfl,(by show (0:Int)<_;decide),fin H2 s2 _ (ret _)⟩
/- _law_wrong: 0:_law_number_here 1:_law_coins 2:_law_many_here 3:_law_found 4:_law_k 5:_law_bit 6:_law_kind -/
abbrev eD:Stmt:=top 65
theorem dI:aw ["_law_number_here","_law_coins","_law_many_here","_law_found","_law_k","_law_bit","_law_kind"] Z05 (ae eD):=eX
theorem Cj (T:eK mg) (D:Def K mg "_law_wrong" eD Z05):bh P w K mg base aS 1 "_law_wrong" Z05 sX:=by
 refine D.ok dI (fun vs H Q E h=>?_) (fun f aR A outer s H vs Q E hr h=>?_)
 ·obtain⟨c,m,n,rfl,_⟩:=h;rfl
 obtain⟨c,m,n,rfl,c0,m1,m6,n2,k⟩:=h
 refine⟨_,(ai (az (i:=3) dI.nd rfl (Or.inl rfl) (aU (aa (ak dQ af (ak aQ af (ak ba (ak bK (pv 0) af) af))) (aa af (aa af ah)))))
   (ai (cy PassesOwn.never rfl (bX rfl T.cq (aa (pv 2) ah)) (aK (i:=4) dI.nd rfl (Or.inl rfl))
    (ai (az (i:=5) dI.nd rfl (Or.inl rfl) (ak cI af (ak ba (ak bK (pv 0) (aC (cJ K) (gB (aa af (aa af ah))) (pv 4) (fun _ _=>rfl))) (pv 1))))
    (ai (az (i:=6) dI.nd rfl (Or.inl rfl) (ak ba (ak bK (pv 0) (aC (cJ K) (gB (aa af (aa af ah))) (pv 4) (fun _ _=>rfl))) af))
    (ao (az (i:=3) dI.nd rfl (Or.inl rfl) (aU (aa (aC (au K) (pv 3) af (fun _ _=>rfl)) (aa (ak zY (ak cj (aC (au K) (pv 3) af (fun _ _=>rfl)) (lC Dq (pv 5))) (ak aQ (pv 5) (ak ba (pv 6) af))) (aa (ak zY (ak cj (aC (au K) (pv 3) af (fun _ _=>rfl)) (lC Dq (pv 5))) (ak aQ (pv 5) (ak bK (pv 6) af))) ah)))))))))
   (ao (aD (pv 3))))),?_⟩
 have w0:=fc (c.fdiv 5488) (m:=2) (by decide)
 have w1:=gb (c.fdiv 5488) (m:=2) (by decide)
 refine⟨_,rfl,_,_,rfl,rfl,Ap (by decide) (by decide),_,_,rfl,rfl,(by show (0:Int)<_;decide),_,_,rfl,rfl,⟨big (by decide) (by decide),big (by omega) (by omega)⟩,_,_,rfl,rfl,aH (by show 3≤1000;decide),fun g0 ng0=>?_⟩
 have xp:one (1-2*(c.fdiv 5488%2)):=by
  have:c.fdiv 5488%2=0∨c.fdiv 5488%2=1:=by omega
  rcases this with h|h<;>rw[h]<;>simp[one]
 dsimp only [aP]
 generalize 1-2*(c.fdiv 5488%2)=sg at xp ng0 ⊢
 have s0:=aq.new (o:=.tup [V.int sg,V.int 0,V.int 0]) ng0
 have e0:upd H g0 (.tup [V.int sg,V.int 0,V.int 0]) g0=some (.tup (Rw.vals ⟨sg,0,0⟩)):=aj
 generalize upd H g0 (.tup [V.int sg,V.int 0,V.int 0])=H0 at e0 s0 ⊢
 have p0:0<2^m:=Nat.two_pow_pos m
 refine⟨_,rfl,(n:Int),rfl,by omega,by omega,ck (lo:=0) (n:=(n:Int).toNat) (fun i σ H'=>∃(g:Addr) (r:Rw) (v4 v5 v6:Option V),σ=[some (.int c),some (.int m),some (.int n),some (.ref g),v4,v5,v6]∧aq H H'∧H' g=some (.tup r.vals)∧r.ok m∧eW r≤i) ⟨g0,⟨sg,0,0⟩,_,_,_,rfl,s0,e0,⟨xp,p0,p0⟩,by show pc (0|||0)≤0;decide⟩ ?_ ?_⟩
 ·rintro i σ H1 hi ⟨g,r,v4,v5,v6,rfl,s1,eg,fg,bR⟩
  rw[Int.zero_add]
  have C1:i<2:=by omega
  obtain⟨d1,Nl,hp1⟩:∃d:Int,yq [V.int 7,V.int 49] (i:Int)=some (.int d)∧(0<d∧d≤1000000):=by
   match i,C1 with
   | 0,_=>exact⟨7,rfl,by decide⟩
   | 1,_=>exact⟨49,rfl,by decide⟩
  obtain⟨d2,hd2,Nw⟩:∃d:Int,yq [V.int 343,V.int 1372] (i:Int)=some (.int d)∧(0<d∧d≤1000000):=by
   match i,C1 with
   | 0,_=>exact⟨343,rfl,by decide⟩
   | 1,_=>exact⟨1372,rfl,by decide⟩
  have HC:(0:Int)<(m:Int):=by omega
  refine⟨_,rfl,aH (by show 2≤1000;decide),fun l1 VE=>⟨_,rfl,l1,_,_,_,rfl,rfl,.of aj,Nl,?_⟩⟩
  have v1:=aq.new (o:=.lst [V.int 7,V.int 49]) VE
  have eg:=v1 _ _ eg
  have s2:=s1.trans v1
  generalize upd H1 l1 (.lst [V.int 7,V.int 49])=H2 at eg s2 ⊢
  refine⟨_,_,rfl,rfl,Sk hp1.1 hp1.2,_,rfl,_,_,rfl,rfl,HC,?_⟩
  have x0:=fc (c.fdiv d1) HC
  have x1:=gb (c.fdiv d1) HC
  obtain⟨j,hj,hjm⟩:∃j:Nat,c.fdiv d1%(m:Int)=(j:Int)∧j<m:=⟨(c.fdiv d1%(m:Int)).toNat,by omega,by omega⟩
  dsimp only
  rw[hj]
  refine⟨_,_,rfl,rfl,HF (by omega),?_⟩
  dsimp only [aP]
  rw[fZ]
  refine⟨_,rfl,aH (by show 2≤1000;decide),fun l2 nl2=>⟨_,rfl,l2,_,_,_,rfl,rfl,.of aj,hd2,?_⟩⟩
  have v2:=aq.new (o:=.lst [V.int 343,V.int 1372]) nl2
  have eg:=v2 _ _ eg
  have s3:=s2.trans v2
  generalize upd H2 l2 (.lst [V.int 343,V.int 1372])=H3 at eg s3 ⊢
  refine⟨_,_,rfl,rfl,Sk Nw.1 Nw.2,_,_,rfl,rfl,(by show (0:Int)<_;decide),?_⟩
  have y0:=fc (c.fdiv d2) (m:=4) (by decide)
  have y1:=gb (c.fdiv d2) (m:=4) (by decide)
  obtain⟨q,hq,hq4⟩:∃q:Nat,c.fdiv d2%4=(q:Int)∧q<4:=⟨(c.fdiv d2%4).toNat,by omega,by omega⟩
  dsimp only [aP]
  rw[hq]
  have MD:2^j≤32:=Nat.pow_le_pow_right (n:=2) (by decide) (by omega:j≤5)
  have hbg:(((2^j:Nat):Int)).natAbs<2^4000:=by
   generalize 2^j=bb at MD
   exact big (by omega) (by omega)
  have md:(q:Int)%2=((q%2:Nat):Int):=by omega
  have dv:(q:Int).fdiv 2=((q/2:Nat):Int):=by rw[Int.fdiv_eq_ediv_of_nonneg _ (by decide)];omega
  have nj:((q:Int)%2).natAbs<2^4000:=big (by omega) (by omega)
  have Gr:((q:Int).fdiv 2).natAbs<2^4000:=by rw[dv];exact big (by omega) (by omega)
  refine⟨_,rfl,g,_,_,_,rfl,rfl,dt eg,rfl,_,rfl,g,_,_,_,rfl,rfl,dt eg,rfl,_,rfl,_,rfl,_,_,rfl,rfl,_,rfl,_,rfl,_,_,rfl,rfl,(by show (0:Int)<_;decide),_,_,rfl,rfl,⟨hbg,nj⟩,_,_,rfl,rfl,_,rfl,g,_,_,_,rfl,rfl,dt eg,rfl,_,rfl,_,rfl,_,_,rfl,rfl,_,rfl,_,rfl,_,_,rfl,rfl,Ap (by decide) (by decide),_,_,rfl,rfl,⟨hbg,Gr⟩,_,_,rfl,rfl,aH (by show 3≤1000;decide),fun g2 VF=>?_⟩
  have rx:=le64 m6 fg.x
  have rz:=le64 m6 fg.z
  have ex:Builtin.bitOr (Builtin.bitAnd (r.x:Int) (Builtin.bitNot ((2^j:Nat):Int))) (((2^j:Nat):Int)*((q:Int)%2))=((jw r.x j (q%2):Nat):Int):=by rw[md];exact Ba r.x rx j (by omega) _ (by omega)
  have ez:Builtin.bitOr (Builtin.bitAnd (r.z:Int) (Builtin.bitNot ((2^j:Nat):Int))) (((2^j:Nat):Int)*((q:Int).fdiv 2))=((jw r.z j (q/2):Nat):Int):=by rw[dv];exact Ba r.z rz j (by omega) _ (by omega)
  have v3:=aq.new (o:=.tup [V.int r.sg,V.int (Builtin.bitOr (Builtin.bitAnd (r.x:Int) (Builtin.bitNot ((2^j:Nat):Int))) (((2^j:Nat):Int)*((q:Int)%2))),V.int (Builtin.bitOr (Builtin.bitAnd (r.z:Int) (Builtin.bitNot ((2^j:Nat):Int))) (((2^j:Nat):Int)*((q:Int).fdiv 2)))]) VF
  refine⟨g2,⟨r.sg,jw r.x j (q%2),jw r.z j (q/2)⟩,_,_,_,rfl,s3.trans v3,?_,⟨fg.s,Bb fg.x hjm (by omega),Bb fg.z hjm (by omega)⟩,?_⟩
  ·show upd _ g2 _ g2=_
   rw[aj]
   show some (HO.tup [V.int r.sg,V.int (Builtin.bitOr (Builtin.bitAnd (r.x:Int) (Builtin.bitNot ((2^j:Nat):Int))) (((2^j:Nat):Int)*((q:Int)%2))),V.int (Builtin.bitOr (Builtin.bitAnd (r.z:Int) (Builtin.bitNot ((2^j:Nat):Int))) (((2^j:Nat):Int)*((q:Int).fdiv 2)))])=some (HO.tup [V.int r.sg,V.int ((jw r.x j (q%2):Nat):Int),V.int ((jw r.z j (q/2):Nat):Int)])
   rw[ex,ez]
  ·show pc (jw r.x j (q%2)|||jw r.z j (q/2))≤i+1
   have hd2:∀a b:Nat,a<2→b<2→a|||b<2:=fun a b ha hb=>Nat.or_lt_two_pow (n:=1) ha hb
   rw[Jk _ _ _ _ _ (by omega) (by omega)]
   have:=Jj (r.x|||r.z) (o7 m6 fg.x fg.z) j (by omega) (q%2|||q/2) (hd2 _ _ (by omega) (by omega))
   have bR:pc (r.x|||r.z)≤i:=bR
   omega
 ·rintro σ H1 ⟨g,r,v4,v5,v6,rfl,s1,eg,fg,bR⟩
  exact⟨_,rfl,k g r H1 s1 eg fg (by omega)⟩
def mT (K:Frag):Sp:=fun vs H Q _=>∃(a g:Addr) (xs:List Int) (m:Nat) (r:Rw),vs=[.ref a,.ref g]∧bP K H a (zV xs)∧eV K H g r.vals∧xs.length=2^m∧m≤6∧Small xs∧r.ok m∧∀q H',aq H H'→H q=none→H' q=some (.lst (zV (lay r xs)))→Q (.ref q) H'
theorem ob (b:Bool):one (1-2*(if b=true then 1 else 0)):=by cases b<;>simp[one]
theorem MJ (n:Int) (b:Bool):n*(1-2*(if b=true then 1 else 0))=chg n b:=by
 cases b
 ·show n*1=n;omega
 ·show n*(-1)=-n;omega
theorem Cp {xs:List Int}(h:Small xs) {p:Nat}(hp:p<xs.length):(cz xs p).natAbs<2^4000:=by
 have:=h _ (mem_of_getElem? (d5 hp))
 exact Nat.lt_trans this (Nat.pow_lt_pow_right (by decide) (by decide))
/- _law_laid: 0:_law_numbers 1:_law_row 2:_law_found 3:_law_place 4:_law_sign -/
abbrev ft:Stmt:=top 57
theorem g8:aw ["_law_numbers","_law_row","_law_found","_law_place","_law_sign"] Z12 (ae ft):=eX
theorem FU (T:eK mg) (D:Def K mg "_law_laid" ft Z12) (nX:bh P w K mg base aS 1 "_law_odd" Z09 zq):bh P w K mg base aS 2 "_law_laid" Z12 (mT K):=by
 refine D.ok g8 (fun vs H Q E h=>?_) (fun f aR A outer s H vs Q E hr h=>?_)
 ·obtain⟨a,g,xs,m,r,rfl,_⟩:=h;rfl
 obtain⟨a,g,xs,m,r,rfl,hS,hG,hl,hm,PF,eF,k⟩:=h
 have hle:xs.length≤64:=by rw[hl];exact Nat.pow_le_pow_right (n:=2) (by decide) hm
 refine⟨_,(ai (az (i:=2) g8.nd rfl (Or.inl rfl) (iE (iT K) (by rfl) T.tN oV (aa (pv 0) ah)))
   (ai (cy PassesOwn.never rfl (bX rfl T.cq (aa (bA (cW K) (by rfl) T.lF ic (aa (pv 0) ah)) ah)) (aK (i:=3) g8.nd rfl (Or.inl rfl))
    (ai (az (i:=4) g8.nd rfl (Or.inl rfl) (ak aQ (aC (au K) (pv 1) af (fun _ _=>rfl)) (ak dQ af (ak aQ af (ay nX hr.sub (aa (ak cj (pv 3) (aC (au K) (pv 1) af (fun _ _=>rfl))) ah))))))
    (ao (pe (ak aQ (pv 4) (aC (cJ K) (pv 0) (pv 3) (fun _ _=>rfl))) (yc (pv 2) (ak b8 (pv 3) (aC (au K) (pv 1) af (fun _ _=>rfl))) set_list)))))
   (ao (aD (pv 2))))),?_⟩
 refine⟨_,rfl,a,_,rfl,.inl hS,fun q nq=>?_⟩
 have s2:=aq.new (o:=.lst (zV xs)) nq
 refine⟨_,rfl,a,_,rfl,.inl (s2.seq hS),(xs.length:Int),by rw[length_map],by omega,by omega,
  ck (lo:=0) (n:=(xs.length:Int).toNat) (fun i σ H'=>∃(ys:List Int) (v3 v4:Option V),σ=[some (.ref a),some (.ref g),some (.ref q),v3,v4]∧H' q=some (.lst (zV ys))∧sv xs ys i r∧aq H H') ⟨_,_,_,rfl,aj,⟨rfl,fun p hp=>by omega⟩,s2⟩ ?_ ?_⟩
 ·rintro i σ H' hi ⟨ys,v3,v4,rfl,eq,hh,s'⟩
  have uk:i<xs.length:=by omega
  have C1:i<2^m:=by omega
  have h6:=le64 hm C1
  rw[Int.zero_add]
  refine⟨_,rfl,g,_,_,_,rfl,rfl,s'.tup hG,rfl,?_⟩
  refine⟨_,rfl,_,rfl,g,_,_,_,rfl,rfl,s'.tup hG,rfl,_,_,rfl,rfl,i&&&r.z,by show [V.int (Builtin.bitAnd (i:Int) (r.z:Int))]=_;rw[nF],d3 h6,fun H2 s2=>?_⟩
  have s3:=s'.trans s2
  have eq2:=s2 _ _ eq
  refine⟨_,_,rfl,rfl,⟨big (by decide) (by decide),by cases par (i&&&r.z)<;>exact big (by decide) (by decide)⟩,_,_,rfl,rfl,_,_,rfl,rfl,⟨bM eF.s,bM (ob _)⟩,?_⟩
  have hx:=ie C1 eF.x
  have UL:Gh (zV ys).length (Builtin.bitXor (i:Int) (r.x:Int))=some (i^^^r.x):=by rw[rh];exact Av (by rw[length_map,hh.l];omega)
  refine⟨_,rfl,_,rfl,_,rfl,a,_,_,_,rfl,rfl,s3.seq hS,Am (d5 uk),_,_,rfl,rfl,⟨bM (one_mul eF.s (ob _)),Cp PF uk⟩,?_⟩
  refine⟨_,rfl,_,rfl,_,rfl,g,_,_,_,rfl,rfl,s3.tup hG,rfl,_,_,rfl,rfl,q,_,_,_,rfl,rfl,eq2,UL,?_⟩
  refine⟨ys.set (i^^^r.x) (ua xs i r),_,_,rfl,?_,hh.set hl uk eF.x,s3.upd nq⟩
  rw[aj]
  dsimp only
  rw[MJ,tY,zV,zV,List.map_set]
  rfl
 ·rintro σ H' ⟨ys,v3,v4,rfl,eq,hh,s'⟩
  refine⟨_,rfl,k q H' s' nq ?_⟩
  rw[Int.toNat_natCast] at hh
  rw[eq,hh.done hl eF.x]
def xq (K:Frag):Sp:=fun vs H Q _=>∃(p c:Addr) (ss:List Int) (as:List Addr) (rs ds:List Rw) (m:Nat),vs=[.ref p,.ref c,.int m]∧bP K H p (zV ss)∧ss.length≤63∧bP K H c (rV as)∧cX H m as rs∧Fr m rs ds∧m≤6∧rs.length≤6 ∧
 ∀q ys H',aq H H'→H' q=some (.lst (zV ys))→BN m 30 ys→(∀r∈rs,lay r ys=ys)→Q (.ref q) H'
theorem zD {ι κ:Sort _}{C G:ι→κ→Prop}{A:Prop}(h:(∀i j,C i j→G i j)→A) (k:∀i j,C i j→G i j):A:=h k
theorem Kq {j k:Nat}(h:j≤k) {xs:List Int}(s:Sz j xs):Sz k xs:=fun n hn=>Nat.lt_of_lt_of_le (s n hn) (Nat.pow_le_pow_right (by decide) h)
theorem nI (xs:List Int):(((zV xs).map fun v=>V.bl (!decide (v = .int 0))).any tM)=true↔cg xs:=by
 rw[any_eq_true]
 constructor
 ·rintro⟨v,hv,ht⟩
  obtain⟨u,hu,rfl⟩:=List.mem_map.mp hv
  obtain⟨n,hn,rfl⟩:=List.mem_map.mp hu
  refine⟨n,hn,fun z=>?_⟩
  have ht:(!decide (V.int n = .int 0))=true:=ht
  rw[z,decide_eq_true rfl] at ht
  cases ht
 ·rintro⟨n,hn,h0⟩
  refine⟨_,List.mem_map.mpr ⟨_,List.mem_map.mpr ⟨n,hn,rfl⟩,rfl⟩,?_⟩
  show (!decide (V.int n = .int 0))=true
  rw[decide_eq_false (fun z=>h0 (by injection z))];rfl
/- _law_kept: 0:_law_script 1:_law_checks_here 2:_law_coins 3:_law_numbers 4:_law_place 5:_law_found 6:_law_row -/
abbrev cB:Stmt:=top 64
theorem cM:aw W1 Z08 (ae cB):=eX
theorem FV (T:eK mg) (xr:mg "zip"=none) (D:Def K mg "_law_kept" cB Z08) (Cq:bh P w K mg base aS 2 "_law_one" Z04 (A9 K)) (eh:bh P w K mg base aS 2 "_law_laid" Z12 (mT K)):bh P w K mg base aS 3 "_law_kept" Z08 (xq K):=by
 refine D.ok cM (fun vs H Q E h=>?_) (fun f aR A outer s H vs Q E hr h=>?_)
 ·obtain⟨p,c,ss,as,rs,ds,m,rfl,_⟩:=h;rfl
 obtain⟨p,c,ss,as,rs,ds,m,rfl,hS,hl,hC,hR,hF,m6,xt,k⟩:=h
 have VG:2^m≤64:=Nat.pow_le_pow_right (n:=2) (by decide) m6
 have lb:(1000:Nat)≤sizeLine:=aH (by decide)
 refine⟨_,(ai (mC (i:=3) rfl cM.nd rfl rfl (cs (N:=W1) (osc:=ae cB) (by decide +kernel)) (bX rfl T.cq (aa (ak cI af (pv 2)) ah)) (fun _ _ _ _=>b9) (fun _ _ _ _=>(ak dQ (ay Cq hr.sub (aa (pv 1) (aa (pv 0) ah))) (ak tm af af))))
   (ai (cy PassesOwn.never rfl (kL rfl T.cq (aa (lC jK af) (aa (ak cI af (pv 2)) ah))) (aK (i:=4) cM.nd rfl (Or.inr rfl))
    (ai (bJ (aE Aa (pv 4) af (aI _))
     (ao (mC (i:=3) rfl cM.nd rfl rfl (cs (N:=W1) (osc:=ae cB) (by decide +kernel)) (bX rfl T.cq (aa (ak cI af (pv 2)) ah)) (fun _ _ _ _=>b9) (fun _ _ _ _=>(iE Bz (by rfl) T.OH Ll (aa (eI e7 (pv 0) (pv 5) (aI _)) ah)))))
     aJ)
    (ai (az (i:=5) cM.nd rfl (Or.inl rfl) (iE (iT K) (by rfl) T.tN oV (aa (pv 3) ah)))
    (ai (cy PassesOwn.never rfl (bQ K (pv 1)) (aK (i:=6) cM.nd rfl (Or.inl rfl))
     (ao (B9 K (i:=5) rfl cM.nd rfl rfl (RN (N:=W1) (N':=W1) (osc:=ae cB) (by decide +kernel)) (tT K rfl xr (aa (pv 5) (aa (ay eh hr.sub (aa (pv 5) (aa (pv 6) ah))) ah))) (fun _ _ _ _=>b9) (fun _ _ _ _=>(ak bS (pv 0) (pv 1))))))
    (ao (bJ (fY (bA (so K) (by rfl) T.JS DV (aa (eJ rfl cM.nd (cs (N:=W1) (osc:=ae cB) (by decide +kernel)) (bQ K (pv 5)) (fun _ _ _ _=>b9) (fun _ _ _ _=>(eI mv (pv 0) af (aI _)))) ah)))
     (ao (aD (pv 5)))
     aJ))))))
   (ao (aD (pv 3))))),?_⟩
 refine⟨_,rfl,_,_,rfl,rfl,HF m6,?_⟩
 dsimp only
 rw[fZ]
 obtain⟨N,hN⟩:∃N,N=2^m:=⟨_,rfl⟩
 rw[←hN] at VG ⊢
 refine⟨(N:Int),rfl,by omega,by omega,?_⟩
 rw[Int.toNat_natCast]
 refine ot (fun i ys H'=>∃ns:List Int,ys=zV ns∧ns.length=i∧Sz 21 ns∧aq H H') ⟨[],rfl,rfl,(fun _ h=>nomatch h),.refl H⟩ (fun i ys H' _ ⟨ns,e,h,_⟩=>by rw[e,zV,length_map,h]) (by omega) ?_ ?_
 ·rintro i ys H' Q' hi ⟨ns,rfl,zw,hb,s'⟩ q'
  rw[Int.zero_add]
  refine⟨_,rfl,_,rfl,p,ss,i,rfl,s'.seq hS,hl,by omega,fun v v0 v1 H2 s2=>?_⟩
  refine⟨_,_,rfl,rfl,OQ _ (by decide) (by decide),_,_,rfl,rfl,q' _ _ ?_⟩
  have e6:(10:Int)^(6:Int).toNat=1000000:=by decide
  refine⟨ns++[v-10^(6:Int).toNat],by simp[zV],by simp[zw],fun n hn=>?_,s'.trans s2⟩
  rcases mem_append.mp hn with z|z
  ·exact hb n z
  ·rw[mem_singleton.mp z,e6,show (2:Nat)^21=2097152 by decide];omega
 rintro ys H1 q1 ⟨P5,rfl,P6,wG,s1⟩ NB
 have v1:=aq.new (o:=.lst (zV P5)) NB
 have eq1:upd H1 q1 (.lst (zV P5)) q1=some (.lst (zV P5)):=aj
 have t1:=s1.trans v1
 dsimp only [aP]
 generalize upd H1 q1 (.lst (zV P5))=H2 at eq1 t1 ⊢
 refine⟨_,rfl,_,rfl,_,_,rfl,rfl,HF m6,-1,(N:Int),by show [V.int (-1),V.int (1*2^(m:Int).toNat)]=_;rw[fZ,←hN],⟨by decide,by decide,by omega,by omega⟩,ck (lo:=-1) (n:=((N:Int)-(-1)).toNat) (fun i σ H'=>∃(q:Addr) (ns:List Int) (v4 v5 v6:Option V),σ=[some (.ref p),some (.ref c),some (.int m),some (.ref q),v4,v5,v6]∧aq H H'∧H' q=some (.lst (zV ns))∧ns.length=N∧Sz 21 ns∧(∀j,j+1<i→¬cg (lu rs (e1 m j)))) ⟨q1,P5,_,_,_,rfl,t1,eq1,P6,wG,fun j hj=>absurd hj (Nat.not_lt_zero _)⟩ ?_ ?_⟩
 ·clear eq1 t1 v1 NB s1 wG P6
  rintro i σ H3 hi ⟨q,ns,v4,v5,v6,rfl,s3,eq,zw,hb,Pz⟩
  have uk:i≤N:=by omega
  refine⟨_,rfl,_,_,rfl,rfl,_,rfl,?_⟩
  refine zD (ι:=St) (κ:=Hp) (C:=fun σ H'=>∃(q:Addr) (ns:List Int),σ=[some (.ref p),some (.ref c),some (.int m),some (.ref q),some (.int (-1+(i:Int))),v5,v6]∧aq H H'∧H' q=some (.lst (zV ns))∧ns.length=N∧Sz 21 ns∧(1≤i→ns=e1 m (i-1))) (G:=?G) (fun rest=>?ja) ?jk
  case ja =>
   by_cases NC:-1+(i:Int) ≥ 0
   rotate_left
   ·refine mF NC ?_
    dsimp only [Df,aP]
    generalize hσ:List.set _ 4 _=σx
    generalize hH:H3=Hx
    exact rest σx Hx ⟨q,ns,hσ.symm,hH▸s3,hH▸eq,zw,hb,fun z=>absurd z (by omega)⟩
   ·refine q9 NC ?_
    refine⟨_,rfl,_,_,rfl,rfl,HF m6,?_⟩
    dsimp only
    rw[fZ,←hN]
    refine⟨(N:Int),rfl,by omega,by omega,?_⟩
    rw[Int.toNat_natCast]
    refine pJ (fun j=>.int (if j=i-1 then 1 else 0)) (by omega) ?_ ?_
    ·intro j H' Q' hj s' q'
     rw[Int.zero_add]
     refine⟨_,rfl,_,rfl,rfl,.inr ⟨_,rfl,?_⟩⟩
     have e:decide (V.int (j:Int)=V.int (-1+(i:Int)))=decide (j=i-1):=by
      by_cases z:j=i-1
      ·rw[decide_eq_true z,decide_eq_true (by congr 1;omega)]
      ·rw[decide_eq_false z,decide_eq_false (fun y=>z (by injection y with y;omega))]
     rw[e]
     have:=q' H' (.refl H')
     by_cases z:j=i-1
     ·rw[if_pos z] at this;rw[decide_eq_true z];exact this
     ·rw[if_neg z] at this;rw[decide_eq_false z];exact this
    intro q2 H4 s4 Kp eq2
    dsimp only [aP]
    generalize hσ:List.set _ 3 _=σx
    refine rest σx H4 ⟨q2,e1 m (i-1),hσ.symm,s3.trans s4,?_,by rw[nU,hN],?_,fun _=>rfl⟩
    ·rw[eq2,hN]
     unfold e1
     rw[zV,List.map_map]
     congr 2
    ·intro n hn
     unfold e1 at hn
     obtain⟨j,_,rfl⟩:=List.mem_map.mp hn
     show Int.natAbs (if j=i-1 then 1 else 0)<2^21
     split<;>decide
  case jk =>
  clear hb zw eq s3
  rintro σ H4 ⟨q,ns,rfl,s4,eq,P7,hb,RA⟩
  have zw:ns.length=2^m:=by rw[P7,hN]
  refine⟨_,rfl,q,_,rfl,.inl (.of eq),fun q5 nq5=>?_⟩
  have v5':=aq.new (o:=.lst (zV ns)) nq5
  have eq5:upd H4 q5 (.lst (zV ns)) q5=some (.lst (zV ns)):=aj
  have eqq:=v5' _ _ eq
  have t5:=s4.trans v5'
  dsimp only [aP]
  generalize upd H4 q5 (.lst (zV ns))=H5 at eq5 eqq t5 ⊢
  refine⟨_,rfl,c,rfl,⟨_,t5.seq hC⟩,iD (K:=K) (a:=c) (xs:=rV as) (fun j σ H'=>∃(q5:Addr) (v6:Option V),σ=[some (.ref p),some (.ref c),some (.int m),some (.ref q),some (.int (-1+(i:Int))),some (.ref q5),v6]∧aq H5 H'∧H' q5=some (.lst (zV (lu (rs.take j) ns)))) ⟨q5,_,rfl,.refl H5,by rw[List.take_zero,IS];exact eq5⟩ (fun j σ H' _ ⟨_,_,_,s',_⟩=>(t5.trans s').seq hC) ?_ ?_⟩
  ·rintro j x σ H6 hj ⟨q5,v6,rfl,s6,eq5⟩
   obtain⟨b,jt,rfl⟩:=dR hj
   obtain⟨r,n6,er,fg⟩:=hR.g j b jt
   have VH:j<rs.length:=(List.getElem?_eq_some_iff.mp n6).1
   have t6:=t5.trans s6
   have er6:=t6 _ _ er
   have okt:∀t∈rs.take j,t.ok m:=fun t ht=>hF.c.ok t (List.mem_of_mem_take ht)
   have C5:(lu (rs.take j) ns).length=2^m:=by rw[i4,zw]
   have hxs:Sz 30 (lu (rs.take j) ns):=Kq (by rw[length_take];omega) (Ft okt zw hb)
   have enx:lu (rs.take (j+1)) ns=kS 1 (lu (rs.take j) ns) (lay r (lu (rs.take j) ns)):=by
    rw[take_add_one,n6];exact AS _ _ _
   generalize lu (rs.take j) ns=xs at C5 hxs enx eq5
   refine⟨_,rfl,_,rfl,_,rfl,q5,b,xs,m,r,rfl,.of eq5,dt er6,C5,m6,hxs.small (by decide),fg,fun q6 H7 s7 nq6 Ko=>?_⟩
   refine⟨q5,q6,_,_,rfl,.of (s7 _ _ eq5),.of Ko,pN (fun z=>.int (cz xs z+cz (lay r xs) z)) (.of (s7 _ _ eq5)) (.of Ko) (by rw[length_map,length_map,ax]) (by rw[length_map,C5];omega) ?_ ?_⟩
   ·intro z x y H' Q' hx hy s' q'
    obtain⟨n,hn,rfl⟩:=gD hx
    obtain⟨n',xV,rfl⟩:=gD hy
    have:=q' H' (.refl H')
    rw[eP hn,eP xV] at this
    exact⟨_,rfl,_,rfl,_,_,rfl,rfl,this⟩
   intro q7 H8 s8 nq7 eq7
   refine⟨q7,_,rfl,(s6.trans s7).trans s8,?_⟩
   rw[eq7,length_map,enx,kS,zV,List.map_map]
   congr 2
   refine map_congr_left fun z _=>?_
   show V.int (cz xs z+cz (lay r xs) z)=V.int (cz xs z+1*cz (lay r xs) z)
   rw[Int.one_mul]
  ·rintro σ H6 ⟨q5,v6,rfl,s6,eq5⟩
   rw[rV,length_map,hR.l,take_length] at eq5
   have t6:=t5.trans s6
   have C5:(lu rs ns).length=2^m:=by rw[i4,zw]
   refine⟨_,rfl,q5,rfl,⟨_,.of eq5⟩,nD (K:=K) (a:=q5) (xs:=zV (lu rs ns)) (fun v=>V.bl (!decide (v = .int 0))) (.of eq5) (by rw[length_map,C5];omega) ?_ ?_⟩
   ·intro z x H' Q' hx s' q'
    obtain⟨n,hn,rfl⟩:=gD hx
    exact⟨_,rfl,rfl,q' H' (.refl H')⟩
   intro q6 H7 s7 nq6 Ko
   refine⟨q6,_,rfl,.of Ko,?_,_,rfl,?_⟩
   ·rw[List.all_map,all_eq_true];intro _ _;rfl
   have t7:=t6.trans s7
   have P8:=nI (lu rs ns)
   by_cases h0:cg (lu rs ns)
   ·refine lQ (P8.mpr h0) ?_
    refine⟨_,rfl,k q5 (lu rs ns) H7 t7 (s7 _ _ eq5) ⟨C5,h0,Kq (by omega) (Ft (fun t ht=>hF.c.ok t ht) zw hb)⟩ (Fm hF.c zw)⟩
   ·refine bV (by cases hh:(((zV (lu rs ns)).map fun v=>V.bl (!decide (v = .int 0))).any tM) with
     | false=>rfl
     | true=>exact absurd (P8.mp hh) h0) ?_
    refine⟨q,ns,_,_,_,rfl,t7,s7 _ _ (s6 _ _ eqq),P7,hb,fun j hj=>?_⟩
    rcases Nat.lt_or_ge (j+1) i with z|z
    ·exact Pz j z
    ·have e:j=i-1:=by omega
     rw[e,←RA (by omega)]
     exact h0
 ·rintro σ H3 ⟨q,ns,v4,v5,v6,rfl,s3,eq,zw,hb,Pz⟩
  obtain⟨j,hj,hs⟩:=Fs m6 hF
  exact absurd hs (Pz j (by omega))
def Bc (nM:Addr):Sp:=fun vs H Q _=>∃(e a b:Addr),vs=[.ref e,.ref a,.ref b]∧H e=some (ju e (.ref nM))∧∀d,H d=none→d≠e→Q .cH (upd (upd H e (ju e (.ref nM) (some d))) d (.xd [("one",.ref a),("other",.ref b)]))
abbrev kM (rs:List Rw) (t:Rw):Key:=.inl ((qo rs t:Nat):Int)
structure gQ (H:Hp) (rs ts:List Rw) (aB:List (Key×V)):Prop where
 nd:(aB.map (·.1)).Nodup
 of:∀k v,dc aB k=some v→∃(u:Rw) (b:Addr),k=kM rs u∧v = .ref b∧H b=some (.tup u.vals)∧u∈ts
 to:∀t∈ts,∃(u:Rw) (b:Addr),dc aB (kM rs t)=some (.ref b)∧H b=some (.tup u.vals)∧u∈ts∧qo rs u=qo rs t∧eW u≤eW t∧∃k,Is rs (bx u t) k
 ln:aB.length≤ts.length
theorem Bd {rs:List Rw}{u:Rw}(hx:u.x=0) (hz:u.z=0):Is rs u 0:=⟨Nat.two_pow_pos _,by rw[uQ,hx];rfl,by rw[uQ,hz];rfl⟩
theorem Jm {rs:List Rw}(t:Rw):Is rs (bx t t) 0:=Bd (Nat.xor_self _) (Nat.xor_self _)
theorem MK {m:Nat}{rs:List Rw}(c:Cm m rs) {a b t:Rw}{j k:Nat}(ha:Is rs a j) (hb:Is rs b k) (hx:t.x=a.x^^^b.x) (hz:t.z=a.z^^^b.z):Is rs t (j^^^k):=by
 refine⟨Nat.xor_lt_two_pow ha.1 hb.1,?_,?_⟩
 ·rw[uv c,hx,←ha.2.1,←hb.2.1];rfl
 ·rw[uv c,hz,←ha.2.2,←hb.2.2];rfl
theorem FW {a b:Rw}(h:a.vals=b.vals):a=b:=by
 obtain⟨s,x,z⟩:=a
 obtain⟨s',x',z'⟩:=b
 unfold Rw.vals at h
 simp only[List.cons.injEq,V.int.injEq,Int.natCast_inj] at h
 obtain⟨rfl,rfl,rfl,_⟩:=h
 rfl
theorem ML {rs:List Rw}{t u:Rw}(h:kM rs t=kM rs u):qo rs t=qo rs u:=by
 have:((qo rs t:Nat):Int)=((qo rs u:Nat):Int):=Sum.inl.inj h
 omega
theorem gQ.nil {H:Hp}{rs:List Rw}:gQ H rs [] []:=⟨List.nodup_nil,fun k v h=>(nomatch h),fun t h=>(nomatch h),Nat.le_refl 0⟩
theorem gQ.same {H H':Hp}{rs ts:List Rw}{aB:List (Key×V)}(h:gQ H rs ts aB) (s:∀b (u:Rw),H b=some (.tup u.vals)→H' b=some (.tup u.vals)):gQ H' rs ts aB :=
 ⟨h.nd,fun k v hv=>by obtain⟨u,b,h1,h2,h3,h4⟩:=h.of k v hv;exact⟨u,b,h1,h2,s _ _ h3,h4⟩,fun t ht=>by obtain⟨u,b,h1,h2,h3⟩:=h.to t ht;exact⟨u,b,h1,s _ _ h2,h3⟩,h.ln⟩
theorem gQ.perm {H:Hp}{rs ts us:List Rw}{aB:List (Key×V)}(h:gQ H rs ts aB) (p:ts.Perm us):gQ H rs us aB :=
 ⟨h.nd,fun k v hv=>by obtain⟨u,b,h1,h2,h3,h4⟩:=h.of k v hv;exact⟨u,b,h1,h2,h3,p.mem_iff.mp h4⟩,fun t ht=>by obtain⟨u,b,h1,h2,h3,h4⟩:=h.to t (p.mem_iff.mpr ht);exact⟨u,b,h1,h2,p.mem_iff.mp h3,h4⟩,by rw[←p.length_eq];exact h.ln⟩
theorem gQ.new {H:Hp}{rs ts:List Rw}{aB:List (Key×V)}(h:gQ H rs ts aB) {t:Rw}{b:Addr}(hv:dc aB (kM rs t)=none) (hb:H b=some (.tup t.vals)):gQ H rs (ts++[t]) (putK aB (kM rs t) (.ref b)):=by
 refine⟨IQ _ h.nd hv,fun k v hk=>?_,fun t' LP=>?_,?_⟩
 ·rw[pZ] at hk
  split at hk
  ·rename_i e
   cases hk
   exact⟨t,b,e,rfl,hb,mem_append_right _ (mem_singleton.mpr rfl)⟩
  ·obtain⟨u,c,h1,h2,h3,h4⟩:=h.of k v hk
   exact⟨u,c,h1,h2,h3,mem_append_left _ h4⟩
 ·rcases mem_append.mp LP with z|z
  ·obtain⟨u,c,h1,h2,h3,h4⟩:=h.to t' z
   refine⟨u,c,?_,h2,mem_append_left _ h3,h4⟩
   rw[pZ,if_neg (fun e=>by rw[e,hv] at h1;cases h1)]
   exact h1
  ·rw[mem_singleton.mp z]
   exact⟨t,b,by rw[pZ,if_pos rfl],hb,mem_append_right _ (mem_singleton.mpr rfl),rfl,Nat.le_refl _,0,Jm t⟩
 ·have:=jU aB (kM rs t) (.ref b)
  have:=h.ln
  rw[length_append];show _≤_+1;omega
theorem gQ.old {H:Hp}{rs ts:List Rw}{aB:List (Key×V)}(h:gQ H rs ts aB) {t u:Rw}{b:Addr}(hv:dc aB (kM rs t)=some (.ref b)) (hb:H b=some (.tup u.vals)) (hu:u∈ts) (hm:qo rs u=qo rs t) (hl:eW u≤eW t) (hI:∃k,Is rs (bx u t) k):gQ H rs (ts++[t]) aB:=by
 refine⟨h.nd,fun k v hk=>?_,fun t' LP=>?_,by rw[length_append];exact Nat.le_trans h.ln (Nat.le_add_right _ _)⟩
 ·obtain⟨u,c,h1,h2,h3,h4⟩:=h.of k v hk
  exact⟨u,c,h1,h2,h3,mem_append_left _ h4⟩
 ·rcases mem_append.mp LP with z|z
  ·obtain⟨u,c,h1,h2,h3,h4⟩:=h.to t' z
   exact⟨u,c,h1,h2,mem_append_left _ h3,h4⟩
  ·rw[mem_singleton.mp z]
   exact⟨u,b,hv,hb,mem_append_left _ hu,hm,hl,hI⟩
def Mnd (m:Nat) (n:Int) (rs:List Rw):Prop:=∀t∈i3 n m,∀u∈i3 n m,qo rs t=qo rs u→∃k,Is rs (bx t u) k
theorem gQ.mnd {H:Hp}{m:Nat}{rs ts:List Rw}{aB:List (Key×V)}(h:gQ H rs ts aB) (c:Cm m rs):∀t∈ts,∀u∈ts,qo rs t=qo rs u→∃k,Is rs (bx t u) k:=by
 intro t ht u hu e
 obtain⟨a,b,h1,h2,_,_,_,j,h3⟩:=h.to t ht
 obtain⟨a',b',RF,Lj,_,_,_,k,h3'⟩:=h.to u hu
 have ek:kM rs t=kM rs u:=by show (Sum.inl ((qo rs t:Nat):Int):Key)=_;rw[e]
 rw[ek,RF] at h1
 cases h1
 rw[Lj] at h2
 have ea:a'=a:=FW (HO.tup.inj (Option.some.inj h2))
 subst ea
 refine⟨j^^^k,MK c h3 h3' ?_ ?_⟩
 ·show t.x^^^u.x=(a'.x^^^t.x)^^^(a'.x^^^u.x)
  rw[Nat.xor_comm a'.x t.x,Nat.xor_assoc,←Nat.xor_assoc a'.x,Nat.xor_self,Nat.zero_xor]
 ·show t.z^^^u.z=(a'.z^^^t.z)^^^(a'.z^^^u.z)
  rw[Nat.xor_comm a'.z t.z,Nat.xor_assoc,←Nat.xor_assoc a'.z,Nat.xor_self,Nat.zero_xor]
def EM (nM:Addr) (m:Nat) (n:Int) (rs:List Rw) (H:Hp) (E:XK):Prop:=∀(a b d:Addr) (t u:Rw) H',aq H H'→H d=none→H' d=some (.xd [("one",.ref a),("other",.ref b)])→H' a=some (.tup t.vals)→H' b=some (.tup u.vals)→t∈i3 n m→u∈i3 n m→qo rs t=qo rs u→(∀k,¬Is rs (bx t u) k)→E (.ref nM) (some d) H'
def sY (C nM:Addr):Sp:=fun vs H Q E=>∃(x:Addr) (rs ds:List Rw) (m:Nat) (n:Int),vs=[.ref x,.int n]∧Jf H C x m rs∧1≤m∧m≤6∧rs.length≤6∧Fr m rs ds ∧
 (∀p aB H',aq H H'→H p=none→H' p=some (.dK aB)→gQ H' rs (i3 n m) aB→Q (.ref p) H')∧EM nM m n rs H E
theorem FX {H:Hp}{m:Nat}{bs:List Addr}{rs:List Rw}{p:Addr}{aB VI:List (Key×V)}(h:cX H m bs rs) (e:H p=some (.dK aB)):cX (upd H p (.dK VI)) m bs rs:=⟨h.l,fun i a ea=>by
 obtain⟨r,h1,h2,h3⟩:=h.g i a ea
 exact⟨r,h1,by rw[aA (fun z=>by rw[z,e] at h2;cases h2)];exact h2,h3⟩⟩
variable {nM:Addr}{cE:Addr}
/- CantMend.__init__: 0:self 1:one 2:other -/
abbrev dz:Stmt:=wM (top 7) 0
theorem xu:aw Z21 Z21 (ae dz):=eX
theorem Jn (T:eK mg) (GB:yG K mg "CoinError" cE) (BB:L8 K cE) (P9:bz K nM "one") (Qa:bz K nM "other") (D:yT K nM "CantMend.__init__" dz Z21):Iy P w K mg base 1 nM (Bc nM):=by
 have fl:=D.fl
 refine D.ok xu (fun vs H Q E h=>?_) (fun f aR A outer s H vs Q E hq hr h=>?_)
 ·obtain⟨e,a,b,rfl,_⟩:=h;rfl
 obtain⟨e,a,b,rfl,he,k⟩:=h
 refine⟨_,ai (fH (EW rfl GB.m BB hq (aa (pv 0) (aa (pv 1) (aa (pv 2) ah))))) (ai (AL (pv 0) (pv 1)) (ao (AL (pv 0) (pv 2)))),?_⟩
 refine⟨_,rfl,_,rfl,_,rfl,e,none,_,rfl,he,aH (by show 2≤1000;decide),?_⟩
 refine⟨_,rfl,_,rfl,e,nM,rfl,fl,P9,.inl ⟨he,fun d nd Kc=>?_⟩⟩
 refine⟨_,rfl,_,rfl,e,nM,rfl,fl,Qa,.inr ⟨d,[("one",.ref a)],?_,aj,by show 1<1000;decide,?_⟩⟩
 ·rw[aA (Ne.symm Kc),aj]
 ·rw[GC]
  exact k d nd Kc
/- Code.table: 0:self 1:many 2:mending 3:turn 4:seen -/
abbrev dJ:Stmt:=wM (top 44) 4
theorem fL:aw ["self","many","mending","turn","seen"] ["self","many"] (ae dJ):=eX
theorem Cr (T:eK mg) (GF:yG K mg "CantMend" nM) (CF:Iy P w K mg base 1 nM (Bc nM)) (N1:bz K C "coins") (D:p8 K C "table" "Code.table" dJ ["self","many"]) (rD:bh P w K mg base aS 5 "turns_up_to" Z31 xn) (uT:wO P w K mg base 3 C "marks" (qp K C)) (rE:wO P w K mg base 7 C "is_harmless" (A8 C)) (nY:bh P w K mg base aS 2 "product" Z00 (gJ K)):AQ P w K mg base 8 C "table" (sY C nM):=by
 have cl:=D.c
 refine D.T7 fL (fun vs H Q E h=>?_) (fun f aR A outer s H vs Q E hr h R=>?_)
 ·obtain⟨x,rs,ds,m,n,rfl,_⟩:=h;rfl
 obtain⟨x,rs,ds,m,n,rfl,hc,m1,m6,hl,hF,kR,k⟩:=h
 obtain⟨dx,l,as,ex,el,hR⟩:=hc.ex
 have lb:=fQ
 refine⟨_,(ai (az (i:=2) fL.nd rfl (Or.inl rfl) wN)
   (ai (cy PassesOwn.leaving rfl (bQ K (ay rD hr.sub (aa (uB K (pv 0)) (aa (pv 1) ah)))) (aK (i:=3) fL.nd rfl (Or.inl rfl))
    (ai (az (i:=4) fL.nd rfl (Or.inl rfl) (uA uT hr.sub (pv 0) (aa (pv 3) ah)))
    (ao (bJ (aE (qb hr.nE) (pv 4) (pv 2) rfl)
     (ao (pe (pv 3) (yc (pv 2) (pv 4) (Mr hr.nE))))
     (ao (bJ (iN (fY (uA rE hr.sub (pv 0) (aa (ay nY hr.sub (aa (aC (Fi hr.nE) (pv 2) (pv 4) (fun _ _=>rfl)) (aa (pv 3) ah))) ah))))
      (ao (B5 rfl rfl rfl GF.m CF hr.sub R (aa (aC (Fi hr.nE) (pv 2) (pv 4) (fun _ _=>rfl)) (aa (pv 3) ah))))
      aJ))))))
   (ao (aD (pv 2))))),?_⟩
 refine fun p np=>?_
 dsimp only [aP]
 have s1:=aq.new (o:=.dK []) np
 have ep:upd H p (.dK []) p=some (.dK []):=aj
 generalize upd H p (.dK [])=H1 at s1 ep ⊢
 refine⟨_,rfl,x,C,dx,_,.int m,rfl,s1 _ _ ex,cl,N1,rfl,_,rfl,m,n,rfl,m1,m6,fun q ts us H2 s2 nq eq hU hp hs=>?_⟩
 have l4:=o5 n m
 have p4:4^m≤4^6:=Nat.pow_le_pow_right (by decide) m6
 have p4':(4:Nat)^6=4096:=by decide
 have hul:us.length≤4096:=by rw[hp.length_eq];omega
 refine⟨q,rfl,⟨_,.of eq⟩,iD (K:=K) (a:=q) (xs:=rV ts) (fun i σ H'=>∃(aB:List (Key×V)) (v3 v4:Option V),σ=[some (.ref x),some (.int n),some (.ref p),v3,v4]∧aq H H'∧H' q=some (.lst (rV ts))∧cX H' m ts us∧H' p=some (.dK aB)∧gQ H' rs (us.take i) aB) ⟨[],_,_,rfl,s1.trans s2,eq,hU,s2 _ _ ep,.nil⟩ (fun i σ H' _ ⟨_,_,_,_,_,h,_⟩=>.of h) ?_ ?_⟩
 ·rintro i y σ H3 hi ⟨aB,v3,v4,rfl,s3,eq3,R3,VJ,hT⟩
  obtain⟨b,hb,rfl⟩:=dR hi
  obtain⟨r,n6,er,fg⟩:=R3.g i b hb
  have etk:us.take (i+1)=us.take i++[r]:=by rw[take_add_one,n6];rfl
  have VL:r∈i3 n m:=hp.mem_iff.mp (mem_of_getElem? n6)
  have hkl:aB.length≤4096:=Nat.le_trans hT.ln (by rw[length_take];omega)
  refine⟨_,rfl,x,dx,_,rfl,s3 _ _ ex,rfl,_,rfl,x,b,rs,r,m,rfl,hc.same s3,dt er,fg,m6,hl,fun H4 s4=>?_⟩
  dsimp only [aP]
  have t4:=s3.trans s4
  have eq4:=s4 _ _ eq3
  have R4:=R3.same s4
  have Kr:=s4 _ _ VJ
  have VM:=hT.same (H':=H4) fun b u h=>s4 _ _ h
  have VN:=s4 _ _ er
  refine⟨_,rfl,_,rfl,p,aB,kM rs r,rfl,rfl,Kr,_,rfl,?_⟩
  cases hv:dc aB (kM rs r) with
  | none =>
   refine qY ?_
   refine⟨_,rfl,_,rfl,_,rfl,p,aB,kM rs r,rfl,rfl,Kr,by omega,?_⟩
   have kt:∀(c:Addr) (u:Rw),H4 c=some (.tup u.vals)→upd H4 p (.dK (putK aB (kM rs r) (.ref b))) c=some (.tup u.vals):=fun c u h=>by rw[aA (fun z=>by rw[z,Kr] at h;cases h)];exact h
   refine⟨putK aB (kM rs r) (.ref b),_,_,rfl,t4.upd np,by rw[aA (fun z=>by rw[z,Kr] at eq4;cases eq4)];exact eq4,FX R4 Kr,aj,?_⟩
   rw[etk]
   exact(VM.new hv VN).same kt
  | some v =>
   refine js ?_
   obtain⟨u,c,hk,rfl,ec,hu⟩:=VM.of _ _ hv
   have hm:qo rs u=qo rs r:=(ML hk).symm
   obtain⟨j,hj,hju⟩:=List.mem_take_iff_getElem.mp hu
   have VH:j<us.length:=by omega
   have huj:us[j]?=some u:=by rw[getElem?_eq_getElem VH,hju]
   have Sl:u∈i3 n m:=hp.mem_iff.mp (mem_of_getElem? huj)
   have Cg:u.ok m:=⟨.inl ((fJ _ m m6 u).mp Sl).1.1,((fJ _ m m6 u).mp Sl).1.2.1,((fJ _ m m6 u).mp Sl).1.2.2⟩
   have Vd:eW u≤eW r:=by
    obtain⟨y2,z2⟩:=List.getElem?_eq_some_iff.mp n6
    have:=List.pairwise_iff_getElem.mp hs j i VH y2 (by omega)
    rw[hju,z2] at this
    exact this
   refine⟨_,rfl,x,dx,_,rfl,t4 _ _ ex,rfl,_,rfl,_,rfl,p,aB,kM rs r,.ref c,rfl,rfl,Kr,hv,_,rfl,c,b,u,r,m,rfl,dt ec,dt VN,m6,Cg,fg,fun g H5 s5 ng eg=>?_⟩
   have t5:=t4.trans s5
   refine⟨x,g,rs,ds,bx u r,m,rfl,hc.same t5,eg,nJ Cg fg,m6,hl,hF,fun hn H6 s6=>⟨_,rfl,js ?_⟩,fun hn H6 s6=>⟨_,rfl,qY ?_⟩⟩
   ·have GA:=s5.trans s6
    refine⟨aB,_,_,rfl,t4.trans GA,GA _ _ eq4,R4.same GA,GA _ _ Kr,?_⟩
    rw[etk]
    exact((VM.old hv ec hu hm Vd hn).same fun b u h=>GA _ _ h)
   ·have GA:=s5.trans s6
    have t6:=t4.trans GA
    refine⟨_,rfl,_,rfl,p,aB,kM rs r,.ref c,rfl,rfl,GA _ _ Kr,hv,_,rfl,aH (by show 2≤1000;decide),fun e ne=>⟨e,c,b,rfl,aj,fun d nd Kc=>?_⟩⟩
    obtain⟨f1,f2,f3,f4⟩:=Pf (o2:=ju e (.ref nM) (some d)) (o3:=.xd [("one",.ref c),("other",.ref b)]) (aq.refl H6) ne nd Kc
    exact⟨rfl,some d,f1,k c b d u r _ (t6.trans f2) (t6.free f3) f4 (f2 _ _ (GA _ _ ec)) (f2 _ _ (GA _ _ VN)) Sl VL hm hn⟩
 ·rintro σ H3 ⟨aB,v3,v4,rfl,s3,eq3,R3,VJ,hT⟩
  rw[rV,length_map,hU.l,take_length] at hT
  exact⟨_,rfl,kR p aB H3 s3 np VJ (hT.perm hp)⟩
def xv (K:Frag):Sp:=fun vs H Q _=>∃(g:Addr) (r:Rw) (m:Nat),vs=[.ref g,.int m]∧eV K H g r.vals∧m≤6∧r.ok m∧lG r=true∧∀H',aq H H'→Q .cH H'
def FY (K:Frag):Sp:=fun vs H Q _=>∃(a g:Addr) (xs:List Int) (r:Rw) (m k:Nat),vs=[.ref a,.ref g]∧bP K H a (zV xs)∧eV K H g r.vals∧1≤m∧m≤6∧BN m k xs∧r.ok m∧lG r=true∧∀H',aq H H'→Q .cH H'
def Be:Sp:=fun vs H Q _=>∃t b:Nat,vs=[.int t,.int b]∧0<b∧b<2^4000∧∀q H',aq H H'→H q=none→H' q=some (.tup (fr t b))→Q (.ref q) H'
def uU:Sp:=fun vs H Q _=>∃t:Nat,vs=[.int t]∧t<2∧∀H',aq H H'→Q (.int (sgn t)) H'
def FZ (K:Frag):Sp:=fun vs H Q _=>∃(a b:Addr) (xs ys:List Int) (k:Nat),vs=[.ref a,.ref b]∧bP K H a (zV xs)∧bP K H b (zV ys)∧xs.length=ys.length∧xs.length≤64∧Sz k xs∧Sz k ys∧k≤900∧∀H',aq H H'→Q (.int (dot xs ys)) H'
def xw (K:Frag):Sp:=fun vs H Q _=>∃(a b:Addr) (xs:List Int) (r:Rw) (m k t:Nat),vs=[.ref a,.ref b,.int t]∧bP K H a (zV xs)∧bP K H b (zV (lay r xs))∧m≤6∧BN m k xs∧k≤900∧r.ok m∧t<2∧∀q H',aq H H'→H q=none→H' q=some (.tup (fr (tp (sgn t) xs r).toNat (2*dot xs xs).toNat))→Q (.ref q) H'
def Bf (K:Frag):Sp:=fun vs H Q _=>∃(a b:Addr) (xs:List Int) (r:Rw) (m k t:Nat),vs=[.ref a,.ref b,.int t]∧bP K H a (zV xs)∧bP K H b (zV (lay r xs))∧1≤m∧m≤6∧BN m k xs∧k≤900∧r.ok m∧t<2∧tp (sgn t) xs r≠0∧∀q H',aq H H'→H q=none→H' q=some (.lst (zV (bhd t xs r)))→Q (.ref q) H'
def ND (K:Frag):Sp:=fun vs H Q _=>∃(a g:Addr) (xs:List Int) (r:Rw) (m k:Nat),vs=[.ref a,.ref g]∧bP K H a (zV xs)∧eV K H g r.vals∧1≤m∧m≤6∧BN m k xs∧k≤900∧r.ok m∧lG r=true∧∀q H',aq H H'→H q=none→H' q=some (.tup (fr (tp 1 xs r).toNat (2*dot xs xs).toNat))→Q (.ref q) H'
def sZ (K:Frag):Sp:=fun vs H Q _=>∃(a g:Addr) (xs:List Int) (r:Rw) (m k w:Nat),vs=[.ref a,.ref g,.int w]∧bP K H a (zV xs)∧eV K H g r.vals∧1≤m∧m≤6∧BN m k xs∧k≤900∧r.ok m∧lG r=true∧w<2 ∧
 ∀q c L H',aq H H'→H q=none→H c=none→H L=none→H' q=some (.tup [.int (wD w xs r:Nat),.ref c,.ref L])→H' c=some (.tup (fr (tp (sgn (wD w xs r)) xs r).toNat (2*dot xs xs).toNat))→H' L=some (.lst (zV (bhd (wD w xs r) xs r)))→Q (.ref q) H'
/- check_look: 0:row 1:coins -/
abbrev dM:Stmt:=top 46
theorem rF:aw Z13 Z13 (ae dM):=eX
theorem F0 (T:eK mg) (D:Def K mg "check_look" dM Z13) (qq:bh P w K mg base aS 1 "is_row" Z13 (uJ K)) (n5:bh P w K mg base aS 2 "is_even" Z24 (uI K)):bh P w K mg base aS 3 "check_look" Z13 (xv K):=by
 refine D.ok rF (fun vs H Q E h=>?_) (fun f aR A outer s H vs Q E hr h=>?_)
 ·obtain⟨g,r,m,rfl,_⟩:=h;rfl
 obtain⟨g,r,m,rfl,hG,hm,eF,he,k⟩:=h
 refine⟨_,(ao (bJ (PW.pt (pw_or (iN (fY (ay qq hr.sub (aa (pv 0) (aa (pv 1) ah))))) (pw_or1 (iN (fY (ay n5 hr.sub (aa (pv 0) ah)))))))
    (ao eG)
    aJ)),?_⟩
 refine⟨_,rfl,_,rfl,g,r,m,rfl,hG,hm,eF,fun H1 s1=>⟨_,rfl,js ?_⟩⟩
 refine⟨_,rfl,g,r,m,rfl,s1.tup hG,hm,eF.x,eF.z,fun H2 s2=>⟨_,rfl,bV (by rw[he];rfl) ?_⟩⟩
 exact k H2 (s1.trans s2)
/- check_list_and_look: 0:numbers 1:row -/
abbrev aZ:Stmt:=top 47
theorem jg:aw Z11 Z11 (ae aZ):=eX
theorem MM (T:eK mg) (D:Def K mg "check_list_and_look" aZ Z11) (i6:bh P w K mg base aS 1 "check_list" Z03 (qc K)) (zE:bh P w K mg base aS 1 "coins_of" Z03 (qe K)) (uV:bh P w K mg base aS 3 "check_look" Z13 (xv K)) :
  bh P w K mg base aS 4 "check_list_and_look" Z11 (FY K):=by
 refine D.ok jg (fun vs H Q E h=>?_) (fun f aR A outer s H vs Q E hr h=>?_)
 ·obtain⟨a,g,xs,r,m,k,rfl,_⟩:=h;rfl
 obtain⟨a,g,xs,r,m,kk,rfl,hS,hG,m1,m6,hF,eF,he,k⟩:=h
 refine⟨_,(ai (fH (ay i6 hr.sub (aa (pv 0) ah)))
   (ao (fH (ay uV hr.sub (aa (pv 1) (aa (ay zE hr.sub (aa (pv 0) ah)) ah)))))),?_⟩
 refine⟨_,rfl,a,xs,rfl,hS,hF.ok m1 m6,hF.s,fun H1 s1=>?_⟩
 refine⟨_,rfl,_,rfl,a,xs,m,rfl,s1.seq hS,hF.l,m6,fun H2 s2=>?_⟩
 have u:=s1.trans s2
 exact⟨g,r,m,rfl,u.tup hG,m6,eF,he,fun H3 s3=>k H3 (u.trans s3)⟩
/- fraction: 0:top 1:bottom 2:divisor -/
abbrev fu:Stmt:=top 48
theorem oC:aw ["top","bottom","divisor"] Z32 (ae fu):=eX
theorem Jo (T:eK mg) (D:Def K mg "fraction" fu Z32) (d9:bh P w K mg base aS 1 "greatest_divisor" Z00 zh):bh P w K mg base aS 2 "fraction" Z32 Be:=by
 refine D.ok oC (fun vs H Q E h=>?_) (fun f aR A outer s H vs Q E hr h=>?_)
 ·obtain⟨t,b,rfl,_⟩:=h;rfl
 obtain⟨t,b,rfl,hb,hB,k⟩:=h
 refine⟨_,(ai (az (i:=2) oC.nd rfl (Or.inl rfl) (ay d9 hr.sub (aa (pv 0) (aa (pv 1) ah))))
   (ao (aD (aU (aa (ak bK (pv 0) (pv 2)) (aa (ak bK (pv 1) (pv 2)) ah)))))),?_⟩
 refine⟨_,rfl,_,rfl,t,b,rfl,fun H1 s1=>?_⟩
 have g0:0<Nat.gcd t b:=Nat.gcd_pos_of_pos_right _ hb
 have g1:Nat.gcd t b<2^4000:=Nat.lt_of_le_of_lt (Nat.gcd_le_right _ hb) hB
 have cd:∀x:Int,wj x ((Nat.gcd t b:Nat):Int):=fun x=>⟨by omega,by rw[Int.natAbs_natCast];exact g1⟩
 refine⟨_,rfl,_,rfl,_,_,rfl,rfl,cd _,_,rfl,_,rfl,_,_,rfl,rfl,cd _,aH (by show 2≤1000;decide),fun q hq=>?_⟩
 refine k q _ (s1.trans (aq.new hq)) (s1.free hq) ?_
 rw[aj]
 show some (HO.tup [V.int ((t:Int).fdiv ((Nat.gcd t b:Nat):Int)),V.int ((b:Int).fdiv ((Nat.gcd t b:Nat):Int))])=_
 rw[J0 _ _ g0,J0 _ _ g0];rfl
/- sign_told: 0:told -/
abbrev eE:Stmt:=top 49
theorem uW:aw ["told"] ["told"] (ae eE):=eX
theorem Jp (T:eK mg) (D:Def K mg "sign_told" eE ["told"]):bh P w K mg base aS 1 "sign_told" ["told"] uU:=by
 refine D.ok uW (fun vs H Q E h=>?_) (fun f aR A outer s H vs Q E hr h=>?_)
 ·obtain⟨t,rfl,_⟩:=h;rfl
 obtain⟨t,rfl,ht,k⟩:=h
 refine⟨_,(ao (aD (jF (aE e7 (pv 0) af (aI _)) (lC jK af) af))),?_⟩
 have:=k H (.refl H)
 refine⟨_,rfl,rfl,_,rfl,?_⟩
 have LP:t=0∨t=1:=by omega
 rcases LP with rfl|rfl
 ·exact bV (by decide) this
 ·exact lQ (by decide) ⟨_,rfl,this⟩
/- sum_of_products: 0:one 1:other -/
abbrev bu:Stmt:=top 50
theorem gM:aw Z00 Z00 (ae bu):=eX
theorem MN (T:eK mg) (FP:mg "sum"=none) (xr:mg "zip"=none) (D:Def K mg "sum_of_products" bu Z00):bh P w K mg base aS 1 "sum_of_products" Z00 (FZ K):=by
 refine D.ok gM (fun vs H Q E h=>?_) (fun f aR A outer s H vs Q E hr h=>?_)
 ·obtain⟨a,b,xs,ys,k,rfl,_⟩:=h;rfl
 obtain⟨a,b,xs,ys,kk,rfl,hA,hB,hl,hle,zx,zy,hk,k⟩:=h
 refine⟨_,(ao (aD (bA (sr K) (by rfl) FP D1 (aa (nG K rfl gM.nd (RN (N:=Z00) (N':=Z00) (osc:=ae bu) (by decide +kernel)) (tT K rfl xr (aa (pv 0) (aa (pv 1) ah))) (fun _ _ _ _=>b9) (fun _ _ _ _=>(ak aQ (pv 0) (pv 1)))) ah)))),?_⟩
 refine⟨_,rfl,_,rfl,a,b,_,_,rfl,hA,hB,pN (fun p=>.int (cz xs p*cz ys p)) hA hB (by rw[length_map,length_map,hl]) (aH (by rw[length_map];omega)) ?_ ?_⟩
 ·intro i x y H' Q' hx hy s' q'
  obtain⟨n,hn,rfl⟩:=gD hx
  obtain⟨n',xV,rfl⟩:=gD hy
  have:=q' H' (.refl H')
  rw[eP hn,eP xV] at this
  have b1:n.natAbs<2^4000:=Nat.lt_of_lt_of_le (zx n (mem_of_getElem? hn)) (Nat.pow_le_pow_right (by decide) (by omega))
  have b2:n'.natAbs<2^4000:=Nat.lt_of_lt_of_le (zy n' (mem_of_getElem? xV)) (Nat.pow_le_pow_right (by decide) (by omega))
  exact⟨_,rfl,_,rfl,_,_,rfl,rfl,⟨b1,b2⟩,this⟩
 intro p H' s' hp e
 refine⟨p,(List.range xs.length).map fun p=>cz xs p*cz ys p,rfl,.of ?_,k H' s'⟩
 rw[e,length_map,zV,List.map_map];rfl
/- chance_told: 0:numbers 1:sent 2:told 3:whole -/
abbrev cZ:Stmt:=top 51
theorem jW:aw ["numbers","sent","told","whole"] Z06 (ae cZ):=eX
theorem F1 (T:eK mg) (D:Def K mg "chance_told" cZ Z06) (g9:bh P w K mg base aS 1 "sum_of_products" Z00 (FZ K)) (zF:bh P w K mg base aS 2 "fraction" Z32 Be) (jX:bh P w K mg base aS 1 "sign_told" ["told"] uU) :
  bh P w K mg base aS 3 "chance_told" Z06 (xw K):=by
 refine D.ok jW (fun vs H Q E h=>?_) (fun f aR A outer s H vs Q E hr h=>?_)
 ·obtain⟨a,b,xs,r,m,k,t,rfl,_⟩:=h;rfl
 obtain⟨a,b,xs,r,m,kk,t,rfl,hA,hB,m6,hF,hk,eF,ht,k⟩:=h
 have hle:xs.length≤64:=by rw[hF.l];exact Nat.pow_le_pow_right (n:=2) (by decide) m6
 have zl:=uh hF.z hF.l eF
 have d1:=EA hF.z hF.z hle hk
 have d2:=EA hF.z zl hle hk
 have DS:=i0 hF.s
 have Sm:=JZ m6 hF.l eF (gW t)
 have e19:(2:Nat)^1900<2^4000:=Nat.pow_lt_pow_right (by decide) (by decide)
 have e38:(2:Nat)^1900*2≤2^4000:=by rw[←Nat.pow_succ];exact Nat.pow_le_pow_right (by decide) (by decide)
 refine⟨_,(ai (az (i:=3) jW.nd rfl (Or.inl rfl) (ay g9 hr.sub (aa (pv 0) (aa (pv 0) ah))))
   (ao (aD (ay zF hr.sub (aa (ak bS (pv 3) (ak aQ (ay jX hr.sub (aa (pv 2) ah)) (ay g9 hr.sub (aa (pv 0) (aa (pv 1) ah))))) (aa (ak aQ af (pv 3)) ah)))))),?_⟩
 refine⟨_,rfl,_,rfl,a,a,xs,xs,kk,rfl,hA,hA,rfl,hle,hF.z,hF.z,hk,fun H1 s1=>?_⟩
 refine⟨_,rfl,_,rfl,t,rfl,ht,fun H2 s2=>?_⟩
 have u:=s1.trans s2
 refine⟨_,rfl,_,rfl,a,b,xs,lay r xs,kk,rfl,u.seq hA,u.seq hB,(ax r xs).symm,hle,hF.z,zl,hk,fun H3 s3=>?_⟩
 have u3:=u.trans s3
 refine⟨_,_,rfl,rfl,⟨bM (gW t),Nat.lt_trans d2 e19⟩,_,_,rfl,rfl,_,rfl,_,_,rfl,rfl,⟨big (by decide) (by decide),Nat.lt_trans d1 e19⟩,?_⟩
 refine⟨(tp (sgn t) xs r).toNat,(2*dot xs xs).toNat,?_,by omega,?_,fun q H4 s4 nq eq=>k q H4 (u3.trans s4) (u3.free nq) eq⟩
 ·show [V.int (dot xs xs+sgn t*dot xs (lay r xs)),V.int (2*dot xs xs)]++[]=_
  rw[Int.toNat_of_nonneg Sm,Int.toNat_of_nonneg (by omega)];rfl
 ·refine Nat.lt_of_lt_of_le ?_ e38
  omega
/- list_behind: 0:numbers 1:sent 2:told 3:sign -/
abbrev cC:Stmt:=top 52
theorem gN:aw Z27 Z06 (ae cC):=eX
theorem Jq (T:eK mg) (xr:mg "zip"=none) (D:Def K mg "list_behind" cC Z06) (jX:bh P w K mg base aS 1 "sign_told" ["told"] uU) (Jr:bh P w K mg base aS 3 "least" Z03 (xf K)) :
  bh P w K mg base aS 4 "list_behind" Z06 (Bf K):=by
 refine D.ok gN (fun vs H Q E h=>?_) (fun f aR A outer s H vs Q E hr h=>?_)
 ·obtain⟨a,b,xs,r,m,k,t,rfl,_⟩:=h;rfl
 obtain⟨a,b,xs,r,m,kk,t,rfl,hA,hB,m1,m6,hF,hk,eF,ht,h0,k⟩:=h
 have hle:xs.length≤64:=by rw[hF.l];exact Nat.pow_le_pow_right (n:=2) (by decide) m6
 have zl:=uh hF.z hF.l eF
 have hP:BN m (kk+1) (kS (sgn t) xs (lay r xs)):=⟨by rw[aX];exact hF.l,(HW m6 hF.l eF (gW t)).mp h0,Ew (gW t) hF.z zl (ax r xs)⟩
 refine⟨_,(ai (az (i:=3) gN.nd rfl (Or.inr rfl) (ay jX hr.sub (aa (pv 2) ah)))
   (ao (aD (ay Jr hr.sub (aa (nG K rfl gN.nd (RN (N:=Z27) (N':=Z27) (osc:=ae cC) (by decide +kernel)) (tT K rfl xr (aa (pv 0) (aa (pv 1) ah))) (fun _ _ _ _=>b9) (fun _ _ _ _=>(ak bS (pv 0) (ak aQ (pv 5) (pv 1))))) ah))))),?_⟩
 refine⟨_,rfl,t,rfl,ht,fun H1 s1=>?_⟩
 refine⟨_,rfl,_,rfl,a,b,_,_,rfl,s1.seq hA,s1.seq hB,pN (fun p=>.int (cz xs p+sgn t*cz (lay r xs) p)) (s1.seq hA) (s1.seq hB) (by rw[length_map,length_map,ax]) (aH (by rw[length_map];omega)) ?_ ?_⟩
 ·intro i x y H' Q' hx hy s' q'
  obtain⟨n,hn,rfl⟩:=gD hx
  obtain⟨n',xV,rfl⟩:=gD hy
  have:=q' H' (.refl H')
  rw[eP hn,eP xV] at this
  have b2:n'.natAbs<2^4000:=Nat.lt_of_lt_of_le (zl n' (mem_of_getElem? xV)) (Nat.pow_le_pow_right (by decide) (by omega))
  exact⟨_,rfl,_,rfl,_,rfl,_,_,rfl,rfl,⟨bM (gW t),b2⟩,_,_,rfl,rfl,this⟩
 intro p H' s' hp e
 have e':H' p=some (.lst (zV (kS (sgn t) xs (lay r xs)))):=by rw[e,length_map,kS,zV,List.map_map];rfl
 have u:=s1.trans s'
 exact⟨p,_,rfl,.of e',hP.ok m1 m6,hP.s,hP.z.small (by omega),fun q H3 s3 nq eq=>k q H3 (u.trans s3) (u.free nq) eq⟩
/- looked: 0:numbers 1:row 2:wish 3:sent 4:told -/
abbrev iK:Stmt:=top 53
theorem kY:aw ["numbers","row","wish","sent","told"] Z23 (ae iK):=eX
theorem Cs (T:eK mg) (D:D9 K mg "looked" iK Z23) (jx:bh P w K mg base aS 4 "check_list_and_look" Z11 (FY K)) (MO:bh P w K mg base aS 3 "laid" Z11 (AW K)) (lM:bh P w K mg base aS 3 "chance_told" Z06 (xw K)) (rG:bh P w K mg base aS 4 "list_behind" Z06 (Bf K)) :
  Hv P w K mg base aS 5 "looked" Z23 (sZ K):=by
 refine D.ok kY (fun vs H Q E h=>?_) (fun f aR A outer s H vs Q E hr h=>?_)
 ·obtain⟨a,g,xs,r,m,k,w,rfl,_⟩:=h;rfl
 obtain⟨a,g,xs,r,m,kk,w,rfl,hA,hG,m1,m6,hF,hk,eF,he,hw,k⟩:=h
 refine⟨_,(ai (fH (ay jx hr.sub (aa (pv 0) (aa (pv 1) ah))))
   (ai (az (i:=3) kY.nd rfl (Or.inl rfl) (ay MO hr.sub (aa (pv 0) (aa (pv 1) ah))))
   (ai (az (i:=4) kY.nd rfl (Or.inl rfl) (pv 2))
   (ai (bJ (aE e7 (aC (au K) (ay lM hr.sub (aa (pv 0) (aa (pv 3) (aa (pv 2) ah)))) af (fun _ _=>rfl)) af (aI _))
    (ao (az (i:=4) kY.nd rfl (Or.inl rfl) (ak dQ af (pv 2))))
    aJ)
   (ao (aD (aU (aa (pv 4) (aa (ay lM hr.sub (aa (pv 0) (aa (pv 3) (aa (pv 4) ah)))) (aa (ay rG hr.sub (aa (pv 0) (aa (pv 3) (aa (pv 4) ah)))) ah)))))))))),?_⟩
 refine⟨_,rfl,_,rfl,a,g,xs,r,m,kk,rfl,hA,hG,m1,m6,hF,eF,he,fun H1 s1=>?_⟩
 refine⟨_,rfl,_,rfl,a,g,xs,m,r,rfl,s1.seq hA,s1.tup hG,hF.l,m6,hF.z.small (by omega),eF,fun b H2 s2 nb eb=>?_⟩
 have u:=s1.trans s2
 refine⟨_,rfl,?_⟩
 refine⟨_,rfl,_,rfl,_,rfl,a,b,xs,r,m,kk,w,rfl,u.seq hA,.of eb,m6,hF,hk,eF,hw,fun c0 H3 s3 nc ec=>?_⟩
 have u3:=u.trans s3
 have Sm:=JZ m6 hF.l eF (gW w)
 have DS:=i0 hF.s
 have hz:((((tp (sgn w) xs r).toNat/Nat.gcd (tp (sgn w) xs r).toNat (2*dot xs xs).toNat:Nat):Int)=0)↔tp (sgn w) xs r=0:=by
  have g0:0<Nat.gcd (tp (sgn w) xs r).toNat (2*dot xs xs).toNat:=Nat.gcd_pos_of_pos_right _ (by omega)
  constructor
  ·intro h
   have h':(tp (sgn w) xs r).toNat/Nat.gcd (tp (sgn w) xs r).toNat (2*dot xs xs).toNat=0:=by omega
   have:=Nat.div_mul_cancel (Nat.gcd_dvd_left (tp (sgn w) xs r).toNat (2*dot xs xs).toNat)
   rw[h',Nat.zero_mul] at this
   omega
  ·intro h
   rw[h];simp
 refine⟨c0,_,_,_,rfl,rfl,dt ec,rfl,rfl,_,rfl,?_⟩
 refine D0 (ι:=St) (C:=fun σ=>σ=[some (.ref a),some (.ref g),some (.int w),some (.ref b),some (.int (wD w xs r:Nat))]) (G:=?G) (fun rest=>wc (fun hc=>?ja) (fun hc=>?jb)) ?jk
 case ja =>
  have e0:tp (sgn w) xs r=0:=hz.mp (by have z:=of_decide_eq_true hc;injection z)
  refine⟨_,rfl,_,_,rfl,rfl,?_⟩
  dsimp only [aP]
  generalize hσ:List.set _ 4 _=σx
  refine rest σx ?_
  rw[←hσ]
  have:(1:Int)-(w:Int)=(wD w xs r:Nat):=by unfold wD;rw[if_pos e0];omega
  rw[this];rfl
 case jb =>
  have e0:tp (sgn w) xs r≠0:=fun z=>hc (decide_eq_true (by rw[hz.mpr z]))
  refine rest _ ?_
  have:wD w xs r=w:=by unfold wD;rw[if_neg e0]
  rw[this];rfl
 case jk =>
 rintro σ3 rfl
 have ht:=LK hw xs r
 refine⟨_,rfl,_,rfl,_,rfl,_,rfl,a,b,xs,r,m,kk,wD w xs r,rfl,u3.seq hA,.of (s3 _ _ eb),m6,hF,hk,eF,ht,fun c H4 s4 nc2 ec2=>?_⟩
 have u4:=u3.trans s4
 refine⟨_,rfl,_,rfl,_,rfl,a,b,xs,r,m,kk,wD w xs r,rfl,u4.seq hA,.of ((s3.trans s4) _ _ eb),m1,m6,hF,hk,eF,ht,LL m6 hF.l hF.s eF hw,fun L H5 s5 nL eL=>?_⟩
 have u5:=u4.trans s5
 refine⟨aH (by show 3≤1000;decide),fun q hq=>?_⟩
 have nw:=aq.new (o:=.tup [V.int (wD w xs r:Nat),.ref c,.ref L]) hq
 exact k q c L _ (u5.trans nw) (u5.free hq) (u3.free nc2) (u4.free nL) aj (nw _ _ (s5 _ _ ec2)) (nw _ _ eL)
def xA:Sp:=fun vs H Q _=>∃(c:Int) (m:Nat),vs=[.int c,.int m]∧0≤c∧1≤m∧m≤6∧∀(g:Addr) (H':Hp) (gt:Gt),aq H H'→H g=none→H' g=some (.tup gt.vals)→gt.ok m→Q (.ref g) H'
abbrev So:List V:=[.str "mix",.str "flip",.str "sign"]
abbrev NF:List V:=[.str "mix",.str "sign",.str "flip"]
abbrev Qb:List V:=[.str "mix",.str "follow",.str "sign",.str "meet",.str "flip",.str "swap"]
theorem Qc (c:Int):∃x:Str,yq So (c%3)=some (.str x)∧∀n:Nat,∃gt:Gt,gt.vals=[.str x,.int n]∧∀m,n<m→gt.ok m:=by
 have a:=fc c (m:=3) (by decide)
 have b:=gb c (m:=3) (by decide)
 have:c%3=0∨c%3=1∨c%3=2:=by omega
 rcases this with e|e|e<;>rw[e]
 ·exact⟨"mix",rfl,fun n=>⟨.mix n,rfl,fun m h=>h⟩⟩
 ·exact⟨"flip",rfl,fun n=>⟨.flip n,rfl,fun m h=>h⟩⟩
 ·exact⟨"sign",rfl,fun n=>⟨.sign n,rfl,fun m h=>h⟩⟩
theorem Qd (c:Int):∃x:Str,yq Qb (c%6)=some (.str x)∧((Ni (.str x) NF=true∧∀n:Nat,∃gt:Gt,gt.vals=[.str x,.int n]∧∀m,n<m→gt.ok m) ∨
  (Ni (.str x) NF=false∧∀a b:Nat,∃gt:Gt,gt.vals=[.str x,.int a,.int b]∧∀m,a<m→b<m→a≠b→gt.ok m)):=by
 have a:=fc c (m:=6) (by decide)
 have b:=gb c (m:=6) (by decide)
 have:c%6=0∨c%6=1∨c%6=2∨c%6=3∨c%6=4∨c%6=5:=by omega
 rcases this with e|e|e|e|e|e<;>rw[e]
 ·exact⟨"mix",rfl,.inl ⟨by decide +kernel,fun n=>⟨.mix n,rfl,fun m h=>h⟩⟩⟩
 ·exact⟨"follow",rfl,.inr ⟨by decide +kernel,fun n k=>⟨.eO n k,rfl,fun m h h' Qe=>⟨h,h',Qe⟩⟩⟩⟩
 ·exact⟨"sign",rfl,.inl ⟨by decide +kernel,fun n=>⟨.sign n,rfl,fun m h=>h⟩⟩⟩
 ·exact⟨"meet",rfl,.inr ⟨by decide +kernel,fun n k=>⟨.meet n k,rfl,fun m h h' Qe=>⟨h,h',Qe⟩⟩⟩⟩
 ·exact⟨"flip",rfl,.inl ⟨by decide +kernel,fun n=>⟨.flip n,rfl,fun m h=>h⟩⟩⟩
 ·exact⟨"swap",rfl,.inr ⟨by decide +kernel,fun n k=>⟨.swap n k,rfl,fun m h h' Qe=>⟨h,h',Qe⟩⟩⟩⟩
theorem Qf {n r m:Int}(h1:2≤m) (h2:m≤6) (n0:0≤n) (n1:n<m) (r0:0≤r) (r1:r<m-1):∃k:Nat,(n+1+r)%m=k∧(k:Int)<m∧(k:Int)≠n:=by
 have:m=2∨m=3∨m=4∨m=5∨m=6:=by omega
 rcases this with rfl|rfl|rfl|rfl|rfl<;>exact⟨_,(Int.toNat_of_nonneg (by omega)).symm,by omega,by omega⟩
/- _law_gate: 0:_law_number_here 1:_law_coins 2:_law_word 3:_law_c -/
abbrev fv:Stmt:=top 58
theorem jY:aw ["_law_number_here","_law_coins","_law_word","_law_c"] Z14 (ae fv):=eX
theorem F2 (T:eK mg) (D:Def K mg "_law_gate" fv Z14):bh P w K mg base aS 1 "_law_gate" Z14 xA:=by
 refine D.ok jY (fun vs H Q E h=>?_) (fun f aR A outer s H vs Q E hr h=>?_)
 ·obtain⟨c,m,rfl,_⟩:=h;rfl
 obtain⟨c,m,rfl,c0,m1,m6,k⟩:=h
 refine⟨_,(ai (bJ (aE e7 (pv 1) af (aI _))
    (ao (aD (aU (aa (aC (cJ K) (gB (aa dj (aa dj (aa dj ah)))) (ak ba (pv 0) af) (fun _ _=>rfl)) (aa af ah)))))
    aJ)
   (ai (az (i:=2) jY.nd rfl (Or.inl rfl) (aC (cJ K) (gB (aa dj (aa dj (aa dj (aa dj (aa dj (aa dj ah))))))) (ak ba (pv 0) af) (fun _ _=>rfl)))
   (ai (az (i:=3) jY.nd rfl (Or.inl rfl) (ak ba (ak bK (pv 0) af) (pv 1)))
   (ai (bJ (aE (Lp K) (pv 2) (aU (aa dj (aa dj (aa dj ah)))) rfl)
    (ao (aD (aU (aa (pv 2) (aa (pv 3) ah)))))
    aJ)
   (ao (aD (aU (aa (pv 2) (aa (pv 3) (aa (ak ba (ak bS (ak bS (pv 3) af) (ak ba (ak bK (pv 0) af) (ak dQ (pv 1) af))) (pv 1)) ah)))))))))),?_⟩
 refine⟨_,rfl,rfl,_,rfl,?_⟩
 refine wc (fun hc=>?_) (fun hc=>?_)
 ·have e1:(m:Int)=1:=by have:=of_decide_eq_true hc;injection this
  obtain⟨x,hx,hg⟩:=Qc c
  obtain⟨gt,hv,aV⟩:=hg 0
  refine⟨aH (by show 3≤1000;decide),fun u hu=>?_⟩
  have eu:upd H u (.lst So) u=some (.lst So):=aj
  have s1:aq H (upd H u (.lst So)):=aq.new hu
  refine⟨_,rfl,_,_,rfl,rfl,(by show (0:Int)<_;decide),u,_,_,_,rfl,rfl,.of eu,hx,aH (by show 2≤1000;decide),fun g hg=>?_⟩
  exact k g _ gt (s1.trans (aq.new hg)) (s1.free hg) (by rw[aj,hv];rfl) (aV _ (by omega))
 have Uc:2≤(m:Int):=by
  have:(m:Int)≠1:=fun z=>hc (decide_eq_true (by rw[z]))
  omega
 have f0:=fc (c.fdiv 6) (m:=m) (by omega)
 have f1:=gb (c.fdiv 6) (m:=m) (by omega)
 obtain⟨n,hn⟩:∃n:Nat,c.fdiv 6%m=n:=⟨_,(Int.toNat_of_nonneg f0).symm⟩
 have r0:=fc (c.fdiv 36) (m:=(m:Int)-1) (by omega)
 have r1:=gb (c.fdiv 36) (m:=(m:Int)-1) (by omega)
 obtain⟨j,hj,RZ,R7⟩:=Qf Uc (by omega) f0 f1 r0 r1
 obtain⟨x,hx,hw⟩:=Qd c
 refine⟨aH (by show 6≤1000;decide),fun u hu=>?_⟩
 have eu:upd H u (.lst Qb) u=some (.lst Qb):=aj
 have s1:aq H (upd H u (.lst Qb)):=aq.new hu
 refine⟨_,rfl,_,_,rfl,rfl,(by show (0:Int)<_;decide),u,_,_,_,rfl,rfl,.of eu,hx,?_⟩
 refine⟨_,rfl,_,_,rfl,rfl,Ap (by decide) (by decide),_,rfl,_,_,rfl,rfl,(by show (0:Int)<m;omega),?_⟩
 dsimp only [aP]
 generalize upd H u (.lst Qb)=H1 at s1 ⊢
 refine⟨_,rfl,aH (by show 3≤1000;decide),fun v hv=>?_⟩
 have ev:upd H1 v (.tup NF) v=some (.tup NF):=aj
 have s2:=s1.trans (aq.new (o:=.tup NF) hv)
 generalize upd H1 v (.tup NF)=H2 at s2 ev ⊢
 refine⟨v,_,rfl,.inr (dt ev),rfl,rfl,_,rfl,?_⟩
 rcases hw with⟨hi,hg⟩|⟨hi,hg⟩
 ·obtain⟨gt,hv,aV⟩:=hg n
  refine lQ hi ?_
  refine⟨_,rfl,_,rfl,aH (by show 2≤1000;decide),fun g hg=>?_⟩
  exact k g _ gt (s2.trans (aq.new hg)) (s2.free hg) (by rw[aj,hv,←hn]) (aV _ (by omega))
 ·obtain⟨gt,hv,aV⟩:=hg n j
  refine bV hi ?_
  refine⟨_,rfl,_,rfl,_,rfl,_,_,rfl,rfl,_,rfl,_,_,rfl,rfl,Ap (by decide) (by decide),_,rfl,_,_,rfl,rfl,_,_,rfl,rfl,(by show (0:Int)<m-1;omega),_,_,rfl,rfl,_,rfl,_,_,rfl,rfl,(by show (0:Int)<m;omega),aH (by show 3≤1000;decide),fun g hg=>?_⟩
  exact k g _ gt (s2.trans (aq.new hg)) (s2.free hg) (by rw[aj,hv,←hn,←hj]) (aV _ (by omega) (by omega) (by omega))
def qu (K:Frag):Sp:=fun vs H Q _=>∃(a g:Addr) (r:Rw) (gt:Gt) (m:Nat),vs=[.ref a,.ref g]∧eV K H a r.vals∧eV K H g gt.vals∧m≤6∧r.ok m∧gt.ok m∧∀q H',aq H H'→H q=none→H' q=some (.tup (su r gt).vals)→Q (.ref q) H'
theorem Ss (b:Bool):one (1-2*((bN b:Nat):Int)):=by cases b<;>simp[one,bN]
theorem Su (b:Bool):((bN b:Nat):Int).natAbs<2^4000:=by cases b<;>exact big (by decide) (by decide)
theorem Js (n:Int) (b:Bool):n*(1-2*((bN b:Nat):Int))=chg n b:=by
 cases b
 ·show n*1=n;omega
 ·show n*(-1)=-n;omega
/- _law_shifted: 0:_law_row 1:_law_gate_here 2:_law_c 3:_law_d 4:_law_x 5:_law_z 6:_law_xd 7:_law_zd 8:_law_sign 9:_law_xs 10:_law_zs -/
abbrev da:Stmt:=top 59
theorem bg:aw ["_law_row","_law_gate_here","_law_c","_law_d","_law_x","_law_z","_law_xd","_law_zd","_law_sign","_law_xs","_law_zs"] Z19 (ae da):=eX
theorem zG (T:eK mg) (D:Def K mg "_law_shifted" da Z19):bh P w K mg base aS 1 "_law_shifted" Z19 (qu K):=by
 refine D.ok bg (fun vs H Q E h=>?_) (fun f aR A outer s H vs Q E hr h=>?_)
 ·obtain⟨a,g,r,gt,m,rfl,_⟩:=h;rfl
 obtain⟨a,g,r,gt,m,rfl,hA,hG,hm,eF,hg,k⟩:=h
 refine⟨_,(ai (pe (pv 0) (iU K rfl (b7 (aK (i:=8) bg.nd rfl (Or.inl rfl)) (b7 (aK (i:=9) bg.nd rfl (Or.inl rfl)) (b7 (aK (i:=10) bg.nd rfl (Or.inl rfl)) iO)))))
   (ai (az (i:=2) bg.nd rfl (Or.inl rfl) (aC (au K) (pv 1) af (fun _ _=>rfl)))
   (ai (az (i:=3) bg.nd rfl (Or.inl rfl) (aC (au K) (pv 1) (lC jK af) (fun _ _=>rfl)))
   (ai (az (i:=4) bg.nd rfl (Or.inl rfl) (ak cj (ak jJ (pv 9) (pv 2)) af))
   (ai (az (i:=5) bg.nd rfl (Or.inl rfl) (ak cj (ak jJ (pv 10) (pv 2)) af))
   (ai (az (i:=6) bg.nd rfl (Or.inl rfl) (ak cj (ak jJ (pv 9) (pv 3)) af))
   (ai (az (i:=7) bg.nd rfl (Or.inl rfl) (ak cj (ak jJ (pv 10) (pv 3)) af))
   (ai (bJ (aE e7 (aC (au K) (pv 1) af (fun _ _=>rfl)) dj (aI _))
    (ao (aD (aU (aa (ak aQ (pv 8) (ak dQ af (ak aQ af (ak cj (pv 4) (pv 5))))) (aa (ak b8 (pv 9) (ak cI (ak b8 (pv 4) (pv 5)) (pv 2))) (aa (ak b8 (pv 10) (ak cI (ak b8 (pv 4) (pv 5)) (pv 2))) ah))))))
    aJ)
   (ai (bJ (aE e7 (aC (au K) (pv 1) af (fun _ _=>rfl)) dj (aI _))
    (ao (aD (aU (aa (ak aQ (pv 8) (ak dQ af (ak aQ af (pv 5)))) (aa (pv 9) (aa (pv 10) ah))))))
    aJ)
   (ai (bJ (aE e7 (aC (au K) (pv 1) af (fun _ _=>rfl)) dj (aI _))
    (ao (aD (aU (aa (ak aQ (pv 8) (ak dQ af (ak aQ af (pv 4)))) (aa (pv 9) (aa (pv 10) ah))))))
    aJ)
   (ai (bJ (aE e7 (aC (au K) (pv 1) af (fun _ _=>rfl)) dj (aI _))
    (ao (aD (aU (aa (pv 8) (aa (ak b8 (pv 9) (ak cI (pv 4) (pv 3))) (aa (ak b8 (pv 10) (ak cI (pv 7) (pv 2))) ah))))))
    aJ)
   (ai (bJ (aE e7 (aC (au K) (pv 1) af (fun _ _=>rfl)) dj (aI _))
    (ao (aD (aU (aa (ak aQ (pv 8) (ak dQ af (ak aQ af (ak cj (pv 4) (pv 6))))) (aa (pv 9) (aa (ak b8 (ak b8 (pv 10) (ak cI (pv 4) (pv 3))) (ak cI (pv 6) (pv 2))) ah))))))
    aJ)
   (ao (aD (aU (aa (pv 8) (aa (ak b8 (ak b8 (pv 9) (ak cI (ak b8 (pv 4) (pv 6)) (pv 2))) (ak cI (ak b8 (pv 4) (pv 6)) (pv 3))) (aa (ak b8 (ak b8 (pv 10) (ak cI (ak b8 (pv 5) (pv 7)) (pv 2))) (ak cI (ak b8 (pv 5) (pv 7)) (pv 3))) ah)))))))))))))))))),?_⟩
 refine⟨_,rfl,a,_,rfl,hA,rfl,_,_,rfl,_,_,rfl,_,_,rfl,rfl,?_⟩
 have x6:=le64 hm eF.x
 have z6:=le64 hm eF.z
 cases gt
 case mix c =>
  have hc:c<m:=hg
  have xB:c<6:=by omega
  refine⟨_,rfl,g,_,_,_,rfl,rfl,hG,rfl,?_⟩
  refine⟨_,rfl,_,rfl,g,_,_,_,rfl,rfl,hG,rfl,?_⟩
  refine⟨_,rfl,_,rfl,_,_,rfl,rfl,Int.natCast_nonneg _,_,_,rfl,rfl,?_⟩
  refine⟨_,rfl,_,rfl,_,_,rfl,rfl,Int.natCast_nonneg _,_,_,rfl,rfl,?_⟩
  refine⟨_,rfl,_,rfl,_,_,rfl,rfl,Int.natCast_nonneg _,_,_,rfl,rfl,?_⟩
  refine⟨_,rfl,_,rfl,_,_,rfl,rfl,Int.natCast_nonneg _,_,_,rfl,rfl,?_⟩
  dsimp only [aP]
  have e1:=bB r.x x6 c xB
  have e2:=bB r.z z6 c xB
  rw[e1,e2]
  refine⟨_,rfl,g,_,_,_,rfl,rfl,hG,rfl,rfl,_,rfl,lQ (by decide +kernel) ?_⟩
  refine⟨_,rfl,_,rfl,_,rfl,_,_,rfl,rfl,_,_,rfl,rfl,⟨big (by decide) (by decide),(by rw[aN];exact Su _)⟩,_,_,rfl,rfl,_,_,rfl,rfl,⟨bM eF.s,(by rw[aN];exact bM (Ss _))⟩,_,rfl,_,rfl,_,rfl,_,_,rfl,rfl,_,rfl,_,_,rfl,rfl,(by rw[xN];exact Gn _ (by omega)),_,_,rfl,rfl,_,rfl,_,rfl,_,rfl,_,_,rfl,rfl,_,rfl,_,_,rfl,rfl,(by rw[xN];exact Gn _ (by omega)),_,_,rfl,rfl,aH (by show 3≤1000;decide),fun q hq=>?_⟩
  refine k q _ (aq.new hq) hq ?_
  rw[aj]
  dsimp only
  rw[aN,Js,xN,xT,xT]
  rfl
 case flip c =>
  have hc:c<m:=hg
  have xB:c<6:=by omega
  refine⟨_,rfl,g,_,_,_,rfl,rfl,hG,rfl,?_⟩
  refine⟨_,rfl,_,rfl,g,_,_,_,rfl,rfl,hG,rfl,?_⟩
  refine⟨_,rfl,_,rfl,_,_,rfl,rfl,Int.natCast_nonneg _,_,_,rfl,rfl,?_⟩
  refine⟨_,rfl,_,rfl,_,_,rfl,rfl,Int.natCast_nonneg _,_,_,rfl,rfl,?_⟩
  refine⟨_,rfl,_,rfl,_,_,rfl,rfl,Int.natCast_nonneg _,_,_,rfl,rfl,?_⟩
  refine⟨_,rfl,_,rfl,_,_,rfl,rfl,Int.natCast_nonneg _,_,_,rfl,rfl,?_⟩
  dsimp only [aP]
  have e1:=bB r.x x6 c xB
  have e2:=bB r.z z6 c xB
  rw[e1,e2]
  refine⟨_,rfl,g,_,_,_,rfl,rfl,hG,rfl,rfl,_,rfl,bV (by decide +kernel) ?_⟩
  refine⟨_,rfl,g,_,_,_,rfl,rfl,hG,rfl,rfl,_,rfl,lQ (by decide +kernel) ?_⟩
  refine⟨_,rfl,_,rfl,_,_,rfl,rfl,⟨big (by decide) (by decide),Su _⟩,_,_,rfl,rfl,_,_,rfl,rfl,⟨bM eF.s,bM (Ss _)⟩,_,rfl,_,rfl,aH (by show 3≤1000;decide),fun q hq=>?_⟩
  refine k q _ (aq.new hq) hq ?_
  rw[aj]
  dsimp only
  rw[Js]
  rfl
 case sign c =>
  have hc:c<m:=hg
  have xB:c<6:=by omega
  refine⟨_,rfl,g,_,_,_,rfl,rfl,hG,rfl,?_⟩
  refine⟨_,rfl,_,rfl,g,_,_,_,rfl,rfl,hG,rfl,?_⟩
  refine⟨_,rfl,_,rfl,_,_,rfl,rfl,Int.natCast_nonneg _,_,_,rfl,rfl,?_⟩
  refine⟨_,rfl,_,rfl,_,_,rfl,rfl,Int.natCast_nonneg _,_,_,rfl,rfl,?_⟩
  refine⟨_,rfl,_,rfl,_,_,rfl,rfl,Int.natCast_nonneg _,_,_,rfl,rfl,?_⟩
  refine⟨_,rfl,_,rfl,_,_,rfl,rfl,Int.natCast_nonneg _,_,_,rfl,rfl,?_⟩
  dsimp only [aP]
  have e1:=bB r.x x6 c xB
  have e2:=bB r.z z6 c xB
  rw[e1,e2]
  refine⟨_,rfl,g,_,_,_,rfl,rfl,hG,rfl,rfl,_,rfl,bV (by decide +kernel) ?_⟩
  refine⟨_,rfl,g,_,_,_,rfl,rfl,hG,rfl,rfl,_,rfl,bV (by decide +kernel) ?_⟩
  refine⟨_,rfl,g,_,_,_,rfl,rfl,hG,rfl,rfl,_,rfl,lQ (by decide +kernel) ?_⟩
  refine⟨_,rfl,_,rfl,_,_,rfl,rfl,⟨big (by decide) (by decide),Su _⟩,_,_,rfl,rfl,_,_,rfl,rfl,⟨bM eF.s,bM (Ss _)⟩,_,rfl,_,rfl,aH (by show 3≤1000;decide),fun q hq=>?_⟩
  refine k q _ (aq.new hq) hq ?_
  rw[aj]
  dsimp only
  rw[Js]
  rfl
 case eO c d =>
  obtain⟨hc,hd,eY⟩:=hg
  have xB:c<6:=by omega
  have Ks:d<6:=by omega
  refine⟨_,rfl,g,_,_,_,rfl,rfl,hG,rfl,?_⟩
  refine⟨_,rfl,_,rfl,g,_,_,_,rfl,rfl,hG,rfl,?_⟩
  refine⟨_,rfl,_,rfl,_,_,rfl,rfl,Int.natCast_nonneg _,_,_,rfl,rfl,?_⟩
  refine⟨_,rfl,_,rfl,_,_,rfl,rfl,Int.natCast_nonneg _,_,_,rfl,rfl,?_⟩
  refine⟨_,rfl,_,rfl,_,_,rfl,rfl,Int.natCast_nonneg _,_,_,rfl,rfl,?_⟩
  refine⟨_,rfl,_,rfl,_,_,rfl,rfl,Int.natCast_nonneg _,_,_,rfl,rfl,?_⟩
  dsimp only [aP]
  have e1:=bB r.x x6 c xB
  have e2:=bB r.z z6 c xB
  have e3:=bB r.x x6 d Ks
  have e4:=bB r.z z6 d Ks
  rw[e1,e2,e3,e4]
  refine⟨_,rfl,g,_,_,_,rfl,rfl,hG,rfl,rfl,_,rfl,bV (by decide +kernel) ?_⟩
  refine⟨_,rfl,g,_,_,_,rfl,rfl,hG,rfl,rfl,_,rfl,bV (by decide +kernel) ?_⟩
  refine⟨_,rfl,g,_,_,_,rfl,rfl,hG,rfl,rfl,_,rfl,bV (by decide +kernel) ?_⟩
  refine⟨_,rfl,g,_,_,_,rfl,rfl,hG,rfl,rfl,_,rfl,lQ (by decide +kernel) ?_⟩
  refine⟨_,rfl,_,rfl,_,rfl,_,rfl,_,_,rfl,rfl,Gn _ (by omega),_,_,rfl,rfl,_,rfl,_,rfl,_,rfl,_,_,rfl,rfl,Gn _ (by omega),_,_,rfl,rfl,aH (by show 3≤1000;decide),fun q hq=>?_⟩
  refine k q _ (aq.new hq) hq ?_
  rw[aj]
  dsimp only
  rw[xT,xT]
  rfl
 case meet c d =>
  obtain⟨hc,hd,eY⟩:=hg
  have xB:c<6:=by omega
  have Ks:d<6:=by omega
  refine⟨_,rfl,g,_,_,_,rfl,rfl,hG,rfl,?_⟩
  refine⟨_,rfl,_,rfl,g,_,_,_,rfl,rfl,hG,rfl,?_⟩
  refine⟨_,rfl,_,rfl,_,_,rfl,rfl,Int.natCast_nonneg _,_,_,rfl,rfl,?_⟩
  refine⟨_,rfl,_,rfl,_,_,rfl,rfl,Int.natCast_nonneg _,_,_,rfl,rfl,?_⟩
  refine⟨_,rfl,_,rfl,_,_,rfl,rfl,Int.natCast_nonneg _,_,_,rfl,rfl,?_⟩
  refine⟨_,rfl,_,rfl,_,_,rfl,rfl,Int.natCast_nonneg _,_,_,rfl,rfl,?_⟩
  dsimp only [aP]
  have e1:=bB r.x x6 c xB
  have e2:=bB r.z z6 c xB
  have e3:=bB r.x x6 d Ks
  have e4:=bB r.z z6 d Ks
  rw[e1,e2,e3,e4]
  refine⟨_,rfl,g,_,_,_,rfl,rfl,hG,rfl,rfl,_,rfl,bV (by decide +kernel) ?_⟩
  refine⟨_,rfl,g,_,_,_,rfl,rfl,hG,rfl,rfl,_,rfl,bV (by decide +kernel) ?_⟩
  refine⟨_,rfl,g,_,_,_,rfl,rfl,hG,rfl,rfl,_,rfl,bV (by decide +kernel) ?_⟩
  refine⟨_,rfl,g,_,_,_,rfl,rfl,hG,rfl,rfl,_,rfl,bV (by decide +kernel) ?_⟩
  refine⟨_,rfl,g,_,_,_,rfl,rfl,hG,rfl,rfl,_,rfl,lQ (by decide +kernel) ?_⟩
  refine⟨_,rfl,_,rfl,_,rfl,_,_,rfl,rfl,_,_,rfl,rfl,⟨big (by decide) (by decide),(by rw[aN];exact Su _)⟩,_,_,rfl,rfl,_,_,rfl,rfl,⟨bM eF.s,(by rw[aN];exact bM (Ss _))⟩,_,rfl,_,rfl,_,rfl,_,rfl,_,_,rfl,rfl,Gn _ (by omega),_,_,rfl,rfl,_,rfl,_,rfl,_,_,rfl,rfl,Gn _ (by omega),_,_,rfl,rfl,aH (by show 3≤1000;decide),fun q hq=>?_⟩
  refine k q _ (aq.new hq) hq ?_
  rw[aj]
  dsimp only
  rw[aN,Js,xT,xT]
  rfl
 case swap c d =>
  obtain⟨hc,hd,eY⟩:=hg
  have xB:c<6:=by omega
  have Ks:d<6:=by omega
  refine⟨_,rfl,g,_,_,_,rfl,rfl,hG,rfl,?_⟩
  refine⟨_,rfl,_,rfl,g,_,_,_,rfl,rfl,hG,rfl,?_⟩
  refine⟨_,rfl,_,rfl,_,_,rfl,rfl,Int.natCast_nonneg _,_,_,rfl,rfl,?_⟩
  refine⟨_,rfl,_,rfl,_,_,rfl,rfl,Int.natCast_nonneg _,_,_,rfl,rfl,?_⟩
  refine⟨_,rfl,_,rfl,_,_,rfl,rfl,Int.natCast_nonneg _,_,_,rfl,rfl,?_⟩
  refine⟨_,rfl,_,rfl,_,_,rfl,rfl,Int.natCast_nonneg _,_,_,rfl,rfl,?_⟩
  dsimp only [aP]
  have e1:=bB r.x x6 c xB
  have e2:=bB r.z z6 c xB
  have e3:=bB r.x x6 d Ks
  have e4:=bB r.z z6 d Ks
  rw[e1,e2,e3,e4]
  refine⟨_,rfl,g,_,_,_,rfl,rfl,hG,rfl,rfl,_,rfl,bV (by decide +kernel) ?_⟩
  refine⟨_,rfl,g,_,_,_,rfl,rfl,hG,rfl,rfl,_,rfl,bV (by decide +kernel) ?_⟩
  refine⟨_,rfl,g,_,_,_,rfl,rfl,hG,rfl,rfl,_,rfl,bV (by decide +kernel) ?_⟩
  refine⟨_,rfl,g,_,_,_,rfl,rfl,hG,rfl,rfl,_,rfl,bV (by decide +kernel) ?_⟩
  refine⟨_,rfl,g,_,_,_,rfl,rfl,hG,rfl,rfl,_,rfl,bV (by decide +kernel) ?_⟩
  refine⟨_,rfl,_,rfl,_,rfl,_,rfl,_,_,rfl,rfl,_,rfl,_,_,rfl,rfl,(by rw[xN];exact Gn _ (by omega)),_,_,rfl,rfl,_,rfl,_,rfl,_,_,rfl,rfl,_,rfl,_,_,rfl,rfl,(by rw[xN];exact Gn _ (by omega)),_,_,rfl,rfl,_,rfl,_,rfl,_,rfl,_,_,rfl,rfl,_,rfl,_,_,rfl,rfl,(by rw[xN];exact Gn _ (by omega)),_,_,rfl,rfl,_,rfl,_,rfl,_,_,rfl,rfl,_,rfl,_,_,rfl,rfl,(by rw[xN];exact Gn _ (by omega)),_,_,rfl,rfl,aH (by show 3≤1000;decide),fun q hq=>?_⟩
  refine k q _ (aq.new hq) hq ?_
  rw[aj]
  dsimp only
  rw[xN,xN,xT,xT,xT,xT]
  rfl
theorem cX.at {H:Hp}{m:Nat}{as:List Addr}{rs:List Rw}(h:cX H m as rs) {i:Nat}(hi:i<rs.length):∃b,as[i]?=some b∧yq (rV as) (i:Int)=some (.ref b)∧H b=some (.tup (ra rs i).vals)∧(ra rs i).ok m:=by
 obtain⟨b,r,h1,h2,h3,h4⟩:=h.get hi
 rw[cf h2]
 exact⟨b,h1,oU (by rw[rV,getElem?_map,h1];rfl),h3,h4⟩
theorem cX.set {H:Hp}{m:Nat}{as:List Addr}{rs:List Rw}(h:cX H m as rs) {i:Nat}{b:Addr}{r:Rw}(e:H b=some (.tup r.vals)) (ok:r.ok m):cX H m (as.set i b) (rs.set i r):=by
 refine⟨by rw[List.length_set,List.length_set,h.l],fun j x hx=>?_⟩
 rw[List.getElem?_set] at hx ⊢
 by_cases gP:i=j
 ·subst gP
  rw[if_pos rfl] at hx ⊢
  rw[←h.l]
  split at hx
  ·rename_i bR
   cases hx
   exact⟨r,by rw[if_pos bR],e,ok⟩
  ·cases hx
 ·rw[if_neg gP] at hx ⊢
  exact h.g j x hx
theorem Fp.sub {m:Nat}{ps qs:List (Rw×Rw)}(h:Fp m ps) (p:qs.Sublist ps):Fp m qs :=
 ⟨h.c.sub fun r hr=>(p.map (·.1)).subset hr,h.p.sublist p,fun x hx=>h.o x (p.subset hx)⟩
theorem Fr.tk {m:Nat}{rs ds:List Rw}(h:Fr m rs ds) (n:Nat):Fr m (rs.take n) (ds.take n):=by
 obtain⟨ps,h1,h2,h3⟩:=h.fp
 have:=(Fp.sub h3 (List.take_sublist n ps)).fr
 rw[List.map_take,List.map_take,h1,h2] at this
 exact this
theorem Fr.signs {m:Nat}{rs ds:List Rw}(h:Fr m rs ds) {s:Int}(hs:one s):Fr m (rs.map (sc s)) ds:=by
 have aV:∀r∈rs,(sc s r).ok m∧lG (sc s r)=lG r:=fun r hr=>⟨⟨one_mul hs (h.c.ok r hr).s,(h.c.ok r hr).x,(h.c.ok r hr).z⟩,rfl⟩
 have hra:∀i,i<rs.length→ra (rs.map (sc s)) i=sc s (ra rs i):=fun i hi=>cf (by rw[getElem?_map,dS hi];rfl)
 refine⟨⟨fun r hr=>?_,fun r hr=>?_,fun r hr t ht=>?_⟩,by rw[h.l,length_map],fun i j hi hj=>?_⟩
 ·obtain⟨u,hu,rfl⟩:=List.mem_map.mp hr;exact(aV u hu).1
 ·obtain⟨u,hu,rfl⟩:=List.mem_map.mp hr;rw[(aV u hu).2];exact h.c.ev u hu
 ·obtain⟨u,hu,rfl⟩:=List.mem_map.mp hr
  obtain⟨v,hv,rfl⟩:=List.mem_map.mp ht
  exact h.c.ag u hu v hv
 ·rw[length_map] at hi hj
  rw[hra i hi]
  exact h.d i j hi hj
theorem MP {n d k:Nat}(h:k≤n):HT.tD n d (some (k:Int))=k:=(HT.GX n d k).trans (Nat.min_eq_left h)
theorem MQ {xs:List V}{k:Nat}(h:k≤xs.length):jM xs none (some (k:Int))=xs.take k:=by
 unfold jM
 rw[MP h]
 show (xs.drop 0).take (k-0)=_
 rw[List.drop_zero,Nat.sub_zero]
theorem cX.tk {H:Hp}{m:Nat}{as:List Addr}{rs:List Rw}(h:cX H m as rs) (n:Nat):cX H m (as.take n) (rs.take n):=⟨by rw[length_take,length_take,h.l],fun i a e=>by
 by_cases c:i<n
 ·rw[List.getElem?_take_of_lt c] at e
  rw[List.getElem?_take_of_lt c]
  exact h.g i a e
 ·rw[getElem?_eq_none (by rw[length_take];omega)] at e
  cases e⟩
def tf (K:Frag):Sp:=fun vs H Q _=>∃(p:Addr) (ss:List Int) (s m n:Nat),vs=[.ref p,.int s,.int m,.int n]∧bP K H p (zV ss)∧ss.length≤63∧s≤500∧1≤m∧m≤6∧n≤m∧∀q qs rs ds H',aq H H'→H q=none→H' q=some (.lst (rV qs))→cX H' m qs rs→Fr m rs ds→rs.length=n→Q (.ref q) H'
/- _law_checks: 0:_law_script 1:_law_start 2:_law_coins 3:_law_many_here 4:_law_rows 5:_law_k 6:_law_sign 7:_law_gate_here 8:_law_number_here -/
abbrev bU:Stmt:=top 61
theorem bj:aw T0 Z02 (ae bU):=eX
theorem Cu (T:eK mg) (D:Def K mg "_law_checks" bU Z02) (cu:bh P w K mg base aS 1 "_law_number" Z04 (o8 K)) (zH:bh P w K mg base aS 1 "_law_gate" Z14 xA) (rH:bh P w K mg base aS 1 "_law_shifted" Z19 (qu K)) (xC:bh P w K mg base aS 2 "_law_times" Z16 (gJ K)):bh P w K mg base aS 3 "_law_checks" Z02 (tf K):=by
 refine D.ok bj (fun vs H Q E h=>?_) (fun f aR A outer s H vs Q E hr h=>?_)
 ·obtain⟨p,ss,s,m,n,rfl,_⟩:=h;rfl
 obtain⟨p,ss,s0,m,n,rfl,hS,hl,hs0,m1,m6,CU,k⟩:=h
 refine⟨_,(ai (mC (i:=4) rfl bj.nd rfl rfl (cs (N:=T0) (osc:=ae bU) (by decide +kernel)) (bX rfl T.cq (aa (pv 2) ah)) (fun _ _ _ _=>b9) (fun _ _ _ _=>(aU (aa af (aa af (aa (ak cI af (pv 0)) ah))))))
   (ai (cy PassesOwn.never rfl (kL rfl T.cq (aa (pv 1) (aa (ak bS (pv 1) af) ah))) (aK (i:=5) bj.nd rfl (Or.inl rfl))
    (ai (az (i:=7) bj.nd rfl (Or.inr rfl) (ay zH hr.sub (aa (ay cu hr.sub (aa (pv 0) (aa (pv 5) ah))) (aa (pv 2) ah))))
    (ao (mC (i:=4) rfl bj.nd rfl rfl (cs (N:=T0) (osc:=ae bU) (by decide +kernel)) (bQ K (pv 4)) (fun _ _ _ _=>b9) (fun _ _ _ _=>(ay rH hr.sub (aa (pv 0) (aa (pv 8) ah))))))))
   (ai (az (i:=4) bj.nd rfl (Or.inl rfl) (my (mE K) (pv 4) oR (oS (pv 3))))
   (ai (cy PassesOwn.never rfl (kL rfl T.cq (aa (ak bS (pv 1) af) (aa (ak bS (pv 1) af) ah))) (aK (i:=5) bj.nd rfl (Or.inl rfl))
    (ai (az (i:=8) bj.nd rfl (Or.inl rfl) (ay cu hr.sub (aa (pv 0) (aa (pv 5) ah))))
    (ao (bJ (PW.pt (pw_and (aE vV (pv 3) af (aI _)) (pw_and1 (aE mv (ak ba (pv 8) (pv 3)) (ak ba (ak bK (pv 8) af) (pv 3)) (aI _)))))
     (ao (pe (ay xC hr.sub (aa (aC (cJ K) (pv 4) (ak ba (pv 8) (pv 3)) (fun _ _=>rfl)) (aa (aC (cJ K) (pv 4) (ak ba (ak bK (pv 8) af) (pv 3)) (fun _ _=>rfl)) ah))) (yc (pv 4) (ak ba (pv 8) (pv 3)) set_list)))
     aJ))))
   (ai (az (i:=6) bj.nd rfl (Or.inr rfl) (ak dQ af (ak aQ af (ak cj (ak jJ (ay cu hr.sub (aa (pv 0) (aa (pv 1) ah))) af) af))))
   (ao (aD (eJ rfl bj.nd (cs (N:=T0) (osc:=ae bU) (by decide +kernel)) (bQ K (pv 4)) (fun _ _ _ _=>b9) (fun _ _ _ _=>(aU (aa (ak aQ (pv 7) (aC (au K) (pv 0) af (fun _ _=>rfl))) (aa (aC (au K) (pv 0) af (fun _ _=>rfl)) (aa (aC (au K) (pv 0) af (fun _ _=>rfl)) ah))))))))))))),?_⟩
 refine⟨_,rfl,(m:Int),rfl,by omega,by omega,?_⟩
 rw[Int.toNat_natCast]
 refine ot (fun i ys H'=>∃as:List Addr,ys=rV as∧as.length=i∧cX H' m as ((uf m).take i)∧aq H H') ⟨[],rfl,rfl,⟨rfl,fun _ _ h=>nomatch h⟩,.refl H⟩ (fun i ys H' _ ⟨as,e,h,_⟩=>by rw[e,←h];simp[rV]) (aH (by omega)) ?_ ?_
 ·rintro i ys H' Q' hi ⟨as,rfl,CZ,hR,s'⟩ q'
  rw[Int.zero_add]
  refine⟨_,rfl,_,_,rfl,rfl,HF (by omega),aH (by show 3≤1000;decide),fun g ng=>?_⟩
  refine q' _ _ ⟨as++[g],by simp[rV],by simp[CZ],?_,s'.trans (aq.new ng)⟩
  rw[take_add_one,Ay hi,Option.toList_some]
  refine(hR.same (aq.new ng)).app ?_ (sD hi)
  rw[aj]
  show some (HO.tup [V.int 1,V.int 0,V.int (1*2^(i:Int).toNat)])=_
  rw[fZ];rfl
 rintro ys H6 qr ⟨bs,rfl,yV,hR,s6⟩ Qg
 have ez:(uf m).take m=(uf m).map (nK []):=by rw[HH,List.take_of_length_le (by rw[iY];exact Nat.le_refl _)]
 rw[ez] at hR
 have MR:=s6.free Qg
 have s7:=aq.new (o:=.lst (rV bs)) Qg
 have er:upd H6 qr (.lst (rV bs)) qr=some (.lst (rV bs)):=aj
 have hR:=hR.same s7
 have t7:=s6.trans s7
 dsimp only [aP]
 generalize upd H6 qr (.lst (rV bs))=H7 at er hR t7 ⊢
 clear s7 s6 Qg
 refine⟨_,rfl,_,rfl,_,_,rfl,rfl,(s0:Int),(s0:Int)+14,rfl,⟨by omega,by omega,by omega,by omega⟩,ck (lo:=(s0:Int)) (n:=((s0:Int)+14-(s0:Int)).toNat) (fun i σ H'=>∃(qr:Addr) (bs:List Addr) (gs:List Gt) (v5 v7:Option V),σ=[some (.ref p),some (.int s0),some (.int m),some (.int n),some (.ref qr),v5,none,v7,none]∧aq H H'∧H qr=none∧H' qr=some (.lst (rV bs))∧cX H' m bs ((uf m).map (nK gs))∧(∀g∈gs,g.ok m))
  ⟨qr,bs,[],_,_,rfl,t7,MR,er,hR,(fun _ h=>nomatch h)⟩ ?_ ?_⟩
 ·clear er hR MR t7 yV ez
  rintro i σ H8 hi ⟨qr,bs,gs,v5,v7,rfl,u,Qg,er,hR,LV⟩
  have hi14:i<14:=by omega
  refine⟨_,rfl,_,rfl,p,ss,s0+i,by show [V.ref p,V.int ((s0:Int)+(i:Int))]++[]=_;rw[Int.natCast_add];rfl,u.seq hS,hl,by omega,fun c c0 H9 s9=>?_⟩
  refine⟨_,rfl,c,m,rfl,c0,m1,m6,fun g Gz gt AZ ng eg yW=>?_⟩
  have u10:=(u.trans s9).trans AZ
  have er:=AZ _ _ (s9 _ _ er)
  have hR:=(hR.same s9).same AZ
  have xt:((uf m).map (nK gs)).length=m:=by rw[length_map,iY]
  have yV:bs.length=m:=by rw[hR.l,xt]
  dsimp only [aP]
  refine⟨_,rfl,qr,rfl,⟨_,.of er⟩,gE (fun j zs H'=>∃cs:List Addr,zs=rV cs∧cs.length=j∧aq Gz H'∧cX H' m cs ((((uf m).map (nK gs)).take j).map (su · gt))) ⟨[],rfl,rfl,.refl Gz,⟨rfl,fun _ _ h=>nomatch h⟩⟩
   (fun j zs H' _ ⟨cs,e1,e2,s',_⟩=>⟨.of (s' _ _ er),by rw[e1,rV,length_map,e2]⟩) (aH (by rw[rV,length_map];omega)) ?_ ?_⟩
  ·rintro j x zs H' Q' hj ⟨cs,rfl,mm,s',hC⟩ q'
   obtain⟨b,hb,rfl⟩:=dR hj
   obtain⟨r,n6,eb,fg⟩:=hR.g j b hb
   refine⟨_,rfl,_,rfl,b,g,r,gt,m,rfl,dt (s' _ _ eb),dt (s' _ _ eg),m6,fg,yW,fun y MS uP ny ey=>q' _ _ ?_⟩
   refine⟨cs++[y],by simp[rV],by simp[mm],s'.trans uP,?_⟩
   rw[take_add_one,n6,Option.toList_some,List.map_append]
   exact(hC.same uP).app ey (pU fg yW)
  rintro zs MS qr' ⟨cs,rfl,mm,uP,hC⟩ Qh
  rw[rV,length_map,yV,List.take_of_length_le (by rw[xt];exact Nat.le_refl _)] at hC
  have NG:=aq.new (o:=.lst (rV cs)) Qh
  refine⟨qr',cs,gs++[gt],_,_,rfl,(u10.trans uP).trans NG,(u10.trans uP).free Qh,aj,?_,?_⟩
  ·have e1:(uf m).map (nK (gs++[gt]))=((uf m).map (nK gs)).map (su · gt):=by
    rw[List.map_map]
    exact map_congr_left fun r _=>HR gs gt r
   rw[e1]
   exact hC.same NG
  ·intro x hx
   rcases mem_append.mp hx with hx|hx
   ·exact LV x hx
   ·rw[mem_singleton.mp hx];exact yW
 clear er hR MR t7 yV ez
 rintro σ H8 ⟨qr,bs,gs,v5,v7,rfl,u,Qg,er,hR,LV⟩
 have xt:((uf m).map (nK gs)).length=m:=by rw[length_map,iY]
 have NH:=Fr.tk (Eu m6 LV) n
 generalize (uf m).map (nK gs)=Sv at hR xt NH
 generalize ((Nq m).map (nK gs)).take n=VO at NH
 have yV:bs.length=m:=by rw[hR.l,xt]
 refine⟨_,rfl,_,rfl,_,rfl,qr,_,rfl,.of er,fun q1 NB=>?_⟩
 rw[MQ (by rw[rV,length_map];omega)]
 dsimp only [aP]
 generalize hG:upd H8 q1 _=H9
 have e1:H9 q1=some (.lst (rV (bs.take n))):=by rw[←hG,aj,rV,rV,List.map_take]
 have u9:aq H8 H9:=hG▸aq.new NB
 clear hG
 have t9:=u.trans u9
 have NA:=u.free NB
 have Qi:=(cX.tk hR n).same u9
 have Jt:(Sv.take n).length=n:=by rw[length_take,xt];omega
 generalize Sv.take n=Sw at NH Qi Jt
 generalize bs.take n=bs1 at e1 Qi
 clear hR xt er yV NB
 refine⟨_,rfl,_,_,rfl,rfl,_,rfl,_,_,rfl,rfl,(s0:Int)+14,(s0:Int)+18,rfl,⟨by omega,by omega,by omega,by omega⟩,ck (lo:=(s0:Int)+14) (n:=((s0:Int)+18-((s0:Int)+14)).toNat) (fun i σ H'=>∃(bs:List Addr) (rs ds:List Rw) (v5 v7 v8:Option V),σ=[some (.ref p),some (.int s0),some (.int m),some (.int n),some (.ref q1),v5,none,v7,v8]∧aq H H'∧H' q1=some (.lst (rV bs))∧cX H' m bs rs∧Fr m rs ds∧rs.length=n)
  ⟨bs1,Sw,VO,_,_,_,rfl,t9,e1,Qi,NH,Jt⟩ ?_ ?_⟩
 ·clear e1 Qi NH Jt t9
  rintro i σ Gz hi ⟨bs,rs,ds,v5,v7,v8,rfl,u,er,hR,hF,xt⟩
  have hi4:i<4:=by omega
  refine⟨_,rfl,_,rfl,p,ss,s0+14+i,by show [V.ref p,V.int ((s0:Int)+14+(i:Int))]++[]=_;rw[Int.natCast_add,Int.natCast_add];rfl,u.seq hS,hl,by omega,fun c c0 ME vK=>?_⟩
  have NI:=u.trans vK
  have er:=vK _ _ er
  have hR:=hR.same vK
  dsimp only [aP]
  refine⟨_,rfl,_,_,rfl,rfl,_,rfl,?_⟩
  by_cases hn1:(n:Int) > 1
  rotate_left
  ·refine mF hn1 ?_
   exact⟨bs,rs,ds,_,_,_,rfl,NI,er,hR,hF,xt⟩
  refine q9 hn1 ?_
  have Ju:(0:Int)<(n:Int):=by omega
  refine⟨_,rfl,_,rfl,_,_,rfl,rfl,Ju,_,rfl,_,_,rfl,rfl,Ap (by decide) (by decide),_,rfl,_,_,rfl,rfl,Ju,rfl,_,rfl,?_⟩
  have x0:=fc c Ju
  have x1:=gb c Ju
  have y0:=fc (c.fdiv 7) Ju
  have y1:=gb (c.fdiv 7) Ju
  obtain⟨x,hx,hx1⟩:∃x:Nat,c%(n:Int)=(x:Int)∧x<n:=⟨(c%(n:Int)).toNat,by omega,by omega⟩
  obtain⟨y,hy,hy1⟩:∃y:Nat,c.fdiv 7%(n:Int)=(y:Int)∧y<n:=⟨(c.fdiv 7%(n:Int)).toNat,by omega,by omega⟩
  by_cases Pq:x=y
  ·refine bV (by rw[decide_eq_true (show V.int (c%(n:Int))=V.int (c.fdiv 7%(n:Int)) by rw[hx,hy,Pq])];rfl) ?_
   exact⟨bs,rs,ds,_,_,_,rfl,NI,er,hR,hF,xt⟩
  ·refine lQ (by rw[decide_eq_false (fun z=>Pq (by have z:V.int (c%(n:Int))=V.int (c.fdiv 7%(n:Int)):=z;injection z with z;omega))];rfl) ?_
   have C5:x<rs.length:=by omega
   have hyl:y<rs.length:=by omega
   obtain⟨b1,wG,ab1,Vu,ok1⟩:=cX.at hR C5
   obtain⟨b2,Hw,ab2,IL,ok2⟩:=cX.at hR hyl
   rw[←hx] at ab1
   rw[←hy] at ab2
   refine⟨_,rfl,_,rfl,_,rfl,_,_,rfl,rfl,Ju,q1,_,_,_,rfl,rfl,.of er,ab1,_,rfl,_,rfl,_,_,rfl,rfl,Ap (by decide) (by decide),_,rfl,_,_,rfl,rfl,Ju,q1,_,_,_,rfl,rfl,.of er,ab2,b1,b2,ra rs x,ra rs y,m,rfl,dt Vu,dt IL,m6,ok1,ok2,fun g MS uP ng eg=>?_⟩
   have er:=uP _ _ er
   have hR:=hR.same uP
   have u12:=NI.trans uP
   obtain⟨hF',_,_⟩:=hF.mul C5 hyl Pq
   refine⟨_,rfl,_,rfl,_,rfl,_,_,rfl,rfl,Ju,q1,_,_,x,rfl,rfl,er,by rw[hx];exact Av (by rw[rV,length_map,hR.l];exact C5),?_⟩
   have kT:∀(c:Addr) (xs:List V),MS c=some (.tup xs)→upd MS q1 (.lst ((rV bs).set x (V.ref g))) c=some (.tup xs):=fun c xs e=>by
    have:c≠q1:=fun z=>by rw[z,er] at e;cases e
    rw[aA this];exact e
   have VP:=cX.set hR (i:=x) eg (nJ ok1 ok2)
   refine⟨bs.set x g,rs.set x (bx (ra rs x) (ra rs y)),_,_,_,_,rfl,u12.upd NA,by rw[aj,rV,rV,List.map_set],⟨VP.l,fun j c e=>?_⟩,hF',by rw[List.length_set];exact xt⟩
   obtain⟨r',h1,h2,h3⟩:=VP.g j c e
   exact⟨r',h1,kT _ _ h2,h3⟩
 clear e1 Qi NH Jt t9
 rintro σ Gz ⟨bs,rs,ds,v5,v7,v8,rfl,u,er,hR,hF,xt⟩
 refine⟨_,rfl,_,rfl,p,ss,s0,rfl,u.seq hS,hl,by omega,fun c c0 ME vK=>?_⟩
 obtain⟨c,rfl⟩:∃k:Nat,c=(k:Int):=⟨c.toNat,by omega⟩
 have NI:=u.trans vK
 have er:=vK _ _ er
 have hR:=hR.same vK
 refine⟨_,_,rfl,rfl,by show (0:Int)≤3;decide,_,_,rfl,rfl,_,_,rfl,rfl,?_⟩
 have Qj:Builtin.bitAnd ((c:Int)/2^(3:Int).toNat) 1=0∨Builtin.bitAnd ((c:Int)/2^(3:Int).toNat) 1=1:=by
  have e3:((c:Int)/2^(3:Int).toNat)=((c/8:Nat):Int):=by
   rw[show (2:Int)^(3:Int).toNat=((8:Nat):Int) by decide,Int.natCast_ediv]
  have:Builtin.bitAnd (((c/8:Nat):Int)) ((1:Nat):Int)=((c/8&&&1:Nat):Int):=nF _ _
  rw[e3,show (1:Int)=((1:Nat):Int) from rfl,this,Nat.and_one_is_mod]
  omega
 generalize Builtin.bitAnd ((c:Int)/2^(3:Int).toNat) 1=bb at Qj ⊢
 refine⟨⟨big (by decide) (by decide),big (by omega) (by omega)⟩,_,_,rfl,rfl,?_⟩
 have xp:one (1-2*bb):=by rcases Qj with rfl|rfl<;>simp[one]
 dsimp only [aP]
 generalize 1-2*bb=sg at xp ⊢
 have yV:bs.length=n:=by rw[hR.l,xt]
 refine⟨_,rfl,q1,rfl,⟨_,.of er⟩,gE (fun j zs H'=>∃cs:List Addr,zs=rV cs∧cs.length=j∧aq ME H'∧cX H' m cs ((rs.take j).map (sc sg))) ⟨[],rfl,rfl,.refl ME,⟨rfl,fun _ _ h=>nomatch h⟩⟩
   (fun j zs H' _ ⟨cs,e1,e2,s',_⟩=>⟨.of (s' _ _ er),by rw[e1,rV,length_map,e2]⟩) (aH (by rw[rV,length_map];omega)) ?_ ?_⟩
 ·rintro j x zs H' Q' hj ⟨cs,rfl,mm,s',hC⟩ q'
  obtain⟨b,hb,rfl⟩:=dR hj
  obtain⟨r,n6,eb,fg⟩:=hR.g j b hb
  have eb:=s' _ _ eb
  have Sw:=fg.s
  refine⟨_,rfl,_,rfl,b,_,_,_,rfl,rfl,dt eb,rfl,_,_,rfl,rfl,⟨big (by rcases xp with h|h<;>rw[h]<;>decide) (by rcases xp with h|h<;>rw[h]<;>decide),big (by rcases Sw with h|h<;>rw[h]<;>decide) (by rcases Sw with h|h<;>rw[h]<;>decide)⟩,_,rfl,b,_,_,_,rfl,rfl,dt eb,rfl,_,rfl,b,_,_,_,rfl,rfl,dt eb,rfl,aH (by show 3≤1000;decide),fun y ny=>q' _ _ ?_⟩
  refine⟨cs++[y],by simp[rV],by simp[mm],s'.trans (aq.new ny),?_⟩
  rw[take_add_one,n6,Option.toList_some,List.map_append]
  exact(hC.same (aq.new ny)).app (r:=sc sg r) (by rw[aj];rfl) ⟨one_mul xp fg.s,fg.x,fg.z⟩
 rintro zs MS q2 ⟨cs,rfl,mm,uP,hC⟩ Kp
 rw[rV,length_map,yV,List.take_of_length_le (by omega)] at hC
 have NG:=aq.new (o:=.lst (rV cs)) Kp
 exact k q2 cs _ ds _ ((NI.trans uP).trans NG) ((NI.trans uP).free Kp) aj (hC.same NG) (Fr.signs hF xp) (by rw[length_map];exact xt)
structure NJ (H:Hp) (nM:Addr) (m k:Nat) (rs:List Rw) (e:Addr) (t u:Rw):Prop where
 ex:∃(a b d:Addr),H e=some (nB e (.ref nM) (some d))∧H d=some (.xd [("one",.ref a),("other",.ref b)])∧H a=some (.tup t.vals)∧H b=some (.tup u.vals)
 t1:t∈i3 (k:Int) m
 u1:u∈i3 (k:Int) m
 mq:qo rs t=qo rs u
 mx:max (eW t) (eW u)=k
theorem NJ.same {H H':Hp}{nM:Addr}{m k:Nat}{rs:List Rw}{e:Addr}{t u:Rw}(h:NJ H nM m k rs e t u) (s:aq H H'):NJ H' nM m k rs e t u:=by
 obtain⟨⟨a,b,d,h1,h2,h3,h4⟩,h5,h6,h7,h8⟩:=h
 exact⟨⟨a,b,d,s _ _ h1,s _ _ h2,s _ _ h3,s _ _ h4⟩,h5,h6,h7,h8⟩
theorem Bg {n:Nat}{m:Nat}(m6:m≤6) {t:Rw}(h:t∈i3 (n:Int) m):eW t≤n:=by
 rcases((fJ _ m m6 t).mp h).2 with⟨z1,z2⟩|z
 ·have e0:eW t=0:=by unfold eW;rw[z1,z2];rfl
  omega
 ·omega
theorem xD {n k:Nat}{m:Nat}(m6:m≤6) {t:Rw}(h:t∈i3 (n:Int) m) (hl:eW t≤k):t∈i3 (k:Int) m:=by
 have:=(fJ _ m m6 t).mp h
 exact(fJ _ m m6 t).mpr ⟨this.1,.inr (by omega)⟩
theorem lX {n:Int}{m:Nat}(m6:m≤6) {t:Rw}(h:t∈i3 n m):t.ok m∧t.sg=1:=by
 have:=((fJ _ m m6 t).mp h).1
 exact⟨⟨.inl this.1,this.2.1,this.2.2⟩,this.1⟩
theorem Qk {m:Nat}(m6:m≤6) {t:Rw}(ok:t.ok m) (h:eW t=0):t.x=0∧t.z=0:=by
 have pc0:∀a:Fin 64,pc a.1=0→a.1=0:=by decide +kernel
 have hz:=pc0 ⟨t.x|||t.z,o7 m6 ok.x ok.z⟩ h
 have hz:t.x|||t.z=0:=hz
 exact Nat.or_eq_zero_iff.mp hz
def NK (H:Hp) (nM:Addr) (m:Nat) (rs:List Rw) (i:Nat) (v1 v2:V):Prop :=
 (∃p aB,v1 = .ref p∧v2 = .cH∧H p=some (.dK aB)∧(0<i→gQ H rs (i3 ((i-1:Nat):Int) m) aB)) ∨
 (∃p aB e k t u,v1 = .ref p∧v2 = .ref e∧H p=some (.dK aB)∧1≤k∧k≤2∧gQ H rs (i3 ((k-1:Nat):Int) m) aB∧NJ H nM m k rs e t u)
theorem NK.same {H H':Hp}{nM:Addr}{m:Nat}{rs:List Rw}{i:Nat}{v1 v2:V}(h:NK H nM m rs i v1 v2) (s:aq H H'):NK H' nM m rs i v1 v2:=by
 rcases h with⟨p,aB,h1,h2,h3,h4⟩|⟨p,aB,e,k,t,u,h1,h2,h3,h4,h5,h6,h7⟩
 ·exact .inl ⟨p,aB,h1,h2,s _ _ h3,fun z=>(h4 z).same fun _ _ h=>s _ _ h⟩
 ·exact .inr ⟨p,aB,e,k,t,u,h1,h2,s _ _ h3,h4,h5,h6.same fun _ _ h=>s _ _ h,h7.same s⟩
def Bh (C nM:Addr):Sp:=fun vs H Q _=>∃(x:Addr) (rs ds:List Rw) (m:Nat),vs=[.ref x]∧Jf H C x m rs∧1≤m∧m≤6∧rs.length≤6∧Fr m rs ds ∧
 (∀q v1 v2 H',aq H H'→H' q=some (.tup [v1,v2])→NK H' nM m rs 3 v1 v2→Q (.ref q) H')
def xE (nM:Addr):Sp:=fun vs H Q _=>(vs=[.cH]∧Q (.int 2) H)∨∃(e:Addr) (m k:Nat) (rs:List Rw) (t u:Rw),vs=[.ref e]∧m≤6∧NJ H nM m k rs e t u∧∀H',aq H H'→Q (.int ((k:Int)-1)) H'
def Ql (b i:Nat):Bool:=b.testBit i
theorem Jv:∀b:Nat,b<64→((List.range 6).filter (Ql b)).length=pc b:=by
 have:∀b:Fin 64,((List.range 6).filter (Ql b.1)).length=pc b.1:=by decide +kernel
 exact fun b hb=>this ⟨b,hb⟩
theorem VQ:∀b:Nat,b<64→∀i:Nat,i<6→decide (V.int (Builtin.bitAnd ((b:Int)/2^(i:Int).toNat) 1)=V.int 1)=Ql b i:=by
 have:∀b:Fin 64,∀i:Fin 6,decide (V.int (Builtin.bitAnd (((b.1:Nat):Int)/2^((i.1:Nat):Int).toNat) 1)=V.int 1)=Ql b.1 i.1:=by decide +kernel
 exact fun b hb i hi=>this ⟨b,hb⟩ ⟨i,hi⟩
def qv (K:Frag):Sp:=fun vs H Q _=>∃(a c:Addr) (xs:List Int) (as:List Addr) (rs:List Rw) (m k:Nat) (b:Nat→Bool),vs=[.ref a,.ref c]∧bP K H a (zV xs)∧BN m k xs∧k≤900∧1≤m∧m≤6∧bP K H c (rV as)∧cX H m as rs∧(∀r∈rs,lG r=true)∧rs.length≤6∧(∀i,i<rs.length→lay (ra rs i) xs=xs.map (sgn (if b i then 1 else 0) * ·))∧∀H',aq H H'→Q (.int ((C6 b rs.length:Nat):Int)) H'
theorem MT (b:Bool):(if b then (1:Nat) else 0)<2:=by cases b<;>decide
/- _law_tables: 0:_law_code 1:_law_found 2:_law_cant 3:_law_many_here 4:e -/
abbrev dN:Stmt:=top 66
theorem cD:aw ["_law_code","_law_found","_law_cant","_law_many_here","e"] ["_law_code"] (ae dN):=eX
theorem F3 (T:eK mg) (GE:yG K mg "CantMend" nM) (cb:PySem.W.subIn K (.ref nM) (.type "BaseException")=some true) (eM:PySem.W.subIn K (.ref nM) (.ref nM)=some true)
  (D:Def K mg "_law_tables" dN ["_law_code"]) (F4:AQ P w K mg base 8 C "table" (sY C nM)):bh P w K mg base aS 9 "_law_tables" ["_law_code"] (Bh C nM):=by
 refine D.ok cD (fun vs H Q E h=>?_) (fun f aR A outer s H vs Q E hr h=>?_)
 ·obtain⟨x,rs,ds,m,rfl,_⟩:=h;rfl
 obtain⟨x,rs,ds,m,rfl,hc,m1,m6,hl,hF,k⟩:=h
 obtain⟨dx,l,as,ex,el,hR⟩:=hc.ex
 refine⟨_,(ai (az (i:=1) cD.nd rfl (Or.inl rfl) wN)
   (ai (az (i:=2) cD.nd rfl (Or.inl rfl) nt)
   (ai (cy PassesOwn.never rfl (bX rfl T.cq (aa af ah)) (aK (i:=3) cD.nd rfl (Or.inl rfl))
    (ao (bJ (aE yh (pv 2) nt (aI _))
     (ao (Lg (i:=4) rfl ⟨rfl,rfl⟩ cD.nd rfl rfl rfl GE.m (fun pn xe E R=>(ao (az (i:=1) cD.nd rfl (Or.inl rfl) (Fg F4 hr.sub R (pv 0) (aa (pv 3) ah)))))
      (fun e=>(ao (az (i:=2) cD.nd rfl (Or.inl rfl) (pv 4))))))
     aJ)))
   (ao (aD (aU (aa (pv 1) (aa (pv 2) ah)))))))),?_⟩
 refine fun p0 np0=>?_
 have s0:=aq.new (o:=.dK []) np0
 have e0:upd H p0 (.dK []) p0=some (.dK []):=aj
 dsimp only [aP]
 generalize upd H p0 (.dK [])=H0 at s0 e0 ⊢
 refine⟨3,rfl,by decide,by decide,ck (lo:=0) (n:=(3:Int).toNat) (fun i σ H'=>∃(v1 v2:V) (v3 v4:Option V),σ=[some (.ref x),some v1,some v2,v3,v4]∧aq H H'∧NK H' nM m rs i v1 v2) ⟨.ref p0,.cH,_,_,rfl,s0,.inl ⟨p0,[],rfl,rfl,e0,fun z=>absurd z (by decide)⟩⟩ ?_ ?_⟩
 ·rintro i σ H1 hi ⟨v1,v2,v3,v4,rfl,s1,hT⟩
  have hi3:i<3:=hi
  rw[Int.zero_add]
  rcases hT with⟨p,aB,rfl,rfl,ep,hT⟩|⟨p,aB,e,kk,t,u,rfl,rfl,ep,Ua,Ub,hT,hC⟩
  rotate_left
  ·refine⟨_,rfl,rfl,_,rfl,js ?_⟩
   exact⟨_,_,_,_,rfl,s1,.inr ⟨p,aB,e,kk,t,u,rfl,rfl,ep,Ua,Ub,hT,hC⟩⟩
  refine⟨_,rfl,rfl,_,rfl,qY ?_⟩
  refine⟨_,rfl,x,dx,_,rfl,s1 _ _ ex,rfl,_,rfl,x,rs,ds,m,(i:Int),rfl,hc.same s1,m1,m6,hl,hF,fun p2 VR H2 s2 np2 ep2 J8=>?_,fun a b d t u H2 s2 nd ed ea eb ht hu hm hn=>⟨Lq cb GE.cl eM,fun e ne=>?_⟩⟩
  ·exact⟨_,_,_,_,rfl,s1.trans s2,.inl ⟨p2,VR,rfl,rfl,ep2,fun _=>J8⟩⟩
  ·have s3:=aq.new (o:=nB e (.ref nM) (some d)) ne
   have ee:upd H2 e (nB e (.ref nM) (some d)) e=some (nB e (.ref nM) (some d)):=aj
   have Ja:=s2.trans s3
   have ed:=s3 _ _ ed
   have ea:=s3 _ _ ea
   have eb:=s3 _ _ eb
   generalize upd H2 e (nB e (.ref nM) (some d))=H3 at s3 Ja ee ed ea eb ⊢
   have ltt:=Bg m6 ht
   have luu:=Bg m6 hu
   have NC:0<i:=by
    rcases Nat.eq_zero_or_pos i with z|z
    ·have tz:=Qk m6 (lX m6 ht).1 (by omega)
     have uz:=Qk m6 (lX m6 hu).1 (by omega)
     exact absurd (Bd (rs:=rs) (u:=bx t u) (by show t.x^^^u.x=0;rw[tz.1,uz.1];rfl) (by show t.z^^^u.z=0;rw[tz.2,uz.2];rfl)) (hn 0)
    ·exact z
   have hmx:max (eW t) (eW u)=i:=by
    rcases Nat.lt_or_ge (max (eW t) (eW u)) i with z|z
    ·have t':=xD (k:=i-1) m6 ht (by omega)
     have u':=xD (k:=i-1) m6 hu (by omega)
     obtain⟨j,hj⟩:=(hT NC).mnd hF.c t t' u u' hm
     exact absurd hj (hn j)
    ·omega
   refine⟨_,rfl,?_⟩
   exact⟨_,_,_,_,rfl,s1.trans Ja,.inr ⟨p,aB,e,i,t,u,rfl,rfl,Ja _ _ ep,NC,by omega,(hT NC).same fun _ _ h=>Ja _ _ h,⟨a,b,d,ee,ed,ea,eb⟩,ht,hu,hm,hmx⟩⟩
 ·rintro σ H1 ⟨v1,v2,v3,v4,rfl,s1,hT⟩
  refine⟨_,rfl,_,rfl,aH (by show 2≤1000;decide),fun q nq=>?_⟩
  have s2:=aq.new (o:=.tup [v1,v2]) nq
  exact k q v1 v2 _ (s1.trans s2) aj (NK.same hT s2)
/- _law_many: 0:_law_cant 1:_law_some 2:_law_turn -/
abbrev ei:Stmt:=top 67
theorem hV:aw ["_law_cant","_law_some","_law_turn"] ["_law_cant"] (ae ei):=eX
theorem F5 (T:eK mg) (F6:mg "max"=none) (xi:yT K nM "CantMend.__init__" dz Z21) (P9:bz K nM "one") (Qa:bz K nM "other") (D:Def K mg "_law_many" ei ["_law_cant"]):bh P w K mg base aS 1 "_law_many" ["_law_cant"] (xE nM):=by
 refine D.ok hV (fun vs H Q E h=>?_) (fun f aR A outer s H vs Q E hr h=>?_)
 ·rcases h with⟨rfl,_⟩|⟨e,m,k,rs,t,u,rfl,_⟩<;>rfl
 refine⟨_,(ai (bJ (aE yh (pv 0) nt (aI _))
    (ao (aD af))
    aJ)
   (ai (az (i:=1) hV.nd rfl (Or.inl rfl) (gB ah))
   (ai (cy PassesOwn.never rfl (bQ K (gB (aa (o4 (pv 0)) (aa (o4 (pv 0)) ah)))) (aK (i:=2) hV.nd rfl (Or.inr rfl))
    (ao (fH (Oi PySem.F.plainAttrs_list PySem.F.slot_list_append PySem.F.type_list_append BF (pv 1) (aa (bA (cW K) (by rfl) T.lF ic (aa (eJ rfl hV.nd (cs (N:=["_law_cant","_law_some","_law_turn"]) (osc:=ae ei) (by decide +kernel)) (bX rfl T.cq (aa af ah)) (fun _ _ _ _=>(jP (aE e7 (ak cj (ak jJ (ak zY (aC (au K) (pv 3) af (fun _ _=>rfl)) (aC (au K) (pv 3) af (fun _ _=>rfl))) (pv 0)) af) af (aI _)))) (fun _ _ _ _=>(pv 0))) ah)) ah)))))
   (ao (aD (ak dQ (bA (zg K) (by rfl) F6 D2 (aa (pv 1) ah)) af)))))),?_⟩
 rcases h with⟨rfl,k⟩|⟨e,m,kk,rs,t,u,rfl,m6,hC,k⟩
 ·exact⟨_,rfl,rfl,_,rfl,qY k⟩
 have hh:=xi.fl.hd
 obtain⟨a,b,d,ee,ed,ea,eb⟩:=hC.ex
 have tok:=(lX m6 hC.t1).1
 have Cg:=(lX m6 hC.u1).1
 refine⟨_,rfl,rfl,_,rfl,js ?_⟩
 refine⟨aH (by show 0≤1000;decide),fun l nl=>?_⟩
 have v1:=aq.new (o:=.lst []) nl
 have el:upd H l (.lst []) l=some (.lst (zV [])):=aj
 have ee:=v1 _ _ ee
 have ed:=v1 _ _ ed
 have ea:=v1 _ _ ea
 have eb:=v1 _ _ eb
 dsimp only [aP]
 generalize upd H l (.lst [])=H1 at v1 el ee ed ea eb ⊢
 refine⟨_,rfl,e,nM,d,_,.ref a,rfl,ee,ed,xi.c,hh,P9,rfl,_,rfl,e,nM,d,_,.ref b,rfl,ee,ed,xi.c,hh,Qa,rfl,aH (by show 2≤1000;decide),fun z nz=>?_⟩
 have v2:=aq.new (o:=.lst [V.ref a,V.ref b]) nz
 have ez:upd H1 z (.lst [V.ref a,V.ref b]) z=some (.lst (rV [a,b])):=aj
 have ea:=v2 _ _ ea
 have eb:=v2 _ _ eb
 have el:=v2 _ _ el
 have s2:=v1.trans v2
 generalize upd H1 z (.lst [V.ref a,V.ref b])=H2 at v2 ez ea eb el s2 ⊢
 have Nu:z≠l:=fun y=>by rw[y,el] at ez;injection ez with ez;injection ez with ez;cases ez
 refine⟨z,rfl,⟨_,.of ez⟩,iD (K:=K) (a:=z) (xs:=rV [a,b]) (fun i σ H'=>∃v2,σ=[some (.ref e),some (.ref l),v2]∧aq H H'∧H' z=some (.lst (rV [a,b]))∧H' a=some (.tup t.vals)∧H' b=some (.tup u.vals)∧H' l=some (.lst (zV (([(eW t:Int),(eW u:Int)]).take i)))) ⟨_,rfl,s2,ez,ea,eb,el⟩ (fun i σ H' _ ⟨_,_,_,h,_⟩=>.of h) ?_ ?_⟩
 ·rintro i y σ H3 hi ⟨v2,rfl,s3,ez3,Sx,Sy,SA⟩
  obtain⟨c,hc,rfl⟩:=dR hi
  obtain⟨r,er,fg,rl⟩:∃r:Rw,H3 c=some (.tup r.vals)∧r.ok m∧([(eW t:Int),(eW u:Int)]).take (i+1)=([(eW t:Int),(eW u:Int)]).take i++[(eW r:Int)]:=by
   match i,hc with
   | 0,hc=>cases hc;exact⟨t,Sx,tok,rfl⟩
   | 1,hc=>cases hc;exact⟨u,Sy,Cg,rfl⟩
   | i+2,hc=>cases hc
  have C1:i<2:=(List.getElem?_eq_some_iff.mp hc).1
  have hb:r.x|||r.z<64:=o7 m6 fg.x fg.z
  refine⟨_,rfl,.inl ⟨rfl,_,.of SA⟩,6,rfl,by decide,by decide,?_⟩
  refine oq (n:=6) (Ql (r.x|||r.z)) (fun i=>.int (i:Int)) (aH (by decide)) ?_ ?_ ?_
  ·intro j H' Q' hj s' q'
   rw[Int.zero_add]
   have:=q' H' (.refl H')
   rw[←VQ _ hb j hj] at this
   have er':=s' _ _ er
   refine⟨_,rfl,c,_,_,_,rfl,rfl,dt er',rfl,_,rfl,c,_,_,_,rfl,rfl,dt er',rfl,_,_,rfl,rfl,_,rfl,_,_,rfl,rfl,by omega,_,_,rfl,rfl,rfl,_,rfl,?_⟩
   dsimp only
   rw[Ux]
   exact this
  ·intro j H' Q' hj _ s' q'
   rw[Int.zero_add]
   exact⟨_,rfl,q' H' (.refl H')⟩
  ·intro p H4 s4 np ep
   refine⟨p,_,rfl,.inl (.of ep),?_⟩
   have el4:=s4 _ _ SA
   refine⟨l,_,_,rfl,rfl,el4,aH (by rw[length_map,length_take];omega),?_⟩
   have kt:∀(c:Addr) (o:HO),c≠l→H4 c=some o→∀w,upd H4 l w c=some o:=fun c o mm h w=>by rw[aA mm];exact h
   have nl':∀(c:Addr) (r:Rw),H4 c=some (.tup r.vals)→c≠l:=fun c r h y=>by rw[y,el4] at h;cases h
   refine⟨_,rfl,(s3.trans s4).upd nl,kt _ _ Nu (s4 _ _ ez3) _,kt _ _ (nl' _ _ (s4 _ _ Sx)) (s4 _ _ Sx) _,kt _ _ (nl' _ _ (s4 _ _ Sy)) (s4 _ _ Sy) _,?_⟩
   rw[aj,rl,length_map,Jv _ hb]
   show _=some (HO.lst ((([(eW t:Int),(eW u:Int)]).take i++[(eW r:Int)]).map V.int))
   rw[List.map_append]
   rfl
 ·rintro σ H3 ⟨v2,rfl,s3,ez3,Sx,Sy,SA⟩
  refine⟨_,rfl,l,[(eW t:Int),(eW u:Int)],rfl,.of SA,Nat.zero_lt_succ _,fun M hM hle=>?_⟩
  have e:M=(kk:Int):=by
   have h1:=hle (eW t) (by simp)
   have h2:=hle (eW u) (by simp)
   have hx:=hC.mx
   rcases List.mem_cons.mp hM with z|z
   ·omega
   ·rcases List.mem_cons.mp z with z|z
    ·omega
    ·cases z
  rw[e]
  exact⟨_,_,rfl,rfl,k H3 s3⟩
/- _law_seen: 0:_law_numbers 1:_law_checks_here 2:_law_found 3:_law_k 4:_law_told -/
abbrev fz:Stmt:=top 68
theorem fS:aw ["_law_numbers","_law_checks_here","_law_found","_law_k","_law_told"] Z10 (ae fz):=eX
theorem F7 (T:eK mg) (D:Def K mg "_law_seen" fz Z10) (F8:Hv P w K mg base aS 5 "looked" Z23 (sZ K)):bh P w K mg base aS 7 "_law_seen" Z10 (qv K):=by
 refine D.ok fS (fun vs H Q E h=>?_) (fun f aR A outer s H vs Q E hr h=>?_)
 ·obtain⟨a,c,xs,as,rs,m,k,b,rfl,_⟩:=h;rfl
 obtain⟨a,c,xs,as,rs,m,kk,b,rfl,hA,hX,hk,m1,m6,hC,hR,hev,hl,hb,k⟩:=h
 have mm:(rV as).length=rs.length:=by rw[rV,length_map,hR.l]
 refine⟨_,(ai (az (i:=2) fS.nd rfl (Or.inl rfl) af)
   (ai (cy PassesOwn.never rfl (bX rfl T.cq (aa (bA (cW K) (by rfl) T.lF ic (aa (pv 1) ah)) ah)) (aK (i:=3) fS.nd rfl (Or.inl rfl))
    (ai (az (i:=4) fS.nd rfl (Or.inl rfl) (Hz F8 hr.sub (aa (pv 0) (aa (aC (cJ K) (pv 1) (pv 3) (fun _ _=>rfl)) ah))))
    (ai (bJ (PW.pt (pw_or (aE (DZ K hr.yo) (aC (au K) (pv 4) af (fun _ _=>rfl)) (aU (aa af (aa af ah))) (aI _)) (pw_or1 (aE (sk K) (aC (au K) (pv 4) af (fun _ _=>rfl)) (aU (aa af (aa af ah))) rfl))))
     (ao (aD (lC jK af)))
     aJ)
    (ao (az (i:=2) fS.nd rfl (Or.inl rfl) (ak bS (pv 2) (ak aQ (aC (au K) (pv 4) af (fun _ _=>rfl)) (ak cI af (pv 3)))))))))
   (ao (aD (pv 2))))),?_⟩
 refine⟨_,rfl,c,_,rfl,.inl hC,(rs.length:Int),by rw[mm],by omega,by omega,ck (lo:=0) (n:=(rs.length:Int).toNat) (fun i σ H'=>∃(v3 v4:Option V),σ=[some (.ref a),some (.ref c),some (.int ((C6 b i:Nat):Int)),v3,v4]∧aq H H') ⟨_,_,rfl,.refl H⟩ ?_ ?_⟩
 ·rintro i σ H1 hi ⟨v3,v4,rfl,s1⟩
  rw[Int.zero_add]
  have uk:i<rs.length:=by omega
  obtain⟨g,hg,ag,eg,gok⟩:=cX.at hR uk
  have hbi:=hb i uk
  have VS:=hev _ (mem_of_getElem? (dS uk))
  have htl:=Ez (MT (b i)) (w:=0) (by decide) hX.s hbi
  have Sm:=Az (gW (if b i then 1 else 0)) hbi
  have hdp:=i0 hX.s
  refine⟨_,rfl,_,rfl,_,rfl,c,_,_,_,rfl,rfl,s1.seq hC,ag,a,g,xs,ra rs i,m,kk,0,rfl,s1.seq hA,dt (s1 _ _ eg),m1,m6,hX,hk,gok,VS,by decide,fun q cc L H2 s2 nq nc nL eq ec eL=>?_⟩
  rw[htl] at eq ec
  rw[Sm.1,HY (by omega)] at ec
  refine⟨_,rfl,q,_,_,_,rfl,rfl,dt eq,rfl,aH (by show 2≤1000;decide),fun g2 VF=>?_⟩
  have v3:=aq.new (o:=.tup [V.int 1,V.int 1]) VF
  have e2:upd H2 g2 (.tup [V.int 1,V.int 1]) g2=some (.tup [V.int 1,V.int 1]):=aj
  have eq:=v3 _ _ eq
  have ec:=v3 _ _ ec
  have t3:=(s1.trans s2).trans v3
  generalize upd H2 g2 (.tup [V.int 1,V.int 1])=H3 at e2 eq ec t3 ⊢
  refine⟨cc,g2,_,_,rfl,rfl,.inr ⟨dt ec,dt e2⟩,rfl,rfl,_,rfl,bV (by rfl) ?_⟩
  refine⟨_,rfl,q,_,_,_,rfl,rfl,dt eq,rfl,aH (by show 2≤1000;decide),fun g3 ng3=>?_⟩
  have v4:=aq.new (o:=.tup [V.int 0,V.int 1]) ng3
  have e3:upd H3 g3 (.tup [V.int 0,V.int 1]) g3=some (.tup [V.int 0,V.int 1]):=aj
  have eq:=v4 _ _ eq
  have t4:=t3.trans v4
  generalize upd H3 g3 (.tup [V.int 0,V.int 1])=H4 at e3 eq t4 ⊢
  refine⟨g3,_,rfl,.inr (dt e3),rfl,rfl,_,rfl,bV (by cases b i<;>rfl) ?_⟩
  have lq:2^i≤64:=Nat.pow_le_pow_right (n:=2) (by decide) (by omega:i≤6)
  refine⟨_,rfl,_,rfl,q,_,_,_,rfl,rfl,dt eq,rfl,_,rfl,_,_,rfl,rfl,HF (by omega),?_⟩
  dsimp only
  rw[fZ]
  have em:((C6 b i:Nat):Int)+((if b i then 1 else 0:Nat):Int)*((2^i:Nat):Int)=((C6 b (i+1):Nat):Int):=by
   show _=((C6 b i+(if b i then 2^i else 0):Nat):Int)
   cases b i
   ·simp
   ·simp
  refine⟨_,_,rfl,rfl,⟨by cases b i<;>exact big (by decide) (by decide),by generalize 2^i=bb at lq;exact big (by omega) (by omega)⟩,_,_,rfl,rfl,?_⟩
  dsimp only [aP]
  rw[em]
  exact⟨_,_,rfl,t4⟩
 ·rintro σ H1 ⟨v3,v4,rfl,s1⟩
  rw[Int.toNat_natCast]
  exact⟨_,rfl,k H1 s1⟩
@[irreducible] def QA (X:Cx) (es:List Expr) (t:TA):Prop:=PA X es t
@[irreducible] def QE (X:Cx) (e:Expr) (t:TE):Prop:=PE X e t
theorem fT {X:Cx}{e:Expr}{t:TE}(h:PE X e t):QE X e t:=by unfold QE;exact h
theorem oa {X:Cx}:QA X [] GS:=by unfold QA;exact ah
theorem bO {X:Cx}{e:Expr}{es:List Expr}{te:TE}{t:TA}(ha:QE X e te) (hr:QA X es t) (hs:starEach (e::es) X.env=(false,eval e X.env)::starEach es X.env:=by rfl):QA X (e::es) (JN te t):=by
 unfold QE at ha
 unfold QA at hr ⊢
 exact aa ha hr hs
theorem qw {X:Cx}{es:List Expr}{t:TA}{x1:Nat}{pos:Pos}(h:QA X es t):QE X (.Tuple es x1 pos) (Ob t):=by
 unfold QA at h
 unfold QE
 exact aU h
theorem MU {X:Cx}{es:List Expr}{t:TA}{pos:Pos}(h:QA X es t):QE X (.List es pos) (Oc t):=by
 unfold QA at h
 unfold QE
 exact gB h
@[irreducible] def QS (X:Cx) (st:Stmt) (t:TS):Prop:=PS X st t
@[irreducible] def Kt (X:Cx) (st:List Stmt) (t:TS):Prop:=oH X st t
theorem MV {X:Cx}{st:List Stmt}{t:TS}(h:Kt X st t):oH X st t:=by unfold Kt at h;exact h
theorem xF {X:Cx}{st:Stmt}{rest:List Stmt}{t u:TS}(h1:QS X st t) (h2:Kt X rest u):Kt X (st::rest) (NT t u):=by
 unfold QS at h1
 unfold Kt at h2 ⊢
 exact ai h1 h2
theorem Jw {X:Cx}{st:Stmt}{t:TS}(h1:QS X st t):Kt X [st] t:=by
 unfold QS at h1
 unfold Kt
 exact ao h1
theorem MW {X:Cx}{e:Expr}{te:TE}{pos:Pos}(he:QE X e te):QS X (.Return (some e) pos) (KC te):=by
 unfold QE at he
 unfold QS
 exact aD he
theorem F9 {X:Cx}(i:Nat) {x:Str}{e:Expr}{te:TE}{pos pos':Pos}(hN:X.N.Nodup) (hi:X.N[i]?=some x) (hx:Loc X.env.scope x) (he:QE X e te) (hs:swapsWith e (some (.Name x pos')) pos.line X.env=pure false:=by rfl) (hf:X.fn x=true∨X.env.scope.names.lookup x=some .local:=by first|exact .inl rfl|exact .inr rfl|assumption):QS X (.Assign [.Name x pos'] e pos) (Bt te (aP i)):=by
 unfold QE at he
 unfold QS
 exact az hN hi hx he hs hf
theorem VT {X:Cx}{sts:List Stmt}{D:Ends}{σ:St}{H:Hp}(h:∃t,Kt X sts t∧t D σ H):∃t,oH X sts t∧t D σ H:=by
 obtain⟨t,h1,h2⟩:=h
 exact⟨t,MV h1,h2⟩
def Bi {α:Type}(k:Nat) (xs:List α):List α:=(xs.drop k++xs.take k).take 4
noncomputable def xY:List Rw:=[⟨1,9,6⟩,⟨1,18,12⟩,⟨1,5,24⟩,⟨1,10,17⟩,⟨1,20,3⟩]
noncomputable def SD:Nat→List Rw
 | 0=>[⟨1,0,5⟩,⟨1,0,15⟩,⟨1,0,27⟩,⟨1,0,18⟩,⟨1,0,31⟩]
 | 1=>[⟨1,0,10⟩,⟨1,0,30⟩,⟨1,0,23⟩,⟨1,0,5⟩,⟨1,0,31⟩]
 | 2=>[⟨1,0,20⟩,⟨1,0,29⟩,⟨1,0,15⟩,⟨1,0,10⟩,⟨1,0,31⟩]
 | 3=>[⟨1,0,9⟩,⟨1,0,27⟩,⟨1,0,30⟩,⟨1,0,20⟩,⟨1,0,31⟩]
 | _=>[⟨1,0,18⟩,⟨1,0,23⟩,⟨1,0,29⟩,⟨1,0,9⟩,⟨1,0,31⟩]
def VU (m:Nat) (rs ds:List Rw):Bool :=
 rs.all (fun r=>(r.sg == 1&&decide (r.x<2^m))&&(decide (r.z<2^m)&&lG r))&&(rs.all (fun a=>rs.all fun b=>!sy a b)&&(ds.length == rs.length&&(List.range rs.length).all fun i=>(List.range rs.length).all fun j=>sy (ra rs i) (ra ds j) == decide (i=j)))
theorem MX {m:Nat}{rs ds:List Rw}(h:VU m rs ds=true):Fr m rs ds:=by
 unfold VU at h
 simp only[Bool.and_eq_true,all_eq_true,decide_eq_true_eq,beq_iff_eq,Bool.not_eq_true',mem_range] at h
 obtain⟨h1,h2,h3,h4⟩:=h
 exact⟨⟨fun r hr=>⟨.inl (h1 r hr).1.1,(h1 r hr).1.2,(h1 r hr).2.1⟩,fun r hr=>(h1 r hr).2.2,h2⟩,h3,fun i j hi hj=>h4 i hi j hj⟩
theorem Jx:∀k,k<5→Fr 5 (Bi k xY++[⟨1,31,0⟩]) (SD k):=by
 have:∀k:Fin 5,VU 5 (Bi k.1 xY++[⟨1,31,0⟩]) (SD k.1)=true:=by decide +kernel
 exact fun k hk=>MX (this ⟨k,hk⟩)
theorem qx:∀r∈xY,r.ok 5:=by
 intro r hr
 have:xY.all (fun r=>(r.sg == 1&&decide (r.x<2^5))&&decide (r.z<2^5))=true:=by decide +kernel
 have:=all_eq_true.mp this r hr
 simp only[Bool.and_eq_true,decide_eq_true_eq,beq_iff_eq] at this
 exact⟨.inl this.1.1,this.1.2,this.2⟩
theorem cX.dp {H:Hp}{m:Nat}{as:List Addr}{rs:List Rw}(h:cX H m as rs) (n:Nat):cX H m (as.drop n) (rs.drop n):=⟨by rw[List.length_drop,List.length_drop,h.l],fun i a e=>by
 rw[List.getElem?_drop] at e
 rw[List.getElem?_drop]
 exact h.g _ a e⟩
theorem cX.Bi {H:Hp}{m:Nat}{as:List Addr}{rs:List Rw}(h:cX H m as rs) (k:Nat):cX H m (Bi k as) (Bi k rs):=cX.tk (cX.cat (cX.dp h k) (cX.tk h k)) 4
def Bj:Sp:=fun vs H Q _=>∃(c:Int),vs=[.int c]∧0≤c∧∀q qs k H',aq H H'→H q=none→H' q=some (.lst (rV qs))→k<5→cX H' 5 qs (Bi k xY)→Q (.ref q) H'
/- _law_ring: 0:_law_number_here 1:_law_rows 2:_law_at -/
abbrev fA:Stmt:=top 62
theorem jZ:aw ["_law_number_here","_law_rows","_law_at"] Z09 (ae fA):=eX
theorem Jy (T:eK mg) (D:Def K mg "_law_ring" fA Z09):bh P w K mg base aS 1 "_law_ring" Z09 Bj:=by
 refine D.ok jZ (fun vs H Q E h=>?_) (fun f aR A outer s H vs Q E hr h=>?_)
 ·obtain⟨c,rfl,_⟩:=h;rfl
 obtain⟨c,rfl,c0,k⟩:=h
 have lb:(1000:Nat)≤sizeLine:=aH (by decide)
 refine VT ?_
 refine⟨_,(xF (F9 1 jZ.nd rfl (Or.inl rfl) (MU (bO (qw (bO (fT af) (bO (fT af) (bO (fT af) oa)))) (bO (qw (bO (fT af) (bO (fT af) (bO (fT af) oa)))) (bO (qw (bO (fT af) (bO (fT af) (bO (fT af) oa)))) (bO (qw (bO (fT af) (bO (fT af) (bO (fT af) oa)))) (bO (qw (bO (fT af) (bO (fT af) (bO (fT af) oa)))) oa)))))))
   (xF (F9 2 jZ.nd rfl (Or.inl rfl) (fT (ak ba (pv 0) af)))
   (Jw (MW (fT (my (mE K) (ak yz (my (mE K) (pv 1) (oS (pv 2)) oR) (my (mE K) (pv 1) oR (oS (pv 2)))) oR (oS af))))))),?_⟩
 refine⟨by show 3≤sizeLine;omega,fun g0 n0=>⟨by show 3≤sizeLine;omega,fun g1 n1=>⟨by show 3≤sizeLine;omega,fun g2 n2=>⟨by show 3≤sizeLine;omega,fun g3 n3=>⟨by show 3≤sizeLine;omega,fun g4 n4=>⟨by show 5≤sizeLine;omega,fun q nq=>?_⟩⟩⟩⟩⟩⟩
 have w0:=aq.new (o:=.tup [V.int 1,V.int 9,V.int 6]) n0
 have w1:=aq.new (o:=.tup [V.int 1,V.int 18,V.int 12]) n1
 have w2:=aq.new (o:=.tup [V.int 1,V.int 5,V.int 24]) n2
 have w3:=aq.new (o:=.tup [V.int 1,V.int 10,V.int 17]) n3
 have w4:=aq.new (o:=.tup [V.int 1,V.int 20,V.int 3]) n4
 have w5:=aq.new (o:=.lst [V.ref g0,V.ref g1,V.ref g2,V.ref g3,V.ref g4]) nq
 have x0:=(w1.trans (w2.trans (w3.trans (w4.trans w5)))) g0 _ aj
 have x1:=(w2.trans (w3.trans (w4.trans w5))) g1 _ aj
 have x2:=(w3.trans (w4.trans w5)) g2 _ aj
 have x3:=(w4.trans w5) g3 _ aj
 have x4:=w5 g4 _ aj
 have wt:=w0.trans (w1.trans (w2.trans (w3.trans (w4.trans w5))))
 have eq:upd (upd (upd (upd (upd (upd H g0 (.tup [V.int 1,V.int 9,V.int 6])) g1 (.tup [V.int 1,V.int 18,V.int 12])) g2 (.tup [V.int 1,V.int 5,V.int 24])) g3 (.tup [V.int 1,V.int 10,V.int 17])) g4 (.tup [V.int 1,V.int 20,V.int 3])) q (.lst [V.ref g0,V.ref g1,V.ref g2,V.ref g3,V.ref g4]) q=some (.lst (rV [g0,g1,g2,g3,g4])):=aj
 dsimp only [aP]
 generalize upd (upd (upd (upd (upd (upd H g0 (.tup [V.int 1,V.int 9,V.int 6])) g1 (.tup [V.int 1,V.int 18,V.int 12])) g2 (.tup [V.int 1,V.int 5,V.int 24])) g3 (.tup [V.int 1,V.int 10,V.int 17])) g4 (.tup [V.int 1,V.int 20,V.int 3])) q (.lst [V.ref g0,V.ref g1,V.ref g2,V.ref g3,V.ref g4])=H1 at x0 x1 x2 x3 x4 wt eq ⊢
 have R1:cX H1 5 [g0,g1,g2,g3,g4] xY:=⟨rfl,fun i a e=>by
  match i,e with
  | 0,e=>cases e;exact⟨_,rfl,x0,qx _ (by simp[xY])⟩
  | 1,e=>cases e;exact⟨_,rfl,x1,qx _ (by simp[xY])⟩
  | 2,e=>cases e;exact⟨_,rfl,x2,qx _ (by simp[xY])⟩
  | 3,e=>cases e;exact⟨_,rfl,x3,qx _ (by simp[xY])⟩
  | 4,e=>cases e;exact⟨_,rfl,x4,qx _ (by simp[xY])⟩
  | i+5,e=>cases e⟩
 refine⟨_,rfl,_,_,rfl,rfl,(by show (0:Int)<_;decide),?_⟩
 have a0:=fc c (m:=5) (by decide)
 have a1:=gb c (m:=5) (by decide)
 obtain⟨j,hj,VW⟩:∃j:Nat,c%5=(j:Int)∧j<5:=⟨(c%5).toNat,by omega,by omega⟩
 dsimp only [aP]
 rw[hj]
 have VX:jM (jM (rV [g0,g1,g2,g3,g4]) (some (j:Int)) none++jM (rV [g0,g1,g2,g3,g4]) none (some (j:Int))) none (some 4)=rV (Bi j [g0,g1,g2,g3,g4]):=by
  match j,VW with
  | 0,_=>rfl
  | 1,_=>rfl
  | 2,_=>rfl
  | 3,_=>rfl
  | 4,_=>rfl
 have EF:(jM (rV [g0,g1,g2,g3,g4]) (some (j:Int)) none).length+(jM (rV [g0,g1,g2,g3,g4]) none (some (j:Int))).length≤5:=by
  match j,VW with
  | 0,_=>exact Nat.le_refl 5
  | 1,_=>exact Nat.le_refl 5
  | 2,_=>exact Nat.le_refl 5
  | 3,_=>exact Nat.le_refl 5
  | 4,_=>exact Nat.le_refl 5
 refine⟨_,rfl,_,rfl,_,rfl,q,_,rfl,.of eq,fun p1 np1=>?_⟩
 have v1:=aq.new (o:=.lst (jM (rV [g0,g1,g2,g3,g4]) (some (j:Int)) none)) np1
 refine⟨_,rfl,_,rfl,_,rfl,q,_,rfl,.of (v1 _ _ eq),fun p2 np2=>?_⟩
 have v2:=aq.new (o:=.lst (jM (rV [g0,g1,g2,g3,g4]) none (some (j:Int)))) np2
 have y1:=v2 _ _ (aj (H:=H1) (a:=p1) (o:=.lst (jM (rV [g0,g1,g2,g3,g4]) (some (j:Int)) none)))
 refine⟨p1,p2,_,_,rfl,rfl,y1,aj,by omega,fun p3 np3=>?_⟩
 have v3:=aq.new (o:=.lst (jM (rV [g0,g1,g2,g3,g4]) (some (j:Int)) none++jM (rV [g0,g1,g2,g3,g4]) none (some (j:Int)))) np3
 refine⟨_,rfl,p3,_,rfl,.of aj,fun p4 np4=>?_⟩
 rw[VX]
 have v4:=aq.new (o:=.lst (rV (Bi j [g0,g1,g2,g3,g4]))) np4
 have vt:=v1.trans (v2.trans v3)
 refine k p4 _ j _ (wt.trans (vt.trans v4)) ((wt.trans vt).free np4) ?_ VW ((cX.Bi R1 j).same (vt.trans v4))
 rw[aj]
def qy (K:Frag) (C:Addr):Sp:=fun vs H Q _=>∃(x c a p g:Addr) (xs:List Int) (as:List Addr) (rs ds:List Rw) (aB:List (Key×V)) (r:Rw) (m n:Nat),vs=[.ref x,.ref c,.ref a,.ref p,.ref g]∧Jf H C x m rs∧bP K H c (rV as)∧cX H m as rs∧Fr m rs ds∧bP K H a (zV xs)∧BN m 30 xs∧(∀r∈rs,lay r xs=xs)∧H p=some (.dK aB)∧gQ H rs (i3 (n:Int) m) aB∧H g=some (.tup r.vals)∧r.ok m∧eW r≤n∧1≤m∧m≤6∧rs.length≤6∧∀H',aq H H'→Q (.bl true) H'
theorem ub (a b:Rw):Ar a b = !sy a b:=by
 unfold Ar sy
 cases par (a.x&&&b.z)<;>cases par (a.z&&&b.x)<;>rfl
theorem zI (rs:List Rw) (t:Rw):C6 (fun i=>sy (ra rs i) t) rs.length=qo rs t:=by
 unfold qo
 rw[show (fun i=>sy (ra rs i) t)=fun i=>!Ar (ra rs i) t from funext fun i=>by rw[ub,Bool.not_not]]
theorem uX {m k:Nat}(m6:m≤6) {xs:List Int}(h:BN m k xs) {r:Rw}(ok:r.ok m):BN m k (lay r xs):=⟨by rw[ax,h.l],wY m6 h.l h.s ok,uh h.z h.l ok⟩
theorem qz {m:Nat}{rs ds:List Rw}(F:Fr m rs ds) {xs:List Int}(hl:xs.length=2^m) (hk:∀r∈rs,lay r xs=xs) {t:Rw}(ht:t.ok m):∀i,i<rs.length→lay (ra rs i) (lay t xs)=(lay t xs).map (sgn (if sy (ra rs i) t then 1 else 0) * ·):=fun i hi =>
 have mem:=mem_of_getElem? (dS hi)
 zf hl (F.c.ok _ mem) ht (hk _ mem)
theorem o9 (xs:List Int):(zV xs).all e8=true:=by rw[zV,List.all_map,all_eq_true];intro _ _;rfl
theorem Jz (xs:List Int):(zV xs).map (fun v=>match v with | .int n=>V.int (0-n)|v=>v)=zV (xs.map ((-1) * ·)):=by
 rw[zV,zV,List.map_map,List.map_map]
 refine map_congr_left fun n _=>?_
 show V.int (0-n)=V.int (-1*n)
 congr 1;omega
def uY (K:Frag):Sp:=fun vs H Q _=>∃(a:Addr) (ns:List Int),vs=[.ref a]∧bP K H a (zV ns)∧ns.length≤63∧∀H',Q (.bl true) H'
theorem Ga {k:Nat}(hk:k<5):Fr 5 (Bi k xY) ((SD k).take 4)∧(Bi k xY).length=4:=by
 have hl:(Bi k xY).length=4:=by
  have:∀k:Fin 5,(Bi k.1 xY).length=4:=by decide +kernel
  exact this ⟨k,hk⟩
 have hT:=Fr.tk (Jx k hk) 4
 rw[List.take_append_of_le_length (by omega),List.take_of_length_le (by omega)] at hT
 exact⟨hT,hl⟩
/- _law_mended: 0:_law_code 1:_law_checks_here 2:_law_numbers 3:_law_mending 4:_law_turn 5:_law_there 6:_law_seen_here 7:_law_back -/
abbrev cT:Stmt:=top 69
theorem d4:aw Z07 Z01 (ae cT):=eX
theorem zJ (T:eK mg) (D:Def K mg "_law_mended" cT Z01) (eh:bh P w K mg base aS 2 "_law_laid" Z12 (mT K)) (jh:bh P w K mg base aS 7 "_law_seen" Z10 (qv K)) (uT:wO P w K mg base 3 C "marks" (qp K C)):bh P w K mg base aS 8 "_law_mended" Z01 (qy K C):=by
 refine D.ok d4 (fun vs H Q E h=>?_) (fun f aR A outer s H vs Q E hr h=>?_)
 ·obtain⟨x,c,a,p,g,xs,as,rs,ds,aB,r,m,n,rfl,_⟩:=h;rfl
 obtain⟨x,c,a,p,g,xs,as,rs,ds,aB,r,m,n,rfl,hc,hC,hR,hF,hA,hX,hk,ep,hT,eg,fg,bR,m1,m6,hl,k⟩:=h
 obtain⟨dx,l,Ji,ex,el,VP⟩:=hc.ex
 have hs:Small xs:=hX.z.small (by decide)
 have hL:=uX m6 hX fg
 refine⟨_,(ai (az (i:=5) d4.nd rfl (Or.inl rfl) (ay eh hr.sub (aa (pv 2) (aa (pv 4) ah))))
   (ai (az (i:=6) d4.nd rfl (Or.inl rfl) (ay jh hr.sub (aa (pv 5) (aa (pv 1) ah))))
   (ai (bJ (PW.pt (pw_or (aE mv (pv 6) (uA uT hr.sub (pv 0) (aa (pv 4) ah)) (aI _)) (pw_or1 (aE (qb hr.nE) (pv 6) (pv 3) rfl))))
    (ao (aD zW))
    aJ)
   (ai (az (i:=7) d4.nd rfl (Or.inl rfl) (ay eh hr.sub (aa (pv 5) (aa (aC (Fi hr.nE) (pv 3) (pv 6) (fun _ _=>rfl)) ah))))
   (ao (aD (NS (eI (wm K hr.yo) (pv 7) (pv 2) (aI _)) (yb (eI (wm K hr.yo) (pv 7) (eJ rfl d4.nd (cs (N:=Z07) (osc:=ae cT) (by decide +kernel)) (bQ K (pv 2)) (fun _ _ _ _=>b9) (fun _ _ _ _=>(ak dQ af (pv 0)))) (aI _)))))))))),?_⟩
 refine⟨_,rfl,_,rfl,a,g,xs,m,r,rfl,hA,dt eg,hX.l,m6,hs,fg,fun q H1 s1 nq eq=>?_⟩
 dsimp only [aP]
 refine⟨_,rfl,_,rfl,q,c,lay r xs,as,rs,m,30,fun i=>sy (ra rs i) r,rfl,.of eq,hL,by decide,m1,m6,s1.seq hC,hR.same s1,hF.c.ev,hl,qz hF hX.l hk fg,fun H2 s2=>?_⟩
 rw[zI]
 dsimp only [aP]
 have t2:=s1.trans s2
 have VL:(⟨1,r.x,r.z⟩:Rw)∈i3 (n:Int) m:=(fJ _ m m6 _).mpr ⟨⟨rfl,fg.x,fg.z⟩,.inr (by show ((eW r:Nat):Int)≤_;omega)⟩
 obtain⟨u,cc,hv,ec,hu,hm,_,kk,hI⟩:=hT.to _ VL
 have hv:dc aB (kM rs r)=some (.ref cc):=hv
 have Cg:=(lX m6 hu).1
 refine⟨_,rfl,_,rfl,x,dx,_,rfl,t2 _ _ ex,rfl,_,rfl,x,g,rs,r,m,rfl,hc.same t2,dt (t2 _ _ eg),fg,m6,hl,fun H3 s3=>?_⟩
 have t3:=t2.trans s3
 refine⟨rfl,_,rfl,bV (by rw[decide_eq_true rfl];rfl) ?_⟩
 refine⟨_,rfl,_,rfl,p,aB,kM rs r,rfl,rfl,t3 _ _ ep,_,rfl,bV (by rw[hv];rfl) ?_⟩
 have eq3:=s3 _ _ (s2 _ _ eq)
 refine⟨_,rfl,_,rfl,_,rfl,p,aB,kM rs r,.ref cc,rfl,rfl,t3 _ _ ep,hv,q,cc,lay r xs,m,u,rfl,.of eq3,dt (t3 _ _ ec),hL.l,m6,hL.z.small (by decide),Cg,fun q2 H4 s4 Kp eq2=>?_⟩
 dsimp only [aP]
 have t4:=t3.trans s4
 have hbk:=xc hF.c hX.l hk Cg fg (n:=kk) hI.2.1 hI.2.2
 have A4:=t4.seq hA
 refine⟨_,rfl,_,rfl,q2,a,_,_,rfl,rfl,.inl ⟨.of eq2,A4⟩,o9 _,o9 _,_,rfl,?_⟩
 have ee:hZ (zV (lay u (lay r xs))) (zV xs)=decide (lay u (lay r xs)=xs):=nC _ _
 by_cases h1:lay u (lay r xs)=xs
 ·refine lQ (by show hZ (zV (lay u (lay r xs))) (zV xs)=true;rw[ee,decide_eq_true h1]) ?_
  exact k H4 t4
 ·refine bV (by show hZ (zV (lay u (lay r xs))) (zV xs)=false;rw[ee,decide_eq_false h1]) ?_
  have h2:lay u (lay r xs)=xs.map ((-1) * ·):=hbk.resolve_left h1
  have RU:xs.length≤64:=by rw[hX.l];exact Nat.pow_le_pow_right (n:=2) (by decide) m6
  refine⟨_,rfl,_,rfl,a,rfl,⟨_,A4⟩,nD (K:=K) (a:=a) (xs:=zV xs) (fun v=>match v with | .int n=>V.int (0-n)|v=>v) A4 (aH (by rw[length_map];omega)) ?_ ?_⟩
  ·intro i y H' Q' hi s' q'
   obtain⟨nn,hn,rfl⟩:=gD hi
   exact⟨_,rfl,_,_,rfl,rfl,q' H' (.refl H')⟩
  intro q3 H5 s5 nq3 Qm
  rw[Jz] at Qm
  refine⟨q2,q3,_,_,rfl,rfl,.inl ⟨.of (s5 _ _ eq2),.of Qm⟩,o9 _,o9 _,?_⟩
  have e3:hZ (zV (lay u (lay r xs))) (zV (xs.map ((-1) * ·)))=true:=by rw[h2];exact(nC _ _).trans (decide_eq_true rfl)
  show Q (.bl (hZ (zV (lay u (lay r xs))) (zV (xs.map ((-1) * ·))))) H5
  rw[e3]
  exact k H5 (t4.trans s5)
/- law: 0:_law_script 1:_law_first 2:_law_coins 3:_law_checks_here 4:_law_numbers 5:_law_code 6:_law_many_here 7:_law_k 8:_law_one_here 9:_law_mending 10:_law_cant 11:_law_turn -/
abbrev mU:Stmt:=top 70
theorem eU:aw ["_law_script","_law_first","_law_coins","_law_checks_here","_law_numbers","_law_code","_law_many_here","_law_k","_law_one_here","_law_mending","_law_cant","_law_turn"] ["_law_script"] (ae mU):=eX
theorem MY (T:eK mg) (Qn:mg "min"=none) (F6:mg "max"=none) (xi:yT K nM "CantMend.__init__" dz Z21) (P9:bz K nM "one") (Qa:bz K nM "other") {f:Addr}{fd:FuncData}(F:CT K "law" "law" mU f fd) (cu:bh P w K mg base aS 1 "_law_number" Z04 (o8 K)) (uZ:bh P w K mg base aS 3 "_law_checks" Z02 (tf K)) (zK:bh P w K mg base aS 1 "_law_ring" Z09 Bj) (zL:bh P w K mg base aS 3 "_law_kept" Z08 (xq K)) (MZ:Iz P w K mg base 8 "Code" C (A7 K C)) (u6:bh P w K mg base aS 9 "_law_tables" ["_law_code"] (Bh C nM)) (zM:bh P w K mg base aS 1 "_law_many" ["_law_cant"] (xE nM)) (xG:bh P w K mg base aS 1 "_law_wrong" Z05 sX) (u7:bh P w K mg base aS 8 "_law_mended" Z01 (qy K C)) (eh:bh P w K mg base aS 2 "_law_laid" Z12 (mT K)) (jh:bh P w K mg base aS 7 "_law_seen" Z10 (qv K)) :
  fj P w K mg base aS 10 f fd ["_law_script"] (uY K):=by
 refine F.ok eU (fun vs H Q E h=>?_) (fun aR A outer s H vs Q E hr h=>?_)
 ·obtain⟨a,ns,rfl,_⟩:=h;rfl
 obtain⟨a,ss,rfl,hS,hl,k⟩:=h
 have lb:(1000:Nat)≤sizeLine:=aH (by decide)
 have hh:=xi.fl.hd
 refine⟨_,(ai (az (i:=1) eU.nd rfl (Or.inl rfl) (ay cu hr.sub (aa (pv 0) (aa af ah))))
   (ai (az (i:=2) eU.nd rfl (Or.inl rfl) (ak bS af (ak ba (pv 1) af)))
   (ai (az (i:=3) eU.nd rfl (Or.inl rfl) (ay uZ hr.sub (aa (pv 0) (aa af (aa (pv 2) (aa (ak ba (ak bK (pv 1) af) (ak bS (pv 2) af)) ah))))))
   (ai (bJ (aE e7 (ak ba (ak bK (pv 1) af) af) af (aI _))
    (ai (az (i:=2) eU.nd rfl (Or.inl rfl) af)
    (ao (az (i:=3) eU.nd rfl (Or.inl rfl) (ay zK hr.sub (aa (ak bK (pv 1) af) ah)))))
    aJ)
   (ai (az (i:=4) eU.nd rfl (Or.inl rfl) (ay zL hr.sub (aa (pv 0) (aa (pv 3) (aa (pv 2) ah)))))
   (ai (az (i:=5) eU.nd rfl (Or.inl rfl) (ID MZ hr.sub (aa (pv 2) (aa (iE (iT K) (by rfl) T.tN oV (aa (pv 3) ah)) ah))))
   (ai (pe (ay u6 hr.sub (aa (pv 5) ah)) (iU K rfl (b7 (aK (i:=9) eU.nd rfl (Or.inl rfl)) (b7 (aK (i:=10) eU.nd rfl (Or.inl rfl)) iO))))
   (ai (az (i:=6) eU.nd rfl (Or.inl rfl) (ay zM hr.sub (aa (pv 10) ah)))
   (ai (cy PassesOwn.never rfl (kL rfl T.cq (aa af (aa (bA (Bx rfl) (by rfl) F6 D2 (aa af (aa (bA (By rfl) (by rfl) Qn Lv (aa (jF (aE mw (pv 2) af (aI _)) af af) (aa (bA (cW K) (by rfl) T.lF ic (aa (pv 0) ah)) ah))) ah))) ah))) (aK (i:=7) eU.nd rfl (Or.inl rfl))
    (ai (az (i:=11) eU.nd rfl (Or.inl rfl) (ay xG hr.sub (aa (ay cu hr.sub (aa (pv 0) (aa (pv 7) ah))) (aa (pv 2) (aa (pv 6) ah)))))
    (ao (bJ (iN (fY (ay u7 hr.sub (aa (pv 5) (aa (pv 3) (aa (pv 4) (aa (pv 9) (aa (pv 11) ah))))))))
     (ao (aD zW))
     aJ))))
   (ai (bJ (aE yh (pv 10) nt (aI _))
    (ao (aD zW))
    aJ)
   (ai (az (i:=8) eU.nd rfl (Or.inl rfl) (ay jh hr.sub (aa (ay eh hr.sub (aa (pv 4) (aa (o4 (pv 10)) ah))) (aa (pv 3) ah))))
   (ao (aD (De (eI Aa (pv 8) af (aI _)) (yb (eI e7 (pv 8) (ay jh hr.sub (aa (ay eh hr.sub (aa (pv 4) (aa (o4 (pv 10)) ah))) (aa (pv 3) ah))) (aI _))))))))))))))))),?_⟩
 refine⟨_,rfl,a,ss,0,rfl,hS,hl,by omega,fun c1 Qo H1 s1=>?_⟩
 have a0:=fc c1 (m:=4) (by decide)
 have a1:=gb c1 (m:=4) (by decide)
 refine⟨_,rfl,_,_,rfl,rfl,(by show (0:Int)<_;decide),_,_,rfl,rfl,?_⟩
 obtain⟨m0,HC,VY,VZ⟩:∃m:Nat,1+c1%4=(m:Int)∧1≤m∧m≤6:=⟨(1+c1%4).toNat,by omega,by omega,by omega⟩
 dsimp only [aP]
 rw[HC]
 refine⟨_,rfl,_,rfl,_,rfl,_,_,rfl,rfl,Ap (by decide) (by decide),_,rfl,_,_,rfl,rfl,_,_,rfl,rfl,by show (0:Int)<(m0:Int)+1;omega,?_⟩
 have b0:=fc (c1.fdiv 4) (m:=(m0:Int)+1) (by omega)
 have b1:=gb (c1.fdiv 4) (m:=(m0:Int)+1) (by omega)
 obtain⟨n0,hn,CU⟩:∃n:Nat,c1.fdiv 4%((m0:Int)+1)=(n:Int)∧n≤m0:=⟨(c1.fdiv 4%((m0:Int)+1)).toNat,by omega,by omega⟩
 dsimp only
 rw[hn]
 refine⟨a,ss,1,m0,n0,rfl,s1.seq hS,hl,by decide,VY,VZ,CU,fun q0 qs0 Sv VO H2 s2 NA eq0 hR0 hF0 V0=>?_⟩
 have t2:=s1.trans s2
 dsimp only [aP]
 refine zD (ι:=St) (κ:=Hp) (C:=fun σ H'=>∃(m:Nat) (q:Addr) (qs:List Addr) (rs ds:List Rw),σ=[some (.ref a),some (.int c1),some (.int m),some (.ref q),none,none,none,none,none,none,none,none]∧1≤m∧m≤6∧aq H H'∧H' q=some (.lst (rV qs))∧cX H' m qs rs∧Fr m rs ds∧rs.length≤m) (G:=?G3) (fun rest=>?ja3) ?jk3
 case ja3 =>
  refine⟨_,rfl,_,_,rfl,rfl,Ap (by decide) (by decide),_,_,rfl,rfl,(by show (0:Int)<_;decide),rfl,_,rfl,wc (fun d1=>?_) (fun d1=>?_)⟩
  ·refine⟨_,rfl,_,_,rfl,rfl,Ap (by decide) (by decide),c1.fdiv 128,rfl,by rw[Int.fdiv_eq_ediv_of_nonneg _ (by decide)];exact Int.ediv_nonneg Qo (by decide),fun q qs kk H3 s3 nq eq hk5 hR=>?_⟩
   obtain⟨Si,hl5⟩:=Ga hk5
   dsimp only [aP]
   generalize hσ:List.set _ 3 _=σx
   exact rest σx H3 ⟨5,q,qs,Bi kk xY,(SD kk).take 4,hσ.symm,by decide,by decide,t2.trans s3,eq,hR,Si,by omega⟩
  ·dsimp only [Df,aP]
   generalize hσ:List.set _ 3 _=σx
   generalize hH:H2=Hx
   exact rest σx Hx ⟨m0,q0,qs0,Sv,VO,hσ.symm,VY,VZ,hH▸t2,hH▸eq0,hH▸hR0,hF0,by omega⟩
 case jk3 =>
 clear hR0 hF0 V0 eq0 NA t2 s2 CU hn b0 b1 HC VY VZ
 rintro σ H3 ⟨m,q,qs,rs,ds,rfl,m1,m6,t3,eq,hR,hF,xt⟩
 have hql:qs.length=rs.length:=hR.l
 refine⟨_,rfl,_,rfl,_,rfl,a,q,ss,qs,rs,ds,m,rfl,t3.seq hS,hl,.of eq,hR,hF,m6,by omega,fun b xs V1 V2 eb hX hk=>?_⟩
 have t3:=t3.trans V2
 have eq:=V2 _ _ eq
 have hR:=hR.same V2
 dsimp only [aP]
 refine⟨_,rfl,_,rfl,q,_,rfl,.inl (.of eq),fun l1 VE x1 JA V3 Qp V4=>?_⟩
 have u1:=aq.new (o:=.lst (rV qs)) VE
 have V5:upd V1 l1 (.lst (rV qs)) l1=some (.lst (rV qs)):=aj
 generalize upd V1 l1 (.lst (rV qs))=H4 at u1 V5 V3 Qp ⊢
 have v4:aq H4 (upd (upd H4 JA (.own x1)) x1 (.ins C JA [])):=(aq.new Qp).trans (aq.new (by rw[aA (Ne.symm V4)];exact V3))
 have w4:=u1.trans v4
 have MH:upd (upd H4 JA (.own x1)) x1 (.ins C JA []) x1=some (.ins C JA []):=aj
 generalize upd (upd H4 JA (.own x1)) x1 (.ins C JA [])=H5 at v4 w4 MH ⊢
 refine⟨x1,JA,l1,qs,rs,ds,m,rfl,.of (v4 _ _ V5),hR.same w4,hF,m1,m6,xt,MH,fun z1 H6 ex6 ez6 kp6=>⟨rfl,?_⟩⟩
 have s6:aq V1 H6:=fun b o h=>kp6 b o (aF (u1 _ _ h) V3) (w4 _ _ h)
 have t6:=t3.trans s6
 have NL:Jf H6 C x1 m rs:=⟨JA,z1,qs,ex6,ez6,hR.same s6⟩
 have eq:=s6 _ _ eq
 have hR:=hR.same s6
 have eb:=s6 _ _ eb
 dsimp only [aP]
 clear s6 kp6 ex6 ez6 MH w4 v4 V5 u1
 refine⟨_,rfl,x1,rs,ds,m,rfl,NL,m1,m6,by omega,hF,fun qt v1 v2 H7 s7 eqt hT=>?_⟩
 refine⟨qt,_,rfl,dt eqt,rfl,_,_,rfl,_,_,rfl,rfl,?_⟩
 have t7:=t6.trans s7
 have eq:=s7 _ _ eq
 have hR:=hR.same s7
 have eb:=s7 _ _ eb
 have NL:=NL.same s7
 refine zD (ι:=St) (κ:=Hp) (C:=fun σ H'=>∃(p:Addr) (aB:List (Key×V)) (n:Nat) (vc:V),σ=[some (.ref a),some (.int c1),some (.int m),some (.ref q),some (.ref b),some (.ref x1),some (.int n),none,none,some (.ref p),some vc,none]∧aq H7 H'∧n≤2∧H' p=some (.dK aB)∧gQ H' rs (i3 (n:Int) m) aB∧(vc = .cH∨∃e k t u,vc = .ref e∧NJ H' nM m k rs e t u)) (G:=?G5) (fun rest=>?ja5) ?jk5
 case ja5 =>
  rcases hT with⟨p,aB,rfl,rfl,ep,hT⟩|⟨p,aB,e,kk,t,u,rfl,rfl,ep,Ua,Ub,hT,JB⟩
  ·refine⟨_,rfl,.inl ⟨rfl,?_⟩⟩
   dsimp only [aP]
   generalize hσ:List.set _ 6 _=σx
   generalize hH:H7=Hx
   exact rest σx Hx ⟨p,aB,2,.cH,hσ.symm,hH▸.refl H7,by decide,hH▸ep,hH▸hT (by decide),.inl rfl⟩
  ·refine⟨_,rfl,.inr ⟨e,m,kk,rs,t,u,rfl,m6,JB,fun H8 s8=>?_⟩⟩
   dsimp only [aP]
   rw[show (kk:Int)-1=((kk-1:Nat):Int) by omega]
   generalize hσ:List.set _ 6 _=σx
   exact rest σx H8 ⟨p,aB,kk-1,.ref e,hσ.symm,s8,by omega,s8 _ _ ep,hT.same fun _ _ h=>s8 _ _ h,.inr ⟨e,kk,t,u,rfl,JB.same s8⟩⟩
 case jk5 =>
 clear hT eqt
 rintro σ H8 ⟨p,aB,n,vc,rfl,s8,n2,ep,hT,hvc⟩
 have t8:=t7.trans s8
 have eq:=s8 _ _ eq
 have hR:=hR.same s8
 have eb:=s8 _ _ eb
 have NL:=NL.same s8
 refine D0 (ι:=Int) (C:=fun z=>0≤z∧z≤62) (G:=?G6) (fun rest=>?ja6) ?jk6
 case ja6 =>
  refine⟨_,rfl,_,_,rfl,rfl,_,rfl,?_⟩
  by_cases h4:(m:Int)<4
  ·refine q9 h4 ?_
   generalize hz:(62:Int)=z
   exact rest z (by omega)
  ·refine mF h4 ?_
   generalize hz:(44:Int)=z
   exact rest z (by omega)
 case jk6 =>
 rintro zl ⟨zl0,zl1⟩
 refine⟨_,rfl,a,_,rfl,.inl (t8.seq hS),_,_,rfl,_,_,rfl,?_⟩
 obtain⟨e,he,T3⟩:∃e:Int,(if (if ((zV ss).length:Int)<zl then ((zV ss).length:Int) else zl) > 33 then (if ((zV ss).length:Int)<zl then ((zV ss).length:Int) else zl) else 33)=e∧(33≤e∧e≤62):=⟨_,rfl,by split<;>split<;>omega⟩
 rw[he]
 refine⟨32,e,rfl,⟨by decide,by decide,by omega,by omega⟩,ck (lo:=32) (n:=(e-32).toNat) (fun i σ H'=>∃(v7 v11:Option V),σ=[some (.ref a),some (.int c1),some (.int m),some (.ref q),some (.ref b),some (.ref x1),some (.int n),v7,none,some (.ref p),some vc,v11]∧aq H8 H') ⟨_,_,rfl,.refl H8⟩ ?_ ?_⟩
 ·rintro i σ H9 hi ⟨v7,v11,rfl,s9⟩
  have t9:=t8.trans s9
  refine⟨_,rfl,_,rfl,a,ss,32+i,by show [V.ref a,V.int (32+(i:Int))]++[]=_;rw[Int.natCast_add];rfl,t9.seq hS,hl,by omega,fun cc cc0 Gz AZ=>?_⟩
  refine⟨_,rfl,_,rfl,cc,m,n,rfl,cc0,m1,m6,n2,fun g r ME vK eg fg bR=>?_⟩
  dsimp only [aP]
  have rJ:=s9.trans (AZ.trans vK)
  refine⟨_,rfl,_,rfl,_,rfl,_,rfl,_,rfl,x1,q,b,p,g,xs,qs,rs,ds,aB,r,m,n,rfl,NL.same rJ,.of (rJ _ _ eq),hR.same rJ,hF,.of (rJ _ _ eb),hX,hk,rJ _ _ ep,hT.same (fun _ _ h=>rJ _ _ h),eg,fg,bR,m1,m6,by omega,fun MS uP=>⟨_,rfl,js ?_⟩⟩
  exact⟨_,_,rfl,rJ.trans uP⟩
 ·rintro σ H9 ⟨v7,v11,rfl,s9⟩
  rcases hvc with rfl|⟨e2,kk,t,u,rfl,JB⟩
  ·exact⟨_,rfl,rfl,_,rfl,qY (k _)⟩
  refine⟨_,rfl,rfl,_,rfl,js ?_⟩
  have JB:=JB.same s9
  obtain⟨ta,tb,d,ee,ed,ea,E8⟩:=JB.ex
  have tok:=(lX m6 JB.t1).1
  have Cg:=(lX m6 JB.u1).1
  have hs:Small xs:=hX.z.small (by decide)
  refine⟨_,rfl,_,rfl,e2,nM,d,_,.ref ta,rfl,ee,ed,xi.c,hh,P9,rfl,b,ta,xs,m,t,rfl,.of (s9 _ _ eb),dt ea,hX.l,m6,hs,tok,fun q2 Gz AZ Kp eq2=>?_⟩
  have zv:=s9.trans AZ
  refine⟨_,rfl,q2,q,lay t xs,qs,rs,m,30,fun i=>sy (ra rs i) t,rfl,.of eq2,uX m6 hX tok,by decide,m1,m6,.of (zv _ _ eq),hR.same zv,hF.c.ev,by omega,qz hF hX.l hk tok,fun ME vK=>?_⟩
  rw[zI]
  dsimp only [aP]
  refine⟨_,rfl,_,_,rfl,rfl,_,rfl,q9 (Int.natCast_nonneg _) ?_⟩
  have oB:=AZ.trans vK
  have rJ:=s9.trans oB
  refine⟨_,rfl,_,rfl,_,rfl,e2,nM,d,_,.ref tb,rfl,oB _ _ ee,oB _ _ ed,xi.c,hh,Qa,rfl,b,tb,xs,m,u,rfl,.of (rJ _ _ eb),dt (oB _ _ E8),hX.l,m6,hs,Cg,fun q3 MS uP nq3 eq3=>?_⟩
  have Qq:=rJ.trans uP
  refine⟨_,rfl,q3,q,lay u xs,qs,rs,m,30,fun i=>sy (ra rs i) u,rfl,.of eq3,uX m6 hX Cg,by decide,m1,m6,.of (Qq _ _ eq),hR.same Qq,hF.c.ev,by omega,qz hF hX.l hk Cg,fun H13 NG=>?_⟩
  rw[zI,JB.mq]
  refine⟨rfl,?_⟩
  rw[decide_eq_true rfl]
  exact k _
end
theorem lY {us:List Value}{n:Nat}(h:us.length=n+1):∃x vs,us=x::vs∧vs.length=n:=by cases us with|nil=>cases h|cons x vs=>exact⟨x,vs,rfl,Nat.succ.inj h⟩
theorem iL {us:List Value}(h:us.length=1):∃x0,us=[x0]:=by obtain⟨x0,u0,rfl,h0⟩:=lY h;have e:=length_eq_zero_iff.mp h0;subst e;exact⟨x0,rfl⟩
theorem fU {us:List Value}(h:us.length=2):∃x0 x1,us=[x0,x1]:=by obtain⟨x0,u0,rfl,h0⟩:=lY h;obtain⟨x1,u1,rfl,h1⟩:=lY h0;have e:=length_eq_zero_iff.mp h1;subst e;exact⟨x0,x1,rfl⟩
theorem zN {us:List Value}(h:us.length=3):∃x0 x1 x2,us=[x0,x1,x2]:=by obtain⟨x0,u0,rfl,h0⟩:=lY h;obtain⟨x1,u1,rfl,h1⟩:=lY h0;obtain⟨x2,u2,rfl,h2⟩:=lY h1;have e:=length_eq_zero_iff.mp h2;subst e;exact⟨x0,x1,x2,rfl⟩
theorem V6 {us:List Value}(h:us.length=4):∃x0 x1 x2 x3,us=[x0,x1,x2,x3]:=by obtain⟨x0,u0,rfl,h0⟩:=lY h;obtain⟨x1,u1,rfl,h1⟩:=lY h0;obtain⟨x2,u2,rfl,h2⟩:=lY h1;obtain⟨x3,u3,rfl,h3⟩:=lY h2;have e:=length_eq_zero_iff.mp h3;subst e;exact⟨x0,x1,x2,x3,rfl⟩
theorem V7 {us:List Value}(h:us.length=5):∃x0 x1 x2 x3 x4,us=[x0,x1,x2,x3,x4]:=by obtain⟨x0,u0,rfl,h0⟩:=lY h;obtain⟨x1,u1,rfl,h1⟩:=lY h0;obtain⟨x2,u2,rfl,h2⟩:=lY h1;obtain⟨x3,u3,rfl,h3⟩:=lY h2;obtain⟨x4,u4,rfl,h4⟩:=lY h3;have e:=length_eq_zero_iff.mp h4;subst e;exact⟨x0,x1,x2,x3,x4,rfl⟩
theorem all_mk {l:PySem.W.OpenLaw}{w:World}{K:Frag}{h:Heap}{mg:Str→Option Value}{fa:Addr}(X:K.In h) (G:h.Ns mainGlobals mg) (hfa:mg "law"=some (.ref fa))
  {f0:Addr}{od0 an0:Option Addr}{sl0:Array (Option Value)}{oc0 kV0 dc0 pm0 NM ct0:Value}
  {f1:Addr}{od1 an1:Option Addr}{sl1:Array (Option Value)}{oc1 kV1 dc1 pm1 cd1 ct1:Value}
  {f2:Addr}{Us an2:Option Addr}{Ut:Array (Option Value)}{Uu kV2 dc2 pm2 cd2 ct2:Value}
  {f3:Addr}{od3 an3:Option Addr}{sl3:Array (Option Value)}{oc3 kV3 dc3 pm3 cd3 ct3:Value}
  {f4:Addr}{od4 an4:Option Addr}{sl4:Array (Option Value)}{oc4 kV4 dc4 pm4 cd4 ct4:Value}
  {f5:Addr}{od5 an5:Option Addr}{sl5:Array (Option Value)}{oc5 kV5 dc5 pm5 cd5 ct5:Value}
  {f6:Addr}{od6 an6:Option Addr}{sl6:Array (Option Value)}{oc6 kV6 dc6 pm6 cd6 ct6:Value}
  {f7:Addr}{od7 an7:Option Addr}{sl7:Array (Option Value)}{oc7 kV7 dc7 pm7 cd7 ct7:Value}
  {f8:Addr}{od8 an8:Option Addr}{sl8:Array (Option Value)}{oc8 kV8 dc8 pm8 cd8 ct8:Value}
  {f9:Addr}{od9 an9:Option Addr}{sl9:Array (Option Value)}{oc9 kV9 dc9 pm9 cd9 ct9:Value}
  {V8:Addr}{V9 Wa:Option Addr}{Wb:Array (Option Value)}{Wc Wd We Wf Qr Wg:Value}
  {Wh:Addr}{Wi Wj:Option Addr}{Wl:Array (Option Value)}{Wm Wn Wo Wq Qt Wr:Value}
  {Ws:Addr}{Wt Wu:Option Addr}{Wv:Array (Option Value)}{Ww Wx Wy Wz Qu WA:Value}
  {WB:Addr}{WC WD:Option Addr}{WE:Array (Option Value)}{WG WH WI WJ Qv WK:Value}
  {WL:Addr}{WM WN:Option Addr}{WO:Array (Option Value)}{WQ WR WS WT Qw WU:Value}
  {WV:Addr}{WW WX:Option Addr}{WY:Array (Option Value)}{WZ W3 W4 W5 Qx W6:Value}
  {W7:Addr}{W8 W9:Option Addr}{Xa:Array (Option Value)}{Xb Xc Xd Xe Qy Xf:Value}
  {Xg:Addr}{Xh Xi:Option Addr}{Xj:Array (Option Value)}{Xk Xl Xm Xn Qz Xo:Value}
  {Xp:Addr}{Xq Xr:Option Addr}{Xs:Array (Option Value)}{Xt Xu Xv Xw QB Xx:Value}
  {Xy:Addr}{Xz XA:Option Addr}{XC:Array (Option Value)}{XD XE XF XG QC XH:Value}
  {XI:Addr}{XJ XM:Option Addr}{XN:Array (Option Value)}{XO XQ XR XT QD XU:Value}
  {XW:Addr}{XX XY:Option Addr}{XZ:Array (Option Value)}{X1 X2 X3 X4 QF X5:Value}
  {X6:Addr}{X7 X8:Option Addr}{X9:Array (Option Value)}{Ya Yb Yc Yd QG Ye:Value}
  {Yf:Addr}{Yg Yh:Option Addr}{Yi:Array (Option Value)}{Yj Yk Yl Ym QH Yn:Value}
  {Yo:Addr}{Yp Yq:Option Addr}{Yr:Array (Option Value)}{Ys Yt Yu Yv QI Yw:Value}
  {Yx:Addr}{Yy Yz:Option Addr}{YA:Array (Option Value)}{YB YC YD YE QJ YF:Value}
  {YG:Addr}{YH YI:Option Addr}{YJ:Array (Option Value)}{YK YL YM YN QK YO:Value}
  {YQ:Addr}{YR YS:Option Addr}{YT:Array (Option Value)}{YU YV YW YX QL YY:Value}
  {YZ:Addr}{Y0 Y1:Option Addr}{Y2:Array (Option Value)}{Y3 Y4 Y5 Y6 QM Y7:Value}
  {Y8:Addr}{Y9 Za:Option Addr}{Zb:Array (Option Value)}{Zc Zd Ze Zf QN Zg:Value}
  {Zh:Addr}{Zi Zj:Option Addr}{Zk:Array (Option Value)}{Zl Zm Zn Zo QO Zp:Value}
  {Zq:Addr}{Zr Zs:Option Addr}{Zt:Array (Option Value)}{Zu Zv Zw Zx QP Zy:Value}
  {Zz:Addr}{ZA ZC:Option Addr}{ZD:Array (Option Value)}{ZE ZF ZG ZH QQ ZI:Value}
  {ZJ:Addr}{ZK ZL:Option Addr}{ZM:Array (Option Value)}{ZN ZO ZP ZQ QR ZR:Value}
  {ZT:Addr}{ZU ZV:Option Addr}{ZW:Array (Option Value)}{ZX ZY ZZ Z0 QT Z1:Value}
  {Z2:Addr}{Z3 Z4:Option Addr}{Z5:Array (Option Value)}{Z6 Z7 Z8 Z9 QU ct35:Value}
  {f36:Addr}{od36 an36:Option Addr}{sl36:Array (Option Value)}{oc36 kV36 dc36 pm36 QV ct36:Value}
  {f37:Addr}{od37 an37:Option Addr}{sl37:Array (Option Value)}{oc37 kV37 dc37 pm37 QW ct37:Value}
  {f38:Addr}{od38 an38:Option Addr}{sl38:Array (Option Value)}{oc38 kV38 dc38 pm38 QX ct38:Value}
  {f39:Addr}{od39 an39:Option Addr}{sl39:Array (Option Value)}{oc39 kV39 dc39 pm39 QY ct39:Value}
  {f40:Addr}{od40 an40:Option Addr}{sl40:Array (Option Value)}{oc40 kV40 dc40 pm40 QZ ct40:Value}
  {f41:Addr}{od41 an41:Option Addr}{sl41:Array (Option Value)}{oc41 kV41 dc41 pm41 Q0 ct41:Value}
  {f42:Addr}{od42 an42:Option Addr}{sl42:Array (Option Value)}{oc42 kV42 dc42 pm42 Q1 ct42:Value}
  {f43:Addr}{od43 an43:Option Addr}{sl43:Array (Option Value)}{oc43 kV43 dc43 pm43 Q2 ct43:Value}
  {f44:Addr}{od44 an44:Option Addr}{sl44:Array (Option Value)}{oc44 kV44 dc44 pm44 Q3 ct44:Value}
  {f45:Addr}{od45 an45:Option Addr}{sl45:Array (Option Value)}{oc45 kV45 dc45 pm45 Q4 ct45:Value}
  {f46:Addr}{od46 an46:Option Addr}{sl46:Array (Option Value)}{oc46 kV46 dc46 pm46 Q5 ct46:Value}
  {f47:Addr}{od47 an47:Option Addr}{sl47:Array (Option Value)}{oc47 kV47 dc47 pm47 Q6 ct47:Value}
  {f48:Addr}{od48 an48:Option Addr}{sl48:Array (Option Value)}{oc48 kV48 dc48 pm48 Q7 ct48:Value}
  {f49:Addr}{od49 an49:Option Addr}{sl49:Array (Option Value)}{oc49 kV49 dc49 pm49 Q8 ct49:Value}
  {f50:Addr}{od50 Q9:Option Addr}{sl50:Array (Option Value)}{oc50 Ra Rb Rc M0 Rf:Value}
  {fd0 Td0:Addr}{odd0 and0 o2d0:Option Addr}{sld0 s2d0:Array (Option Value)}{ocd0 kVd0 dcd0 pmd0 Rg ctd0 c2d0:Value}{td0:Tok}{nd0:Nat}
  {aL:Addr}{odL:Option Addr}{slL:Array (Option Value)}{nLn:Nat}{t1 t2 t3 t4 t5 t6:Tok}
  {cL:Addr}{M3:ClassData}
  {cN:Addr}{xH:ClassData}
  {aO:Addr}{zO:ClassData}
  {fV:Addr}{va vb:Option Addr}{vd:Array (Option Value)}{ve vf vg vh mV vi:Value}
  {dO:Addr}{mW mX:Option Addr}{mY:Array (Option Value)}{mZ m4 m5 m7 hW m8:Value}
  {fM:Addr}{qA qB:Option Addr}{qC:Array (Option Value)}{qD qE qF qG j3 qH:Value}
  {cG:Addr}{j4 j5:Option Addr}{j6:Array (Option Value)}{j7 j8 j9 ke fW kg:Value}
  {fN:Addr}{qI qJ:Option Addr}{qK:Array (Option Value)}{qL qM qN qO kh qP:Value}
  {txs:Tok}
  {tzs:Tok}
  {tmc:Tok}
  (a0:nsIn K mainGlobals "check_list"=some (some (.ref f0)))
  (l0:K.lookup f0=some ⟨oc0,od0,.func (fnOf "check_list" "check_list" (av dC) (ar dC) (ae dC) .none kV0 dc0 pm0 an0 NM ct0),sl0⟩)
  (c0:codeIn K NM "check_list"=true)
  (k0:keepIn K (.ref f0)=true)
  (a1:nsIn K mainGlobals "coins_of"=some (some (.ref f1)))
  (l1:K.lookup f1=some ⟨oc1,od1,.func (fnOf "coins_of" "coins_of" (av fo) (ar fo) (ae fo) .none kV1 dc1 pm1 an1 cd1 ct1),sl1⟩)
  (c1:codeIn K cd1 "coins_of"=true)
  (k1:keepIn K (.ref f1)=true)
  (a2:nsIn K mainGlobals "greatest_divisor"=some (some (.ref f2)))
  (l2:K.lookup f2=some ⟨Uu,Us,.func (fnOf "greatest_divisor" "greatest_divisor" (av bD) (ar bD) (ae bD) .none kV2 dc2 pm2 an2 cd2 ct2),Ut⟩)
  (c2:codeIn K cd2 "greatest_divisor"=true)
  (k2:keepIn K (.ref f2)=true)
  (a3:nsIn K mainGlobals "divisor_of_all"=some (some (.ref f3)))
  (l3:K.lookup f3=some ⟨oc3,od3,.func (fnOf "divisor_of_all" "divisor_of_all" (av bY) (ar bY) (ae bY) .none kV3 dc3 pm3 an3 cd3 ct3),sl3⟩)
  (c3:codeIn K cd3 "divisor_of_all"=true)
  (k3:keepIn K (.ref f3)=true)
  (a4:nsIn K mainGlobals "begins_below_nought"=some (some (.ref f4)))
  (l4:K.lookup f4=some ⟨oc4,od4,.func (fnOf "begins_below_nought" "begins_below_nought" (av aT) (ar aT) (ae aT) .none kV4 dc4 pm4 an4 cd4 ct4),sl4⟩)
  (c4:codeIn K cd4 "begins_below_nought"=true)
  (k4:keepIn K (.ref f4)=true)
  (a5:nsIn K mainGlobals "least"=some (some (.ref f5)))
  (l5:K.lookup f5=some ⟨oc5,od5,.func (fnOf "least" "least" (av i5) (ar i5) (ae i5) .none kV5 dc5 pm5 an5 cd5 ct5),sl5⟩)
  (c5:codeIn K cd5 "least"=true)
  (k5:keepIn K (.ref f5)=true)
  (a6:nsIn K mainGlobals "count_bits"=some (some (.ref f6)))
  (l6:K.lookup f6=some ⟨oc6,od6,.func (fnOf "count_bits" "count_bits" (av dD) (ar dD) (ae dD) .none kV6 dc6 pm6 an6 cd6 ct6),sl6⟩)
  (c6:codeIn K cd6 "count_bits"=true)
  (k6:keepIn K (.ref f6)=true)
  (a7:nsIn K mainGlobals "with_sign_changed"=some (some (.ref f7)))
  (l7:K.lookup f7=some ⟨oc7,od7,.func (fnOf "with_sign_changed" "with_sign_changed" (av bw) (ar bw) (ae bw) .none kV7 dc7 pm7 an7 cd7 ct7),sl7⟩)
  (c7:codeIn K cd7 "with_sign_changed"=true)
  (k7:keepIn K (.ref f7)=true)
  (a8:nsIn K mainGlobals "is_row"=some (some (.ref f8)))
  (l8:K.lookup f8=some ⟨oc8,od8,.func (fnOf "is_row" "is_row" (av iJ) (ar iJ) (ae iJ) .none kV8 dc8 pm8 an8 cd8 ct8),sl8⟩)
  (c8:codeIn K cd8 "is_row"=true)
  (k8:keepIn K (.ref f8)=true)
  (a9:nsIn K mainGlobals "number_sent"=some (some (.ref f9)))
  (l9:K.lookup f9=some ⟨oc9,od9,.func (fnOf "number_sent" "number_sent" (av cY) (ar cY) (ae cY) .none kV9 dc9 pm9 an9 cd9 ct9),sl9⟩)
  (c9:codeIn K cd9 "number_sent"=true)
  (k9:keepIn K (.ref f9)=true)
  (a10:nsIn K mainGlobals "laid"=some (some (.ref V8)))
  (l10:K.lookup V8=some ⟨Wc,V9,.func (fnOf "laid" "laid" (av lU) (ar lU) (ae lU) .none Wd We Wf Wa Qr Wg),Wb⟩)
  (Qo:codeIn K Qr "laid"=true)
  (k10:keepIn K (.ref V8)=true)
  (a11:nsIn K mainGlobals "product"=some (some (.ref Wh)))
  (l11:K.lookup Wh=some ⟨Wm,Wi,.func (fnOf "product" "product" (av gn) (ar gn) (ae gn) .none Wn Wo Wq Wj Qt Wr),Wl⟩)
  (c11:codeIn K Qt "product"=true)
  (k11:keepIn K (.ref Wh)=true)
  (a12:nsIn K mainGlobals "agree"=some (some (.ref Ws)))
  (l12:K.lookup Ws=some ⟨Ww,Wt,.func (fnOf "agree" "agree" (av kW) (ar kW) (ae kW) .none Wx Wy Wz Wu Qu WA),Wv⟩)
  (c12:codeIn K Qu "agree"=true)
  (k12:keepIn K (.ref Ws)=true)
  (a13:nsIn K mainGlobals "is_even"=some (some (.ref WB)))
  (l13:K.lookup WB=some ⟨WG,WC,.func (fnOf "is_even" "is_even" (av gr) (ar gr) (ae gr) .none WH WI WJ WD Qv WK),WE⟩)
  (c13:codeIn K Qv "is_even"=true)
  (k13:keepIn K (.ref WB)=true)
  (a14:nsIn K mainGlobals "letters"=some (some (.ref WL)))
  (l14:K.lookup WL=some ⟨WQ,WM,.func (fnOf "letters" "letters" (av gu) (ar gu) (ae gu) .none WR WS WT WN Qw WU),WO⟩)
  (c14:codeIn K Qw "letters"=true)
  (k14:keepIn K (.ref WL)=true)
  (a15:nsIn K mainGlobals "leading_column"=some (some (.ref WV)))
  (l15:K.lookup WV=some ⟨WZ,WW,.func (fnOf "leading_column" "leading_column" (av bZ) (ar bZ) (ae bZ) .none W3 W4 W5 WX Qx W6),WY⟩)
  (c15:codeIn K Qx "leading_column"=true)
  (k15:keepIn K (.ref WV)=true)
  (a16:nsIn K mainGlobals "has_column"=some (some (.ref W7)))
  (l16:K.lookup W7=some ⟨Xb,W8,.func (fnOf "has_column" "has_column" (av dF) (ar dF) (ae dF) .none Xc Xd Xe W9 Qy Xf),Xa⟩)
  (c16:codeIn K Qy "has_column"=true)
  (k16:keepIn K (.ref W7)=true)
  (a17:nsIn K mainGlobals "check_even"=some (some (.ref Xg)))
  (l17:K.lookup Xg=some ⟨Xk,Xh,.func (fnOf "check_even" "check_even" (av dG) (ar dG) (ae dG) .none Xl Xm Xn Xi Qz Xo),Xj⟩)
  (c17:codeIn K Qz "check_even"=true)
  (k17:keepIn K (.ref Xg)=true)
  (a18:nsIn K mainGlobals "check_agreeing"=some (some (.ref Xp)))
  (l18:K.lookup Xp=some ⟨Xt,Xq,.func (fnOf "check_agreeing" "check_agreeing" (av b6) (ar b6) (ae b6) .none Xu Xv Xw Xr QB Xx),Xs⟩)
  (c18:codeIn K QB "check_agreeing"=true)
  (k18:keepIn K (.ref Xp)=true)
  (a19:nsIn K mainGlobals "made_product"=some (some (.ref Xy)))
  (l19:K.lookup Xy=some ⟨XD,Xz,.func (fnOf "made_product" "made_product" (av cK) (ar cK) (ae cK) .none XE XF XG XA QC XH),XC⟩)
  (c19:codeIn K QC "made_product"=true)
  (k19:keepIn K (.ref Xy)=true)
  (a20:nsIn K mainGlobals "made_leading_column"=some (some (.ref XI)))
  (l20:K.lookup XI=some ⟨XO,XJ,.func (fnOf "made_leading_column" "made_leading_column" (av aY) (ar aY) (ae aY) .none XQ XR XT XM QD XU),XN⟩)
  (c20:codeIn K QD "made_leading_column"=true)
  (k20:keepIn K (.ref XI)=true)
  (a21:nsIn K mainGlobals "cleared"=some (some (.ref XW)))
  (l21:K.lookup XW=some ⟨X1,XX,.func (fnOf "cleared" "cleared" (av gw) (ar gw) (ae gw) .none X2 X3 X4 XY QF X5),XZ⟩)
  (c21:codeIn K QF "cleared"=true)
  (k21:keepIn K (.ref XW)=true)
  (a22:nsIn K mainGlobals "numbers_made_of"=some (some (.ref X6)))
  (l22:K.lookup X6=some ⟨Ya,X7,.func (fnOf "numbers_made_of" "numbers_made_of" (av bq) (ar bq) (ae bq) .none Yb Yc Yd X8 QG Ye),X9⟩)
  (c22:codeIn K QG "numbers_made_of"=true)
  (k22:keepIn K (.ref X6)=true)
  (a23:nsIn K mainGlobals "least_made"=some (some (.ref Yf)))
  (l23:K.lookup Yf=some ⟨Yj,Yg,.func (fnOf "least_made" "least_made" (av cQ) (ar cQ) (ae cQ) .none Yk Yl Ym Yh QH Yn),Yi⟩)
  (c23:codeIn K QH "least_made"=true)
  (k23:keepIn K (.ref Yf)=true)
  (a24:nsIn K mainGlobals "made_of"=some (some (.ref Yo)))
  (l24:K.lookup Yo=some ⟨Ys,Yp,.func (fnOf "made_of" "made_of" (av gy) (ar gy) (ae gy) .none Yt Yu Yv Yq QI Yw),Yr⟩)
  (c24:codeIn K QI "made_of"=true)
  (k24:keepIn K (.ref Yo)=true)
  (a25:nsIn K mainGlobals "least_rows"=some (some (.ref Yx)))
  (l25:K.lookup Yx=some ⟨YB,Yy,.func (fnOf "least_rows" "least_rows" (av cR) (ar cR) (ae cR) .none YC YD YE Yz QJ YF),YA⟩)
  (c25:codeIn K QJ "least_rows"=true)
  (k25:keepIn K (.ref Yx)=true)
  (a26:nsIn K mainGlobals "check_code"=some (some (.ref YG)))
  (l26:K.lookup YG=some ⟨YK,YH,.func (fnOf "check_code" "check_code" (av dH) (ar dH) (ae dH) .none YL YM YN YI QK YO),YJ⟩)
  (c26:codeIn K QK "check_code"=true)
  (k26:keepIn K (.ref YG)=true)
  (a27:nsIn K mainGlobals "turns_up_to"=some (some (.ref YQ)))
  (l27:K.lookup YQ=some ⟨YU,YR,.func (fnOf "turns_up_to" "turns_up_to" (av bW) (ar bW) (ae bW) .none YV YW YX YS QL YY),YT⟩)
  (c27:codeIn K QL "turns_up_to"=true)
  (k27:keepIn K (.ref YQ)=true)
  (a28:nsIn K mainGlobals "check_look"=some (some (.ref YZ)))
  (l28:K.lookup YZ=some ⟨Y3,Y0,.func (fnOf "check_look" "check_look" (av dM) (ar dM) (ae dM) .none Y4 Y5 Y6 Y1 QM Y7),Y2⟩)
  (c28:codeIn K QM "check_look"=true)
  (k28:keepIn K (.ref YZ)=true)
  (a29:nsIn K mainGlobals "check_list_and_look"=some (some (.ref Y8)))
  (l29:K.lookup Y8=some ⟨Zc,Y9,.func (fnOf "check_list_and_look" "check_list_and_look" (av aZ) (ar aZ) (ae aZ) .none Zd Ze Zf Za QN Zg),Zb⟩)
  (c29:codeIn K QN "check_list_and_look"=true)
  (k29:keepIn K (.ref Y8)=true)
  (a30:nsIn K mainGlobals "fraction"=some (some (.ref Zh)))
  (l30:K.lookup Zh=some ⟨Zl,Zi,.func (fnOf "fraction" "fraction" (av fu) (ar fu) (ae fu) .none Zm Zn Zo Zj QO Zp),Zk⟩)
  (c30:codeIn K QO "fraction"=true)
  (k30:keepIn K (.ref Zh)=true)
  (a31:nsIn K mainGlobals "sign_told"=some (some (.ref Zq)))
  (l31:K.lookup Zq=some ⟨Zu,Zr,.func (fnOf "sign_told" "sign_told" (av eE) (ar eE) (ae eE) .none Zv Zw Zx Zs QP Zy),Zt⟩)
  (c31:codeIn K QP "sign_told"=true)
  (k31:keepIn K (.ref Zq)=true)
  (a32:nsIn K mainGlobals "sum_of_products"=some (some (.ref Zz)))
  (l32:K.lookup Zz=some ⟨ZE,ZA,.func (fnOf "sum_of_products" "sum_of_products" (av bu) (ar bu) (ae bu) .none ZF ZG ZH ZC QQ ZI),ZD⟩)
  (c32:codeIn K QQ "sum_of_products"=true)
  (k32:keepIn K (.ref Zz)=true)
  (a33:nsIn K mainGlobals "chance_told"=some (some (.ref ZJ)))
  (l33:K.lookup ZJ=some ⟨ZN,ZK,.func (fnOf "chance_told" "chance_told" (av cZ) (ar cZ) (ae cZ) .none ZO ZP ZQ ZL QR ZR),ZM⟩)
  (c33:codeIn K QR "chance_told"=true)
  (k33:keepIn K (.ref ZJ)=true)
  (a34:nsIn K mainGlobals "list_behind"=some (some (.ref ZT)))
  (l34:K.lookup ZT=some ⟨ZX,ZU,.func (fnOf "list_behind" "list_behind" (av cC) (ar cC) (ae cC) .none ZY ZZ Z0 ZV QT Z1),ZW⟩)
  (c34:codeIn K QT "list_behind"=true)
  (k34:keepIn K (.ref ZT)=true)
  (a35:nsIn K mainGlobals "_law_number"=some (some (.ref Z2)))
  (l35:K.lookup Z2=some ⟨Z6,Z3,.func (fnOf "_law_number" "_law_number" (av dE) (ar dE) (ae dE) .none Z7 Z8 Z9 Z4 QU ct35),Z5⟩)
  (c35:codeIn K QU "_law_number"=true)
  (k35:keepIn K (.ref Z2)=true)
  (a36:nsIn K mainGlobals "_law_odd"=some (some (.ref f36)))
  (l36:K.lookup f36=some ⟨oc36,od36,.func (fnOf "_law_odd" "_law_odd" (av gv) (ar gv) (ae gv) .none kV36 dc36 pm36 an36 QV ct36),sl36⟩)
  (c36:codeIn K QV "_law_odd"=true)
  (k36:keepIn K (.ref f36)=true)
  (a37:nsIn K mainGlobals "_law_laid"=some (some (.ref f37)))
  (l37:K.lookup f37=some ⟨oc37,od37,.func (fnOf "_law_laid" "_law_laid" (av ft) (ar ft) (ae ft) .none kV37 dc37 pm37 an37 QW ct37),sl37⟩)
  (c37:codeIn K QW "_law_laid"=true)
  (k37:keepIn K (.ref f37)=true)
  (a38:nsIn K mainGlobals "_law_gate"=some (some (.ref f38)))
  (l38:K.lookup f38=some ⟨oc38,od38,.func (fnOf "_law_gate" "_law_gate" (av fv) (ar fv) (ae fv) .none kV38 dc38 pm38 an38 QX ct38),sl38⟩)
  (c38:codeIn K QX "_law_gate"=true)
  (k38:keepIn K (.ref f38)=true)
  (a39:nsIn K mainGlobals "_law_shifted"=some (some (.ref f39)))
  (l39:K.lookup f39=some ⟨oc39,od39,.func (fnOf "_law_shifted" "_law_shifted" (av da) (ar da) (ae da) .none kV39 dc39 pm39 an39 QY ct39),sl39⟩)
  (c39:codeIn K QY "_law_shifted"=true)
  (k39:keepIn K (.ref f39)=true)
  (a40:nsIn K mainGlobals "_law_times"=some (some (.ref f40)))
  (l40:K.lookup f40=some ⟨oc40,od40,.func (fnOf "_law_times" "_law_times" (av eC) (ar eC) (ae eC) .none kV40 dc40 pm40 an40 QZ ct40),sl40⟩)
  (c40:codeIn K QZ "_law_times"=true)
  (k40:keepIn K (.ref f40)=true)
  (a41:nsIn K mainGlobals "_law_checks"=some (some (.ref f41)))
  (l41:K.lookup f41=some ⟨oc41,od41,.func (fnOf "_law_checks" "_law_checks" (av bU) (ar bU) (ae bU) .none kV41 dc41 pm41 an41 Q0 ct41),sl41⟩)
  (c41:codeIn K Q0 "_law_checks"=true)
  (k41:keepIn K (.ref f41)=true)
  (a42:nsIn K mainGlobals "_law_ring"=some (some (.ref f42)))
  (l42:K.lookup f42=some ⟨oc42,od42,.func (fnOf "_law_ring" "_law_ring" (av fA) (ar fA) (ae fA) .none kV42 dc42 pm42 an42 Q1 ct42),sl42⟩)
  (c42:codeIn K Q1 "_law_ring"=true)
  (k42:keepIn K (.ref f42)=true)
  (a43:nsIn K mainGlobals "_law_one"=some (some (.ref f43)))
  (l43:K.lookup f43=some ⟨oc43,od43,.func (fnOf "_law_one" "_law_one" (av gz) (ar gz) (ae gz) .none kV43 dc43 pm43 an43 Q2 ct43),sl43⟩)
  (c43:codeIn K Q2 "_law_one"=true)
  (k43:keepIn K (.ref f43)=true)
  (a44:nsIn K mainGlobals "_law_kept"=some (some (.ref f44)))
  (l44:K.lookup f44=some ⟨oc44,od44,.func (fnOf "_law_kept" "_law_kept" (av cB) (ar cB) (ae cB) .none kV44 dc44 pm44 an44 Q3 ct44),sl44⟩)
  (c44:codeIn K Q3 "_law_kept"=true)
  (k44:keepIn K (.ref f44)=true)
  (a45:nsIn K mainGlobals "_law_wrong"=some (some (.ref f45)))
  (l45:K.lookup f45=some ⟨oc45,od45,.func (fnOf "_law_wrong" "_law_wrong" (av eD) (ar eD) (ae eD) .none kV45 dc45 pm45 an45 Q4 ct45),sl45⟩)
  (c45:codeIn K Q4 "_law_wrong"=true)
  (k45:keepIn K (.ref f45)=true)
  (a46:nsIn K mainGlobals "_law_tables"=some (some (.ref f46)))
  (l46:K.lookup f46=some ⟨oc46,od46,.func (fnOf "_law_tables" "_law_tables" (av dN) (ar dN) (ae dN) .none kV46 dc46 pm46 an46 Q5 ct46),sl46⟩)
  (c46:codeIn K Q5 "_law_tables"=true)
  (k46:keepIn K (.ref f46)=true)
  (a47:nsIn K mainGlobals "_law_many"=some (some (.ref f47)))
  (l47:K.lookup f47=some ⟨oc47,od47,.func (fnOf "_law_many" "_law_many" (av ei) (ar ei) (ae ei) .none kV47 dc47 pm47 an47 Q6 ct47),sl47⟩)
  (c47:codeIn K Q6 "_law_many"=true)
  (k47:keepIn K (.ref f47)=true)
  (a48:nsIn K mainGlobals "_law_seen"=some (some (.ref f48)))
  (l48:K.lookup f48=some ⟨oc48,od48,.func (fnOf "_law_seen" "_law_seen" (av fz) (ar fz) (ae fz) .none kV48 dc48 pm48 an48 Q7 ct48),sl48⟩)
  (c48:codeIn K Q7 "_law_seen"=true)
  (k48:keepIn K (.ref f48)=true)
  (a49:nsIn K mainGlobals "_law_mended"=some (some (.ref f49)))
  (l49:K.lookup f49=some ⟨oc49,od49,.func (fnOf "_law_mended" "_law_mended" (av cT) (ar cT) (ae cT) .none kV49 dc49 pm49 an49 Q8 ct49),sl49⟩)
  (c49:codeIn K Q8 "_law_mended"=true)
  (k49:keepIn K (.ref f49)=true)
  (a50:nsIn K mainGlobals "law"=some (some (.ref f50)))
  (l50:K.lookup f50=some ⟨oc50,od50,.func (fnOf "law" "law" (av mU) (ar mU) (ae mU) .none Ra Rb Rc Q9 M0 Rf),sl50⟩)
  (c50:codeIn K M0 "law"=true)
  (k50:keepIn K (.ref f50)=true)
  (ad0:nsIn K mainGlobals "looked"=some (some (.ref fd0)))
  (ld0:K.lookup fd0=some ⟨ocd0,odd0,.func (fnOf "looked" "looked" (av iK) (ar iK) (ae iK) (.ref Td0) kVd0 dcd0 pmd0 and0 Rg ctd0),sld0⟩)
  (NM:codeIn K Rg "looked"=true)
  (kd0:keepIn K (.ref fd0)=true)
  (Rh:K.lookup Td0=some ⟨c2d0,o2d0,.seq #[.int 0 td0] nd0,s2d0⟩)
  (z1:nsIn K mainGlobals "len"=some none)
  (z2:nsIn K mainGlobals "range"=some none)
  (z3:nsIn K mainGlobals "abs"=some none)
  (z4:nsIn K mainGlobals "any"=some none)
  (z5:nsIn K mainGlobals "all"=some none)
  (z6:nsIn K mainGlobals "isinstance"=some none)
  (z7:nsIn K mainGlobals "int"=some none)
  (z8:nsIn K mainGlobals "bool"=some none)
  (z9:nsIn K mainGlobals "list"=some none)
  (OI:nsIn K mainGlobals "str"=some none)
  (OJ:nsIn K mainGlobals "tuple"=some none)
  (OK:nsIn K mainGlobals "enumerate"=some none)
  (OL:nsIn K mainGlobals "ValueError"=some none)
  (g1:nsIn K mainGlobals "LENGTHS"=some (some (.ref aL)))
  (g2:K.lookup aL=some ⟨.type "tuple",odL,.seq #[.int 2 t1,.int 4 t2,.int 8 t3,.int 16 t4,.int 32 t5,.int 64 t6] nLn,slL⟩)
  (vj:nsIn K mainGlobals "Code"=some (some (.ref cL)))
  (zP:PySem.W.clsIn K cL=some M3)
  (zQ:PySem.W.typeIn K (.ref cL)=some (.type "type"))
  (ki:nsIn K mainGlobals "CoinError"=some (some (.ref cN)))
  (kj:PySem.W.clsIn K cN=some xH)
  (kl:PySem.W.typeIn K (.ref cN)=some (.type "type"))
  (lZ:nsIn K mainGlobals "CantMend"=some (some (.ref aO)))
  (ji:PySem.W.clsIn K aO=some zO)
  (ma:PySem.W.typeIn K (.ref aO)=some (.type "type"))
  (oF:PySem.W.findIn K (.ref aO) "__init__"=some (some (.ref fV)))
  (km:K.lookup fV=some ⟨ve,va,.func (fnOf "__init__" "CantMend.__init__" (av dz) (ar dz) (ae dz) .none vf vg vh vb mV vi),vd⟩)
  (ko:codeIn K mV "CantMend.__init__"=true)
  (kq:keepIn K (.ref fV)=true)
  (kr:lH K aO fV=true)
  (ku:PySem.W.typeIn K (.ref fV)=some (.type "function"))
  (kz:PySem.W.findIn K (.ref aO) "__getattribute__"=some (some (.builtin "BaseException.__getattribute__")))
  (kB:PySem.W.findIn K (.ref aO) "__getattr__"=some none)
  (kC:PySem.W.findIn K (.ref aO) "__class__"=some (some (.builtin "object.__class__")))
  (kD:PySem.W.subIn K (.ref aO) (.type "BaseException")=some true)
  (kE:PySem.W.subIn K (.ref aO) (.type "object")=some true)
  (kF:PySem.W.subIn K (.ref aO) (.ref aO)=some true)
  (kG:PySem.W.findIn K (.ref aO) "__setattr__"=some (some (.builtin "object.__setattr__")))
  (kH:yR K aO=true)
  (kI:PySem.W.hasDictIn K aO=true)
  (kZ:PySem.W.plainGet K cL Str.empty=true)
  (lg:PySem.W.hasDictIn K cL=true)
  (lh:PySem.W.plainOver K cL=true)
  (lj:PySem.W.findIn K (.ref cL) "__setattr__"=some (some (.builtin "object.__setattr__")))
  (vk:PySem.W.makesIn K cL=true)
  (vm:keepIn K (.ref cL)=true)
  (fB:PySem.W.findIn K (.ref cL) "__init__"=some (some (.ref dO)))
  (fD:K.lookup dO=some ⟨mZ,mW,.func (fnOf "__init__" "Code.__init__" (av cm) (ar cm) (ae cm) .none m4 m5 m7 mX hW m8),mY⟩)
  (fE:codeIn K hW "Code.__init__"=true)
  (fF:keepIn K (.ref dO)=true)
  (fG:PySem.W.isFn K (.ref dO)=true)
  (il:PySem.W.findIn K (.ref cL) "marks"=some (some (.ref fM)))
  (ip:K.lookup fM=some ⟨qD,qA,.func (fnOf "marks" "Code.marks" (av cS) (ar cS) (ae cS) .none qE qF qG qB j3 qH),qC⟩)
  (iq:codeIn K j3 "Code.marks"=true)
  (ir:keepIn K (.ref fM)=true)
  (iu:PySem.W.isFn K (.ref fM)=true)
  (dW:PySem.W.findIn K (.ref cL) "is_harmless"=some (some (.ref cG)))
  (dX:K.lookup cG=some ⟨j7,j4,.func (fnOf "is_harmless" "Code.is_harmless" (av bE) (ar bE) (ae bE) .none j8 j9 ke j5 fW kg),j6⟩)
  (dY:codeIn K fW "Code.is_harmless"=true)
  (dZ:keepIn K (.ref cG)=true)
  (d0:PySem.W.isFn K (.ref cG)=true)
  (iw:PySem.W.findIn K (.ref cL) "table"=some (some (.ref fN)))
  (ix:K.lookup fN=some ⟨qL,qI,.func (fnOf "table" "Code.table" (av dJ) (ar dJ) (ae dJ) .none qM qN qO qJ kh qP),qK⟩)
  (iy:codeIn K kh "Code.table"=true)
  (iz:keepIn K (.ref fN)=true)
  (iA:PySem.W.isFn K (.ref fN)=true)
  (fO:PySem.W.findIn K (.ref cL) "coins"=some none)
  (dA:PySem.W.findIn K (.ref cL) "checks"=some none)
  (cU:PySem.W.findIn K (.ref aO) "one"=some none)
  (cx:PySem.W.findIn K (.ref aO) "other"=some none)
  (jj:PySem.W.specialIn K (.ref cN) "__getattribute__"=some (some (.builtin "type.__getattribute__")))
  (jl:PySem.W.readsIn K cN (.type "type")=true)
  (jm:PySem.W.findCls K (.ref cN) (.type "type") "__init__"=some (.val (.builtin "ValueError.__init__")))
  (cbM:PySem.W.subIn K (.ref aO) (.type "BaseException")=some true)
  (M4:nsIn K mainGlobals "min"=some none)
  (M5:nsIn K mainGlobals "max"=some none)
  (vn:nsIn K mainGlobals "sorted"=some none)
  (M6:nsIn K mainGlobals "zip"=some none)
  (M7:nsIn K mainGlobals "sum"=some none)
  (gxs:nsIn K mainGlobals "XS"=some (some (.int 1 txs)))
  (gzs:nsIn K mainGlobals "ZS"=some (some (.int 2 tzs)))
  (gmc:nsIn K mainGlobals "MOST_COINS"=some (some (.int 6 tmc)))
  : ∃fd:FuncData,(∀(s:Shared) (v:Value),BindsTo s fd ⟨[v],[]⟩ [("_law_script",v)])∧∀base:Heap,K.In base→base.Ns mainGlobals mg→fj l.prog w K mg base aS 10 fa fd ["_law_script"] (uY K):=by
 have vo:Def K mg "check_list" dC Z03:=aG X G a0 l0 c0 k0 fun _ _ _ _ _ _ us hl=>(by obtain⟨x0,rfl⟩:=iL hl;rfl)
 have zR:Def K mg "coins_of" fo Z03:=aG X G a1 l1 c1 k1 fun _ _ _ _ _ _ us hl=>(by obtain⟨x0,rfl⟩:=iL hl;rfl)
 have mf:Def K mg "greatest_divisor" bD Z00:=aG X G a2 l2 c2 k2 fun _ _ _ _ _ _ us hl=>(by obtain⟨x0,x1,rfl⟩:=fU hl;rfl)
 have og:Def K mg "divisor_of_all" bY Z03:=aG X G a3 l3 c3 k3 fun _ _ _ _ _ _ us hl=>(by obtain⟨x0,rfl⟩:=iL hl;rfl)
 have jy:Def K mg "begins_below_nought" aT Z03:=aG X G a4 l4 c4 k4 fun _ _ _ _ _ _ us hl=>(by obtain⟨x0,rfl⟩:=iL hl;rfl)
 have JC:Def K mg "least" i5 Z03:=aG X G a5 l5 c5 k5 fun _ _ _ _ _ _ us hl=>(by obtain⟨x0,rfl⟩:=iL hl;rfl)
 have vp:Def K mg "count_bits" dD ["bits"]:=aG X G a6 l6 c6 k6 fun _ _ _ _ _ _ us hl=>(by obtain⟨x0,rfl⟩:=iL hl;rfl)
 have lB:Def K mg "with_sign_changed" bw Z22:=aG X G a7 l7 c7 k7 fun _ _ _ _ _ _ us hl=>(by obtain⟨x0,x1,rfl⟩:=fU hl;rfl)
 have Gb:Def K mg "is_row" iJ Z13:=aG X G a8 l8 c8 k8 fun _ _ _ _ _ _ us hl=>(by obtain⟨x0,x1,rfl⟩:=fU hl;rfl)
 have rK:Def K mg "number_sent" cY Z17:=aG X G a9 l9 c9 k9 fun _ _ _ _ _ _ us hl=>(by obtain⟨x0,x1,x2,rfl⟩:=zN hl;rfl)
 have M8:Def K mg "laid" lU Z11:=aG X G a10 l10 Qo k10 fun _ _ _ _ _ _ us hl=>(by obtain⟨x0,x1,rfl⟩:=fU hl;rfl)
 have Cv:Def K mg "product" gn Z00:=aG X G a11 l11 c11 k11 fun _ _ _ _ _ _ us hl=>(by obtain⟨x0,x1,rfl⟩:=fU hl;rfl)
 have JD:Def K mg "agree" kW Z00:=aG X G a12 l12 c12 k12 fun _ _ _ _ _ _ us hl=>(by obtain⟨x0,x1,rfl⟩:=fU hl;rfl)
 have Cw:Def K mg "is_even" gr Z24:=aG X G a13 l13 c13 k13 fun _ _ _ _ _ _ us hl=>(by obtain⟨x0,rfl⟩:=iL hl;rfl)
 have Cy:Def K mg "letters" gu Z24:=aG X G a14 l14 c14 k14 fun _ _ _ _ _ _ us hl=>(by obtain⟨x0,rfl⟩:=iL hl;rfl)
 have oh:Def K mg "leading_column" bZ Z24:=aG X G a15 l15 c15 k15 fun _ _ _ _ _ _ us hl=>(by obtain⟨x0,rfl⟩:=iL hl;rfl)
 have vq:Def K mg "has_column" dF Z28:=aG X G a16 l16 c16 k16 fun _ _ _ _ _ _ us hl=>(by obtain⟨x0,x1,rfl⟩:=fU hl;rfl)
 have vw:Def K mg "check_even" dG Z18:=aG X G a17 l17 c17 k17 fun _ _ _ _ _ _ us hl=>(by obtain⟨x0,rfl⟩:=iL hl;rfl)
 have oi:Def K mg "check_agreeing" b6 Z18:=aG X G a18 l18 c18 k18 fun _ _ _ _ _ _ us hl=>(by obtain⟨x0,rfl⟩:=iL hl;rfl)
 have qQ:Def K mg "made_product" cK Z00:=aG X G a19 l19 c19 k19 fun _ _ _ _ _ _ us hl=>(by obtain⟨x0,x1,rfl⟩:=fU hl;rfl)
 have jz:Def K mg "made_leading_column" aY Z29:=aG X G a20 l20 c20 k20 fun _ _ _ _ _ _ us hl=>(by obtain⟨x0,rfl⟩:=iL hl;rfl)
 have Cz:Def K mg "cleared" gw Z26:=aG X G a21 l21 c21 k21 fun _ _ _ _ _ _ us hl=>(by obtain⟨x0,x1,rfl⟩:=fU hl;rfl)
 have m9:Def K mg "numbers_made_of" bq Z29:=aG X G a22 l22 c22 k22 fun _ _ _ _ _ _ us hl=>(by obtain⟨x0,rfl⟩:=iL hl;rfl)
 have vx:Def K mg "least_made" cQ Z18:=aG X G a23 l23 c23 k23 fun _ _ _ _ _ _ us hl=>(by obtain⟨x0,rfl⟩:=iL hl;rfl)
 have CB:Def K mg "made_of" gy ["rows","row"]:=aG X G a24 l24 c24 k24 fun _ _ _ _ _ _ us hl=>(by obtain⟨x0,x1,rfl⟩:=fU hl;rfl)
 have vy:Def K mg "least_rows" cR Z18:=aG X G a25 l25 c25 k25 fun _ _ _ _ _ _ us hl=>(by obtain⟨x0,rfl⟩:=iL hl;rfl)
 have vA:Def K mg "check_code" dH Z30:=aG X G a26 l26 c26 k26 fun _ _ _ _ _ _ us hl=>(by obtain⟨x0,x1,rfl⟩:=fU hl;rfl)
 have rL:Def K mg "turns_up_to" bW Z31:=aG X G a27 l27 c27 k27 fun _ _ _ _ _ _ us hl=>(by obtain⟨x0,x1,rfl⟩:=fU hl;rfl)
 have vB:Def K mg "check_look" dM Z13:=aG X G a28 l28 c28 k28 fun _ _ _ _ _ _ us hl=>(by obtain⟨x0,x1,rfl⟩:=fU hl;rfl)
 have jA:Def K mg "check_list_and_look" aZ Z11:=aG X G a29 l29 c29 k29 fun _ _ _ _ _ _ us hl=>(by obtain⟨x0,x1,rfl⟩:=fU hl;rfl)
 have zS:Def K mg "fraction" fu Z32:=aG X G a30 l30 c30 k30 fun _ _ _ _ _ _ us hl=>(by obtain⟨x0,x1,rfl⟩:=fU hl;rfl)
 have xI:Def K mg "sign_told" eE ["told"]:=aG X G a31 l31 c31 k31 fun _ _ _ _ _ _ us hl=>(by obtain⟨x0,rfl⟩:=iL hl;rfl)
 have nh:Def K mg "sum_of_products" bu Z00:=aG X G a32 l32 c32 k32 fun _ _ _ _ _ _ us hl=>(by obtain⟨x0,x1,rfl⟩:=fU hl;rfl)
 have rM:Def K mg "chance_told" cZ Z06:=aG X G a33 l33 c33 k33 fun _ _ _ _ _ _ us hl=>(by obtain⟨x0,x1,x2,rfl⟩:=zN hl;rfl)
 have rN:Def K mg "list_behind" cC Z06:=aG X G a34 l34 c34 k34 fun _ _ _ _ _ _ us hl=>(by obtain⟨x0,x1,x2,rfl⟩:=zN hl;rfl)
 have rO:Def K mg "_law_number" dE Z04:=aG X G a35 l35 c35 k35 fun _ _ _ _ _ _ us hl=>(by obtain⟨x0,x1,rfl⟩:=fU hl;rfl)
 have zT:Def K mg "_law_odd" gv Z09:=aG X G a36 l36 c36 k36 fun _ _ _ _ _ _ us hl=>(by obtain⟨x0,rfl⟩:=iL hl;rfl)
 have xJ:Def K mg "_law_laid" ft Z12:=aG X G a37 l37 c37 k37 fun _ _ _ _ _ _ us hl=>(by obtain⟨x0,x1,rfl⟩:=fU hl;rfl)
 have xK:Def K mg "_law_gate" fv Z14:=aG X G a38 l38 c38 k38 fun _ _ _ _ _ _ us hl=>(by obtain⟨x0,x1,rfl⟩:=fU hl;rfl)
 have qR:Def K mg "_law_shifted" da Z19:=aG X G a39 l39 c39 k39 fun _ _ _ _ _ _ us hl=>(by obtain⟨x0,x1,rfl⟩:=fU hl;rfl)
 have vC:Def K mg "_law_times" eC Z16:=aG X G a40 l40 c40 k40 fun _ _ _ _ _ _ us hl=>(by obtain⟨x0,x1,rfl⟩:=fU hl;rfl)
 have rP:Def K mg "_law_checks" bU Z02:=aG X G a41 l41 c41 k41 fun _ _ _ _ _ _ us hl=>(by obtain⟨x0,x1,x2,x3,rfl⟩:=V6 hl;rfl)
 have xM:Def K mg "_law_ring" fA Z09:=aG X G a42 l42 c42 k42 fun _ _ _ _ _ _ us hl=>(by obtain⟨x0,rfl⟩:=iL hl;rfl)
 have zU:Def K mg "_law_one" gz Z04:=aG X G a43 l43 c43 k43 fun _ _ _ _ _ _ us hl=>(by obtain⟨x0,x1,rfl⟩:=fU hl;rfl)
 have xO:Def K mg "_law_kept" cB Z08:=aG X G a44 l44 c44 k44 fun _ _ _ _ _ _ us hl=>(by obtain⟨x0,x1,x2,rfl⟩:=zN hl;rfl)
 have vD:Def K mg "_law_wrong" eD Z05:=aG X G a45 l45 c45 k45 fun _ _ _ _ _ _ us hl=>(by obtain⟨x0,x1,x2,rfl⟩:=zN hl;rfl)
 have rQ:Def K mg "_law_tables" dN ["_law_code"]:=aG X G a46 l46 c46 k46 fun _ _ _ _ _ _ us hl=>(by obtain⟨x0,rfl⟩:=iL hl;rfl)
 have xP:Def K mg "_law_many" ei ["_law_cant"]:=aG X G a47 l47 c47 k47 fun _ _ _ _ _ _ us hl=>(by obtain⟨x0,rfl⟩:=iL hl;rfl)
 have xQ:Def K mg "_law_seen" fz Z10:=aG X G a48 l48 c48 k48 fun _ _ _ _ _ _ us hl=>(by obtain⟨x0,x1,rfl⟩:=fU hl;rfl)
 have rR:Def K mg "_law_mended" cT Z01:=aG X G a49 l49 c49 k49 fun _ _ _ _ _ _ us hl=>(by obtain⟨x0,x1,x2,x3,x4,rfl⟩:=V7 hl;rfl)
 have Gd:D9 K mg "looked" iK Z23:=Hy X G ad0 ld0 NM kd0 Rh (fun _ _ _ _ _ _ _ us hK hl=>match us,(show us.length=3 by simpa using hl) with | [_,_,_],_=>PySem.W.binds_K hK rfl Rh rfl rfl rfl) (fun _ _ _ _ _ _ _ us hK hl=>match us,(show us.length=2 by simpa using hl) with | [_,_],_=>PySem.W.binds_K hK rfl Rh rfl rfl rfl)
 have T:eK mg:=Ls X G z1 z2 z3 z4 z5 z6 z7 z8 z9 OI OJ OK OL
 have LN:Lu K mg aL:=Hs X G g1 g2
 have aa0:yG K mg "Code" cL:=tO X G vj zP zQ
 have xR:yG K mg "CoinError" cN:=tO X G ki kj kl
 have qS:yG K mg "CantMend" aO:=tO X G lZ ji ma
 have jo:yT K aO "CantMend.__init__" dz Z21:=Iw km ko kq (fun _ _ _ _ _ _ us hl=>(by obtain⟨x0,x1,x2,rfl⟩:=zN hl;rfl)) kr ku kz kB kC kD kE ji kF kG kH kI
 have M9:E3 K mg "Code" cL "Code.__init__" cm Z25:=IC X G vj fD fE fF (fun _ _ _ _ _ _ us hl=>(by obtain⟨x0,x1,x2,rfl⟩:=zN hl;rfl)) vk fB fG vm kZ lg lh lj
 have vE:p8 K cL "marks" "Code.marks" cS Z20:=uy ip iq ir (fun _ _ _ _ _ _ us hl=>(by obtain⟨x0,x1,rfl⟩:=fU hl;rfl)) il iu kZ lg lh lj
 have mh:p8 K cL "is_harmless" "Code.is_harmless" bE Z20:=uy dX dY dZ (fun _ _ _ _ _ _ us hl=>(by obtain⟨x0,x1,rfl⟩:=fU hl;rfl)) dW d0 kZ lg lh lj
 have vF:p8 K cL "table" "Code.table" dJ ["self","many"]:=uy ix iy iz (fun _ _ _ _ _ _ us hl=>(by obtain⟨x0,x1,rfl⟩:=fU hl;rfl)) iw iA kZ lg lh lj
 have xS:L8 K cN:=⟨jj,jl,jm⟩
 have e:=hfa.symm.trans (PySem.W.mg_of X G a50)
 cases e
 have F:=pC (st:=mU) l50 c50 k50
 have nmin:=PySem.W.mg_none_of X G M4
 have Ri:=PySem.W.mg_none_of X G M5
 have Rj:=PySem.W.mg_none_of X G vn
 have Na:=PySem.W.mg_none_of X G M6
 have Rk:=PySem.W.mg_none_of X G M7
 have Sf:∃t,mg "XS"=some (.int 1 t):=⟨_,PySem.W.mg_of X G gxs⟩
 have Vs:∃t,mg "ZS"=some (.int 2 t):=⟨_,PySem.W.mg_of X G gzs⟩
 have MC:∃t,mg "MOST_COINS"=some (.int 6 t):=⟨_,PySem.W.mg_of X G gmc⟩
 exact⟨fnOf "law" "law" (av mU) (ar mU) (ae mU) .none Ra Rb Rc Q9 M0 Rf,fun s v=>.of_eq rfl,fun base _ _=>(have CN:=Fz (P:=l.prog) (w:=w) (base:=base) T vp;have CS:=Cb (P:=l.prog) (w:=w) (base:=base) T lB;have CP:=zk (P:=l.prog) (w:=w) (base:=base) T Cv CS CN;have CA:=FD (P:=l.prog) (w:=w) (base:=base) T JD CN;have CE:=IW (P:=l.prog) (w:=w) (base:=base) T Cw CN;have CL:=zp (P:=l.prog) (w:=w) (base:=base) T Cy CN;have CD:=IZ (P:=l.prog) (w:=w) (base:=base) T Sf Vs oh;have CH:=Cd (P:=l.prog) (w:=w) (base:=base) T vq;have CMP:=FG (P:=l.prog) (w:=w) (base:=base) T qQ CP;have CML:=FH (P:=l.prog) (w:=w) (base:=base) T jz CD;have CC:=zr (P:=l.prog) (w:=w) (base:=base) T Cz CH CML CMP;have CM:=FK (P:=l.prog) (w:=w) (base:=base) T Rj vx (Jb T vw CE) (Jc T oi CA) CC CL CML;have CO:=Cf (P:=l.prog) (w:=w) (base:=base) T CB CC CM CL (Je T m9);have CR:=FL (P:=l.prog) (w:=w) (base:=base) T vy CM;have CI:=IY (P:=l.prog) (w:=w) (base:=base) T Gb;have CKC:=Jg (P:=l.prog) (w:=w) (base:=base) T fO dA M9 (FN T MC vA CI CR);have CMK:=FO (P:=l.prog) (w:=w) (base:=base) T Rk dA vE CA;have CHM:=Jh (P:=l.prog) (w:=w) (base:=base) T dA mh CO;have CTU:=FT (P:=l.prog) (w:=w) (base:=base) T Rj rL CL;have Cn:=MA (P:=l.prog) (w:=w) (base:=base) T rO;have Co:=MB (P:=l.prog) (w:=w) (base:=base) T zT;have Ct:=Cc (P:=l.prog) (w:=w) (base:=base) T vC Co;have Ck:=Cu (P:=l.prog) (w:=w) (base:=base) T rP Cn (F2 T xK) (zG T qR) Ct;have CF:=Jn (P:=l.prog) (w:=w) (base:=base) T xR xS cU cx jo;have CTX:=Cr (P:=l.prog) (w:=w) (base:=base) T qS CF fO vF CTU CMK CHM CP;have CK:=Fx (P:=l.prog) (w:=w) (base:=base) T LN vo;have CG:=Mu (P:=l.prog) (w:=w) (base:=base) T mf;have CLs:=Fy (P:=l.prog) (w:=w) (base:=base) T JC CK (zi T og CG) (Ca T jy);have CLA:=IV (P:=l.prog) (w:=w) (base:=base) T M8 (IU T rK CS CN);have CLL:=MM (P:=l.prog) (w:=w) (base:=base) T jA CK (zj T zR) (F0 T vB CI CE);have Csg:=Jp (P:=l.prog) (w:=w) (base:=base) T xI;have CTd:=F1 (P:=l.prog) (w:=w) (base:=base) T rM (MN T Rk Na nh) (Jo T zS CG) Csg;have CLk:=Cs (P:=l.prog) (w:=w) (base:=base) T Gd CLL CLA CTd (Jq T Na rN Csg CLs);have Cld:=FU (P:=l.prog) (w:=w) (base:=base) T xJ Co;have Clk:=FV (P:=l.prog) (w:=w) (base:=base) T Na xO (Jl T zU Cn) Cld;have Ctb:=F3 (P:=l.prog) (w:=w) (base:=base) T qS cbM jo.self rQ CTX;have Clm:=F5 (P:=l.prog) (w:=w) (base:=base) T Ri jo cU cx xP;have qV:=F7 (P:=l.prog) (w:=w) (base:=base) T xQ CLk;MY T nmin Ri jo cU cx F Cn Ck (Jy T xM) Clk CKC Ctb Clm (Cj T vD) (zJ T rR Cld qV CMK) Cld qV)⟩
theorem walk {l:PySem.W.OpenLaw}{q:Program}{loose:List Str}{XP:(Str→Option Value)→Heap→Prop}{YP:World→Heap→Prop}{d:DefRec}{K:Params→Frag}(hn:l.most=some 63) (Oo:d.params.defaults=[])
  (hY:∀(w:World) (h:Heap),YP w h→(K w.params).In h)
  (F:∀(w:World) (mg:Str→Option Value) (fa:Addr) (h:Heap),(K w.params).In h→h.Ns mainGlobals mg→mg d.name=some (.ref fa) →
   ∃fd:FuncData,(∀(s:Shared) (u:Value),BindsTo s fd ⟨[u],[]⟩ [("_law_script",u)])∧∀base:Heap,(K w.params).In base→base.Ns mainGlobals mg→fj l.prog w (K w.params) mg base aS 10 fa fd ["_law_script"] (uY (K w.params))) :
  PySem.W.WalkO q loose XP YP l.row.toRowW d [] (fun f vs=>PySem.call f vs) :=
 L2.Hd (n:=63) (k:=10) (x:="_law_script") (CX:=fun _=>aS) (sp:=fun w=>uY (K w.params)) hn (by decide) Oo ⟨rfl,rfl,by decide,by decide⟩ hY F (fun _ _ a ns hl _ hS=>⟨a,ns,rfl,hS,hl,fun _=>rfl⟩) fun _ _ _ _ _ z=>z
end Vr
namespace PySem.W.Fast
def tw8307583230694767855:=0
def tw2566715281932701378:=0
def tw6732821974076093253:=0
def tw5206766280161838694:=0
def tw4358296479360383335:=0
def tw5278714366304544135:=0
def tw9830950866997774537:=0
def tw13589344991328705546:=0
def tw9923039719374408842:=0
def tw4231431827857118828:=0
def tw6619869547029414605:=0
def tw4027034318527697231:=0
def tw14403433672694456336:=0
def tw1183136697637278555:=0
def tw16302833554938047645:=0
def tw16917347076586377501:=0
def tw17531263355795295613:=0
def tw8487474588665527045:=0
def tw15518533385927511401:=0
def tw6685374082573739700:=0
def tw4482941589867240772:=0
def tw14478071334327535600:=0
def tw7322086635640052761:=0
def tw12036652273646269670:=0
def tw17401421765963842060:=0
def tw7449720278763520861:=0
def tw9105293286529916556:=0
def tw17310740469897976167:=0
def tw16972019131505555959:=0
def tw8962451635259938341:=0
def tw5667261660173521266:=0
def tw2196225166891009879:=0
def tw1818743242563285690:=0
def tw277369583178692732:=0
def tw7214275340953956435:=0
def tw3597941165320684428:=0
def tw1191592787058888667:=0
def tw7167804176580459083:=0
def tw15725309054053382476:=0
def tw12182514408226594052:=0
def tw15496255951508070730:=0
def tw13531539431227586006:=0
def tw12851828973694864246:=0
def tw8900342218867664645:=0
def tw17009321280652496892:=0
def tw11792513146312130320:=0
def tw2917014469924640373:=0
def tw804284941649245002:=0
def tw16234981033884119555:=0
def tw3389520189245614246:=0
def tw7611778856176422599:=0
def tw8928621695526227368:=0
def tw14262457448331048930:=0
def tw2864566558044795618:=0
def tw5293828430102307934:=0
def tw7451649352106465255:=0
def tw4750047363153235609:=0
def tw9450177297572998359:=0
def tw5601862144856688843:=0
def tw8987567362326536759:=0
def tw11730920794731315781:=0
def tw10198351754244285916:=0
def tw12042512815803713708:=0
def tw10715500022897703572:=0
def tw9903065480607610510:=0
def tw4333844796673197945:=0
def tw6258942867015468999:=0
def tw16911526499363597948:=0
def tw14497532257023164201:=0
def tw6796379117791119032:=0
def tw17495560874313184200:=0
def tw18121067382105840615:=0
def tw12487864150362395367:=0
def tw13128731592387999099:=0
def tw6762889705801809782:=0
def tw15404764445477102982:=0
def tw7315343286066841633:=0
def tw919420688968636785:=0
def tw12397580842783540447:=0
def tw6507486503719743564:=0
def tw9536305693976475858:=0
def tw7657585077125316793:=0
def tw6230921056936147060:=0
def tw9060687426036358985:=0
def tw11017499778129822866:=0
def tw10355452023190993828:=0
def tw8987817675347959910:=0
def tw6380959768285994123:=0
def tw5879186128115953380:=0
def tw5676095502994013317:=0
def tw9960296871092024488:=0
def tw6482954933056421914:=0
def tw3575617209530790925:=0
def tw1247982270511130919:=0
def tw8366637192547250933:=0
def tw4769728864710812853:=0
def tw7093191360296755019:=0
def tw5483441144912381997:=0
def tw17464877571812889221:=0
def tw7458654521732306386:=0
def tw9718183483958002647:=0
def tw15307262073496931556:=0
def tw16881076948079145745:=0
def tw13217862591246491878:=0
def tw1701874935630700556:=0
def tw4920345103573380511:=0
def tw3496324543090433742:=0
def tw11778274898013927751:=0
def tw3270308887982586023:=0
def tw9666177862033166043:=0
def tw7730956392693087243:=0
def tw15219581258151147110:=0
def tw9457144621958784912:=0
def tw4168982108342965815:=0
def tw18417723590027404882:=0
def tw4896214520871625173:=0
def tw15798121948586827921:=0
def tw12043747521938913426:=0
def tw546939305345848451:=0
def tw17386243687829555407:=0
def tw9152505593752508820:=0
def tw11160093993465956376:=0
def tw9560995319331312491:=0
def tw17887051965786656315:=0
def tw10508259009000557068:=0
def tw14183734076769192883:=0
def tw14963289860578243190:=0
def tw13018262551114640640:=0
def tw17643935952561155397:=0
def tw8959486755119473092:=0
def tw5933359312776220589:=0
def tw592582155229899122:=0
def tw1800799080991293821:=0
def tw9839308617733820969:=0
def tw13208755299951229749:=0
def tw16432240257500527259:=0
def tw10804509112147012455:=0
def tw4564129421786491043:=0
def tw8768418168840492728:=0
def tw15962603851798301126:=0
def tw11797149969205441660:=0
def tw8251161740450815464:=0
def tw7202267801702992625:=0
def tw6104925677812563457:=0
def tw2080758986942686775:=0
def tw4981594826258260513:=0
def tw10620723213866980594:=0
def tw6355478270187406708:=0
def tw2236917123230176894:=0
def tw13913097309848328239:=0
def tw3330671036444767459:=0
def tw263895734355472617:=0
def tw4857288555952663127:=0
def tw13790041932526755505:=0
def tw8580972798614061144:=0
def tw13539666188249171825:=0
def tw12694615865858325109:=0
def tw2149265128646376294:=0
def tw2848694249029203777:=0
def tw3775647439478077139:=0
def tw6699171436076179087:=0
def tw17677961421091219676:=0
def tw15156183191850637663:=0
def tw17932610874232546667:=0
def tw10611440201975107796:=0
def tw10866743235119438114:=0
def tw6336699037234628390:=0
def tw10895706098864165537:=0
def tw5455325852444939475:=0
def tw16005374879769122586:=0
def tw756038204644746954:=0
def tw10057517100824707696:=0
def tw15683665570519866172:=0
def tw12392337722514205167:=0
def tw11545488230187522355:=0
end PySem.W.Fast
open PySem PySem.W PyProof.Rows
set_option maxRecDepth 100000 in
set_option maxHeartbeats 0 in
theorem PySem.Challenge.cw_turncoins_k65_whole_wrong_turns_mended_holds : PySem.Challenge.rw_turncoins_k65_whole_wrong_turns_mended.Holds := by
 w_on;o_law;k_head;(case hw=>w_witness2)
 k_fill
 refine Vr.walk (l:=PySem.Challenge.rw_turncoins_k65_whole_wrong_turns_mended) rfl rfl (fun w h Y=>PySem.W.kIn_of Y) ?F
 case F =>
  intro w mg fa h KX G Oq
  refine' Vr.all_mk KX G Oq ?a0 ?l0 ?c0 ?k0 ?a1 ?l1 ?c1 ?k1 ?a2 ?l2 ?c2 ?k2 ?a3 ?l3 ?c3 ?k3 ?a4 ?l4 ?c4 ?k4 ?a5 ?l5 ?c5 ?k5 ?a6 ?l6 ?c6 ?k6 ?a7 ?l7 ?c7 ?k7 ?a8 ?l8 ?c8 ?k8 ?a9 ?l9 ?c9 ?k9 ?a10 ?l10 ?Qo ?k10 ?a11 ?l11 ?c11 ?k11 ?a12 ?l12 ?c12 ?k12 ?a13 ?l13 ?c13 ?k13 ?a14 ?l14 ?c14 ?k14 ?a15 ?l15 ?c15 ?k15 ?a16 ?l16 ?c16 ?k16 ?a17 ?l17 ?c17 ?k17 ?a18 ?l18 ?c18 ?k18 ?a19 ?l19 ?c19 ?k19 ?a20 ?l20 ?c20 ?k20 ?a21 ?l21 ?c21 ?k21 ?a22 ?l22 ?c22 ?k22 ?a23 ?l23 ?c23 ?k23 ?a24 ?l24 ?c24 ?k24 ?a25 ?l25 ?c25 ?k25 ?a26 ?l26 ?c26 ?k26 ?a27 ?l27 ?c27 ?k27 ?a28 ?l28 ?c28 ?k28 ?a29 ?l29 ?c29 ?k29 ?a30 ?l30 ?c30 ?k30 ?a31 ?l31 ?c31 ?k31 ?a32 ?l32 ?c32 ?k32 ?a33 ?l33 ?c33 ?k33 ?a34 ?l34 ?c34 ?k34 ?a35 ?l35 ?c35 ?k35 ?a36 ?l36 ?c36 ?k36 ?a37 ?l37 ?c37 ?k37 ?a38 ?l38 ?c38 ?k38 ?a39 ?l39 ?c39 ?k39 ?a40 ?l40 ?c40 ?k40 ?a41 ?l41 ?c41 ?k41 ?a42 ?l42 ?c42 ?k42 ?a43 ?l43 ?c43 ?k43 ?a44 ?l44 ?c44 ?k44 ?a45 ?l45 ?c45 ?k45 ?a46 ?l46 ?c46 ?k46 ?a47 ?l47 ?c47 ?k47 ?a48 ?l48 ?c48 ?k48 ?a49 ?l49 ?c49 ?k49 ?a50 ?l50 ?c50 ?k50 ?ad0 ?ld0 ?NM ?kd0 ?Rh ?z1 ?z2 ?z3 ?z4 ?z5 ?z6 ?z7 ?z8 ?z9 ?OI ?OJ ?OK ?OL ?g1 ?g2 ?vj ?zP ?zQ ?ki ?kj ?kl ?lZ ?ji ?ma ?oF ?km ?ko ?kq ?kr ?ku ?kz ?kB ?kC ?kD ?kE ?kF ?kG ?kH ?kI ?kZ ?lg ?lh ?lj ?vk ?vm ?fB ?fD ?fE ?fF ?fG ?il ?ip ?iq ?ir ?iu ?dW ?dX ?dY ?dZ ?d0 ?iw ?ix ?iy ?iz ?iA ?fO ?dA ?cU ?cx ?jj ?jl ?jm ?cbM ?M4 ?M5 ?vn ?M6 ?M7 ?gxs ?gzs ?gmc
  (case a0|l0|c0|k0|a1|l1|c1|k1|a2|l2|c2|k2|a3|l3|c3|k3|a4|l4|c4|k4|a5|l5|c5|k5|a6|l6|c6|k6|a7|l7|c7|k7|a8|l8|c8|k8|a9|l9|c9|k9|a10|l10|Qo|k10|a11|l11|c11|k11|a12|l12|c12|k12|a13|l13|c13|k13|a14|l14|c14|k14|a15|l15|c15|k15|a16|l16|c16|k16|a17|l17|c17|k17|a18|l18|c18|k18|a19|l19|c19|k19|a20|l20|c20|k20|a21|l21|c21|k21|a22|l22|c22|k22|a23|l23|c23|k23|a24|l24|c24|k24|a25|l25|c25|k25|a26|l26|c26|k26|a27|l27|c27|k27|a28|l28|c28|k28|a29|l29|c29|k29|a30|l30|c30|k30|a31|l31|c31|k31|a32|l32|c32|k32|a33|l33|c33|k33|a34|l34|c34|k34|a35|l35|c35|k35|a36|l36|c36|k36|a37|l37|c37|k37|a38|l38|c38|k38|a39|l39|c39|k39|a40|l40|c40|k40|a41|l41|c41|k41|a42|l42|c42|k42|a43|l43|c43|k43|a44|l44|c44|k44|a45|l45|c45|k45|a46|l46|c46|k46|a47|l47|c47|k47|a48|l48|c48|k48|a49|l49|c49|k49|a50|l50|c50|k50|ad0|ld0|NM|kd0|Rh|z1|z2|z3|z4|z5|z6|z7|z8|z9|OI|OJ|OK|OL|g1|g2|vj|zP|zQ|ki|kj|kl|lZ|ji|ma|oF|km|ko|kq=>k_is);(case kr=>(first|kernel_rfl|decide +kernel));(case ku|kz|kB|kC|kD|kE|kF|kG=>k_is);(case kH=>(first|kernel_rfl|decide +kernel));(case kI|kZ|lg|lh|lj|vk|vm|fB|fD|fE|fF|fG|il|ip|iq|ir|iu|dW|dX|dY|dZ|d0|iw|ix|iy|iz|iA|fO|dA|cU|cx|jj|jl|jm|cbM|M4|M5|vn|M6|M7|gxs|gzs|gmc=>k_is)
#print axioms PySem.Challenge.cw_turncoins_k65_whole_wrong_turns_mended_holds
