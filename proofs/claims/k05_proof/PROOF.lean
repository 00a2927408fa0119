import PyProof.Rows.All
import Wide.All
import OpenK.AllK
import Wide.FinOn
import Lean
import PyProof.EqAt
import PyProof.EqKinds
import PyProof.TupleCall
import KE.KTryMore
import PyProof.NsDelKeeps
import KE.KNest
import PyProof.StrLawsTight
import PyProof.StrBlockI
import PyProof.StrBlock2
import PyProof.StrCalls6
import PyProof.Rows.StrCase
import PyProof.Rows.StrFirst
import KE.IntBitsLaws
import PySem.Challenge.RW_lightmark_k05_whole_parts_come_back
import PyProof.StrLawsFrom
set_option Elab.async false
set_option linter.all false
set_option maxRecDepth 100000
namespace L2
open PySem PySem.Spec PyProof.Rows
abbrev Key:=Sum Int Str
def keyIs:Key->Value->Bool
 | .inl k,v=>Value.isInt k v
 | .inr x,v=>Value.isStrOf x v
def keyH (w:World):Key->Int
 | .inl k=>hashInt k
 | .inr x=>hashStr w x
theorem keyIs_shape:∀ {k:Key} {v:Value},keyIs k v=true->(∃ i t,k=Sum.inl i/\v=Value.int i t) ∨ (∃ x t,k=Sum.inr x/\v=Value.str x t)
 | .inl i,v,h=>by
  obtain ⟨t,e⟩:=Value.isInt_shape (k:=i) (v:=v) h
  exact .inl ⟨i,t,rfl,e⟩
 | .inr x,v,h=>by
  obtain ⟨t,e⟩:=Value.isStrOf_shape (x:=x) (v:=v) h
  exact .inr ⟨x,t,rfl,e⟩
theorem key_ll (a b:Int):decide ((Sum.inl a:Key)=Sum.inl b)=(a==b):=by
 by_cases e:a=b
 ·subst e;simp
 ·have h:¬ (Sum.inl a:Key)=Sum.inl b:=fun q=>e (Sum.inl.inj q)
  rw[decide_eq_false h]
  exact (beq_eq_false_iff_ne.mpr e).symm
theorem key_rr (a b:Str):decide ((Sum.inr a:Key)=Sum.inr b)=decide (a=b):=by
 by_cases e:a=b
 ·subst e;simp
 ·have h:¬ (Sum.inr a:Key)=Sum.inr b:=fun q=>e (Sum.inr.inj q)
  rw[decide_eq_false h,decide_eq_false e]
theorem key_lr (a:Int) (b:Str):decide ((Sum.inl a:Key)=Sum.inr b)=false:=decide_eq_false (fun q=>nomatch q)
theorem key_rl (a:Str) (b:Int):decide ((Sum.inr a:Key)=Sum.inl b)=false:=decide_eq_false (fun q=>nomatch q)
def mixKind (prog:Program) (w:World):PySem.KeyKind prog w Key where
 is:=keyIs
 hash:=keyH w
 inj:=fun v a b ha hb=>by
  rcases keyIs_shape ha with ⟨i,t,rfl,rfl⟩ |⟨x,t,rfl,rfl⟩
  ·rcases keyIs_shape hb with ⟨j,u,rfl,e⟩ |⟨y,u,rfl,e⟩
   ·injection e with e1 _;rw[e1]
   ·exact nomatch e
  ·rcases keyIs_shape hb with ⟨j,u,rfl,e⟩ |⟨y,u,rfl,e⟩
   ·exact nomatch e
   ·injection e with e1 _;rw[e1]
 byValue:=fun k v h=>by
  rcases keyIs_shape h with ⟨i,t,rfl,rfl⟩ |⟨x,t,rfl,rfl⟩ <;> rfl
 pyHash:=fun hv h=>by
  rcases keyIs_shape hv with ⟨i,t,rfl,rfl⟩ |⟨x,t,rfl,rfl⟩
  ·exact wpAny_pyHash_int h
  ·exact wpAny_pyHash_str h
 eqBool:=fun hu hv h=>by
  rcases keyIs_shape hu with ⟨i,t,rfl,rfl⟩ |⟨x,t,rfl,rfl⟩
  ·rcases keyIs_shape hv with ⟨j,u,rfl,rfl⟩ |⟨y,u,rfl,rfl⟩
   ·rw[key_ll] at h;exact wpAny_eqBool_int h
   ·rw[key_lr] at h;exact SeqAt.EqAt.int_str i t y u _ _ _ _ h
  ·rcases keyIs_shape hv with ⟨j,u,rfl,rfl⟩ |⟨y,u,rfl,rfl⟩
   ·rw[key_rl] at h;exact SeqAt.EqAt.str_int x t j u _ _ _ _ h
   ·rw[key_rr] at h;exact wpAny_eqBool_str h
 «strs» := fun k x t v h=>by
  rcases keyIs_shape h with ⟨i,u,rfl,e⟩ |⟨y,u,rfl,e⟩
  ·exact nomatch e
  ·injection e with e1 _
   subst e1
   cases v <;> rfl
end L2
namespace L2
open PySem PySem.Spec PyProof.Rows
inductive V where
 |non |bl (b:Bool) |int (i:Int) |str (x:Str) |byt (b:Array UInt8) |flt (b:UInt64) |ref (a:Addr) |ty (n:String)
 deriving DecidableEq
def RelV:V->Value->Prop
 | .non,u=>u=Value.none
 | .bl b,u=>u=Value.bool b
 | .int i,u=>∃ t,u=Value.int i t
 | .str x,u=>∃ t,u=Value.str x t
 | .byt b,u=>∃ t,u=Value.bytes b t
 | .flt b,u=>∃ t,u=Value.float b t
 | .ref a,u=>u=Value.ref a
 | .ty n,u=>u=Value.type n
abbrev Vals:List V->List Value->Prop:=Paired RelV
theorem Vals.length {xs:List V} {us:List Value} (r:Vals xs us):xs.length=us.length:=Paired.length r
theorem Vals.get:∀ {xs:List V} {us:List Value} {i:Nat} {x:V},Vals xs us->xs[i]? = some x->∃ u,us[i]? = some u/\RelV x u
 |_,_,_,_, .nil,e=>by simp at e
 |_,_,0,_, .cons r _,e=>by simp at e;subst e;exact ⟨_,rfl,r⟩
 |_,_,i+1,x, .cons _ t,e=>by
  obtain ⟨u,h1,h2⟩:=Vals.get (i:=i) (x:=x) t (by simpa using e)
  exact ⟨u,by simpa using h1,h2⟩
theorem Vals.set {x:V} {u:Value} (r:RelV x u):∀ {xs:List V} {us:List Value} (i:Nat),Vals xs us->Vals (xs.set i x) (us.set i u)
 |_,_,_, .nil => .nil
 |_,_,0, .cons _ t => .cons r t
 |_,_,i+1, .cons q t => .cons q (Vals.set r i t)
theorem Vals.append:∀ {xs ys:List V} {us ws:List Value},Vals xs us->Vals ys ws->Vals (xs++ys) (us++ws)
 |_,_,_,_, .nil,s=>s
 |_,_,_,_, .cons r t,s => .cons r (Vals.append t s)
def RelO:Option V->Option Value->Prop
 |some v,some u=>RelV v u
 |none,none=>True
 |_,_=>False
def KV {κ:Type}:List (κ×V)->List (κ×Value)->Prop:=Paired fun (p:κ×V) (q:κ×Value)=>p.1=q.1/\RelV p.2 q.2
def kV:Key->V
 | .inl i => .int i
 | .inr x => .str x
inductive HO where
  |lst (xs:List V)
  |tup (xs:List V)
  |dK (kvs:List (Key×V)) |dT (kvs:List (List Key×V))
  |set (S:Int->Bool) (n:Nat)
  |ins (C dx:Addr) (fs:List (Str×V))
  |own (x:Addr)
  |xd (fs:List (Str×V))
  |met (f x:Addr)
  |rng (lo hi:Int)
  |frz (o:Obj) (u:HO)
  |tbl (ps:Array Value)
  |ext (φ:Heap->Prop)
abbrev Hp:=Addr->Option HO
def upd (H:Hp) (a:Addr) (o:HO):Hp:=fun b=>if b=a then some o else H b
theorem upd_same {H:Hp} {a:Addr} {o:HO}:upd H a o a=some o:=by unfold upd;rw[if_pos rfl]
theorem upd_ne {H:Hp} {a b:Addr} {o:HO} (h:b≠a):upd H a o b=H b:=by unfold upd;rw[if_neg h]
theorem ne_of_none {H:Hp} {a b:Addr} {o:HO} (h:H a=some o) (h':H b=none):a≠b:=by
 intro e;subst e;rw[h] at h';cases h'
section
variable (P:Program) (w:World)
def ObjOk (H:Hp) (h:Heap) (a:Addr):HO->Prop
 | .lst xs=>xs.length<=sizeLine/\∃ (its:List Value) (n:Nat),Vals xs its/\h.get? a=some { cls := .type "list",data := .seq its.toArray n }
 | .tup xs=>xs.length<=sizeLine/\∃ its:List Value,Vals xs its/\IsTup h a its.toArray
 | .dK kvs=>kvs.length<=sizeLine/\(a==sysModules)=false/\∃ vs,KV kvs vs/\h.DictOf (mixKind P w) a vs
 | .dT kvs=>kvs.length<=sizeLine/\(a==sysModules)=false/\∃ xs:List (List Key×Addr×Value),
   Paired (fun (p:List Key×V) (q:List Key×Addr×Value)=>p.1=q.1/\H q.2.1=some (.tup (p.1.map kV))/\RelV p.2 q.2.2) kvs xs ∧
   ∃ o es ep,h.get? a=some o/\o.ExactDict/\o.data = .dict es ep/\es.toList=xs.map (entryOfKey (tupleKind (mixKind P w)))/\(xs.map (·.1)).Nodup
 | .set S n=>h.SetOf (intKind P w) a S n
 | .ins C dx fs=>H dx=some (.own a)/\fs.length<=1000/\dx≠a/\h.get? a=some (PySem.W.instObj C dx) ∧
   ∃ mA,h.Ns1 dx mA/\(∀ f,RelO (fs.lookup f) (mA f))/\PySem.Within mA (fs.map (·.1))
 | .own _=>∃ o,h.get? a=some o
 | .xd fs=>∃ mA,h.Ns1 a mA/\∀ f,RelO (fs.lookup f) (mA f)
 | .rng lo hi=>∃ t u v,h.get? a=some { cls := .type "range",data := .fields #[.int lo t, .int hi u, .int 1 v] }
 | .frz o u=>h.get? a=some o/\ObjOk H h a u
 | .tbl ps=>h.get? a=some { cls := .none,data := .fields ps }
 | .met f x=>h.get? a=some (PySem.W.methodObj (.ref f) (.ref x))
 | .ext φ=>φ h/\(∃ o,h.get? a=some o)/\∀ h1 h2:Heap,φ h1->(∀ o,h1.get? a=some o->h2.get? a=some o)->φ h2
def HOk (H:Hp) (h:Heap):Prop:=∀ a o,H a=some o->ObjOk P w H h a o
end
section
variable {P:Program} {w:World} {H H':Hp} {h h':Heap} {a:Addr} {o:HO}
theorem ObjOk.lt (x:ObjOk P w H h a o):a < h.objs.size:=by
 cases o with
 |lst xs=>obtain ⟨_,_,_,_,e⟩:=x;exact Heap.lt_size e
 |tup xs=>obtain ⟨_,_,_,p⟩:=x;exact p.lt
 |dK kvs=>obtain ⟨_,_,_,_,o,_,_,e,_⟩:=x;exact Heap.lt_size e
 |dT kvs=>obtain ⟨_,_,_,_,o,_,_,e,_⟩:=x;exact Heap.lt_size e
 |set S n=>obtain ⟨o,_,_,_,e,_⟩:=x;exact Heap.lt_size e
 |ins C dx fs=>obtain ⟨_,_,_,e,_⟩:=x;exact Heap.lt_size e
 |own y=>obtain ⟨_,e⟩:=x;exact Heap.lt_size e
 |xd fs=>obtain ⟨_,⟨_,_,_,e,_⟩,_⟩:=x;exact Heap.lt_size e
 |rng lo hi=>obtain ⟨_,_,_,e⟩:=x;exact Heap.lt_size e
 |frz ob u=>obtain ⟨e,_⟩:=x;exact Heap.lt_size e
 |tbl ps=>exact Heap.lt_size (show h.get? a=some _ from x)
 |met f y=>exact Heap.lt_size (show h.get? a=some _ from x)
 |ext φ=>obtain ⟨_,⟨_,e⟩,_⟩:=x;exact Heap.lt_size e
theorem Paired.mapP {α β:Type} {F G:α->β->Prop}:∀ {l₁:List α} {l₂:List β},Paired F l₁ l₂->(∀ a b,F a b->G a b)->Paired G l₁ l₂
 |_,_, .nil,_ => .nil
 |_,_, .cons r t,f => .cons (f _ _ r) (Paired.mapP t f)
theorem ObjOk.stay (x:ObjOk P w H h a o) (k:∀ b u,(b=a ∨ H b=some (.own a))->h.get? b=some u->h'.get? b=some u)
  (ho:∀ b,H b=some (.own a)->H' b=some (.own a)) (ht:∀ b xs,H b=some (.tup xs)->H' b=some (.tup xs)):ObjOk P w H' h' a o:=by
 induction o with
 |lst xs=>obtain ⟨z,its,n,r,e⟩:=x;exact ⟨z,its,n,r,k _ _ (.inl rfl) e⟩
 |tup xs=>obtain ⟨z,its,r,ob,e,c⟩:=x;exact ⟨z,its,r,ob,k _ _ (.inl rfl) e,c⟩
 |dK kvs=>obtain ⟨z,y,vs,r,ob,es,ep,e,c⟩:=x;exact ⟨z,y,vs,r,ob,es,ep,k _ _ (.inl rfl) e,c⟩
 |dT kvs=>
  obtain ⟨z,y,xs,r,ob,es,ep,e,c⟩:=x
  exact ⟨z,y,xs,Paired.mapP r fun p q z=>⟨z.1,ht _ _ z.2.1,z.2.2⟩,ob,es,ep,k _ _ (.inl rfl) e,c⟩
 |set S n=>obtain ⟨ob,es,ep,t,e,c⟩:=x;exact ⟨ob,es,ep,t,k _ _ (.inl rfl) e,c⟩
 |ins C dx fs=>
  obtain ⟨d,z,ne,e,mA,⟨od,es,ep,e2,c⟩,r⟩:=x
  exact ⟨ho _ d,z,ne,k _ _ (.inl rfl) e,mA,⟨od,es,ep,k _ _ (.inr d) e2,c⟩,r⟩
 |own y=>obtain ⟨ob,e⟩:=x;exact ⟨ob,k _ _ (.inl rfl) e⟩
 |xd fs=>obtain ⟨mA,⟨od,es,ep,e,c⟩,r⟩:=x;exact ⟨mA,⟨od,es,ep,k _ _ (.inl rfl) e,c⟩,r⟩
 |rng lo hi=>obtain ⟨t,u,v,e⟩:=x;exact ⟨t,u,v,k _ _ (.inl rfl) e⟩
 |frz ob u ih=>obtain ⟨e,q⟩:=x;exact ⟨k _ _ (.inl rfl) e,ih q⟩
 |tbl ps=>
  have e:h.get? a=some { cls := .none,data := .fields ps }:=x
  show h'.get? a=some { cls := .none,data := .fields ps }
  exact k a _ (.inl rfl) e
 |met f y=>
  have e:h.get? a=some (PySem.W.methodObj (.ref f) (.ref y)):=x
  show h'.get? a=some (PySem.W.methodObj (.ref f) (.ref y))
  exact k a _ (.inl rfl) e
 |ext φ=>obtain ⟨p,⟨o,e⟩,st⟩:=x;exact ⟨st _ _ p fun o q=>k _ _ (.inl rfl) q,⟨o,k _ _ (.inl rfl) e⟩,st⟩
theorem HOk.lt (x:HOk P w H h) (e:H a=some o):a < h.objs.size:=(x a o e).lt
theorem HOk.fresh (x:HOk P w H h) (e:h.objs.size<=a):H a=none:=by
 cases q:H a with
 |none=>rfl
 |some u=>exact absurd (Nat.lt_of_lt_of_le (x.lt q) e) (Nat.lt_irrefl _)
theorem HOk.kept (x:HOk P w H h) (k:∀ b u,h.get? b=some u->h'.get? b=some u):HOk P w H h':=fun a o e=>
 (x a o e).stay (fun b u _ q=>k b u q) (fun _ q=>q) fun _ _ q=>q
theorem HOk.laid (x:HOk P w H h) (k:∀ b u,h.get? b=some u->h'.get? b=some u) (hp:h.objs.size<=a) (new:ObjOk P w (upd H a o) h' a o):HOk P w (upd H a o) h':=fun b u e=>by
 have hn:=x.fresh hp
 by_cases hb:b=a
 ·subst hb;rw[upd_same] at e;cases e;exact new
 ·rw[upd_ne hb] at e
  exact (x b u e).stay (fun c v _ q=>k c v q) (fun c q=>by rw[upd_ne (ne_of_none q hn)];exact q) fun c xs q=>by rw[upd_ne (ne_of_none q hn)];exact q
end
def Rd (H:Hp) (a:Addr) (u:HO):Prop:=H a=some u ∨ ∃ o,H a=some (.frz o u)
theorem Rd.ok {P:Program} {w:World} {H:Hp} {h:Heap} {a:Addr} {u:HO} (r:Rd H a u) (x:HOk P w H h):ObjOk P w H h a u:=by
 rcases r with r |⟨o,r⟩
 ·exact x a u r
 ·obtain ⟨_,q⟩:=x a _ r
  exact q
def Mut:Option HO->Prop
 |some (.lst _)=>True
 |some (.dK _)=>True
 |some (.dT _)=>True
 |some (.set _ _)=>True
 |some (.ins _ _ _)=>True
 |some (.ext _)=>True
 |_=>False
section
variable {P:Program} {w:World} {H:Hp} {h h':Heap} {x e:Addr} {o':HO}
theorem HOk.write (ok:HOk P w H h) (mu:Mut (H x)) (he:e=x ∨ H e=some (.own x)) (k:∀ b u,b≠e->h.get? b=some u->h'.get? b=some u) (heo:∃ u,h'.get? e=some u)
  (new:ObjOk P w (upd H x o') h' x o'):HOk P w (upd H x o') h':=fun b u q=>by
 have nown:∀ c y,H c=some (.own y)->c≠x:=fun c y r z=>by subst z;rw[r] at mu;exact mu
 have ntup:∀ c xs,H c=some (.tup xs)->c≠x:=fun c xs r z=>by subst z;rw[r] at mu;exact mu
 by_cases hb:b=x
 ·subst hb;rw[upd_same] at q;cases q;exact new
 ·rw[upd_ne hb] at q
  by_cases hbe:b=e
  ·have q':H b=some (.own x):=by
    rcases he with z |z
    ·exact absurd (hbe.trans z) hb
    ·rw[hbe];exact z
   rw[q] at q';cases q'
   obtain ⟨v,hv⟩:=heo
   exact ⟨v,by rw[hbe];exact hv⟩
  ·refine (ok b u q).stay (fun c v hc r=>k c v ?_ r) (fun c r=>by rw[upd_ne (nown c b r)];exact r) fun c xs r=>by rw[upd_ne (ntup c xs r)];exact r
   rcases hc with rfl |hc
   ·exact hbe
   ·rintro rfl
    rcases he with z |z
    ·exact nown c b hc z
    ·rw[hc] at z;cases z;exact hb rfl
end
structure Un (fs ex:List Addr) (H H':Hp) (h h':Heap):Prop where
 keep:∀ b o,h.get? b=some o->H b=none->b∉fs->b∉ex->h'.get? b=some o
 slot:∀ b o,h.get? b=some o->H b=none->b∈fs->b∉ex->∃ sl,h'.get? b=some { o with slots:=sl }
 free:∀ b o,h.get? b=some o->H b=none->b∉ex->H' b=none
 there:∀ b o,h.get? b=some o->b∉ex->∃ o',h'.get? b=some o'
 tups:∀ b xs,H b=some (.tup xs)->H' b=some (.tup xs)
 frzs:∀ b o u,H b=some (.frz o u)->H' b=some (.frz o u)
 tbls:∀ b ps,H b=some (.tbl ps)->∃ more,H' b=some (.tbl (ps++more))
section
variable {fs fs' ex ex':List Addr} {H H1 H2:Hp} {h h1 h2 h':Heap} {a x e:Addr} {o:HO}
theorem Un.any (u:Un fs ex H H1 h h1) {b:Addr} {ob:Obj} (q:h.get? b=some ob) (n:H b=none) (hx:b∉ex):∃ sl,h1.get? b=some { ob with slots:=sl }:=by
 by_cases hb:b∈fs
 ·exact u.slot b ob q n hb hx
 ·exact ⟨ob.slots,u.keep b ob q n hb hx⟩
theorem Un.kept (k:∀ b u,h.get? b=some u->h'.get? b=some u):Un fs ex H H h h':=
 ⟨fun b ob q _ _ _=>k b ob q,fun b ob q _ _ _=>⟨ob.slots,k b ob q⟩,fun _ _ _ n _=>n,fun b ob q _=>⟨ob,k b ob q⟩,fun _ _ q=>q,fun _ _ _ q=>q,fun _ ps q=>⟨#[],by rw[q];simp⟩⟩
theorem Un.refl:Un fs ex H H h h:=Un.kept fun _ _ q=>q
theorem Un.laid (k:∀ b u,h.get? b=some u->h'.get? b=some u) (hp:h.objs.size<=a) (hn:H a=none):Un fs ex H (upd H a o) h h' where
 keep:=fun b u q _ _ _=>k b u q
 slot:=fun b u q _ _ _=>⟨u.slots,k b u q⟩
 free:=fun b u q n _=>by rw[upd_ne (Nat.ne_of_lt (Nat.lt_of_lt_of_le (Heap.lt_size q) hp))];exact n
 there:=fun b u q _=>⟨u,k b u q⟩
 tups:=fun b xs q=>by rw[upd_ne (ne_of_none q hn)];exact q
 frzs:=fun b u xs q=>by rw[upd_ne (ne_of_none q hn)];exact q
 tbls:=fun b ps q=>⟨#[],by rw[upd_ne (ne_of_none q hn),q];simp⟩
theorem Un.write (mu:Mut (H x)) (he:e=x ∨ H e=some (.own x)) (k:∀ b u,b≠e->h.get? b=some u->h'.get? b=some u) (heo:∃ u,h'.get? e=some u):Un fs ex H (upd H x o) h h':=by
 have hx:∀ b,H b=none->b≠x:=fun b n z=>by subst z;rw[n] at mu;exact mu
 have hb:∀ b,H b=none->b≠e:=fun b n z=>by
  subst z
  rcases he with r |r
  ·exact hx b n r
  ·rw[n] at r;cases r
 have hm:∀ b u,H b=some u->¬ Mut (some u)->b≠x:=fun b u q nm z=>by subst z;rw[q] at mu;exact nm mu
 refine ⟨fun b u q n _ _=>k b u (hb b n) q,fun b u q n _ _=>⟨u.slots,k b u (hb b n) q⟩,fun b u q n _=>by rw[upd_ne (hx b n)];exact n,fun b u q _=>?_,
  fun b xs q=>by rw[upd_ne (hm b _ q fun z=>z)];exact q,fun b u xs q=>by rw[upd_ne (hm b _ q fun z=>z)];exact q,fun b ps q=>⟨#[],by rw[upd_ne (hm b _ q fun z=>z),q];simp⟩⟩
 by_cases hbe:b=e
 ·subst hbe;exact heo
 ·exact ⟨u,k b u hbe q⟩
end
def trk (h:Heap) (H:Hp):List Addr:=(List.range h.objs.size).filter fun a=>(H a).isSome
def hidT (h:Heap) (H:Hp):Heap:=PySem.W.hideAll h (trk h H)
theorem hidT_size (h:Heap) (H:Hp):(hidT h H).objs.size=h.objs.size:=PySem.W.hideAll_size _ _
theorem hidT_get {h:Heap} {H:Hp} {b:Addr} {o:Obj} (e:h.get? b=some o) (n:H b=none):(hidT h H).get? b=some o:=
 PySem.W.hideAll_get _ e fun hm=>by
  have q:(H b).isSome=true:=(List.mem_filter.mp hm).2
  rw[n] at q;simp at q
theorem of_hidT {h:Heap} {H:Hp} {b:Addr} {o:Obj} (e:(hidT h H).get? b=some o):h.get? b=some o/\H b=none:=by
 have e':h.get? b=some o:=PySem.W.of_hideAll (trk h H) e
 refine ⟨e',?_⟩
 cases q:H b with
 |none=>rfl
 |some x=>
  have hm:b∈trk h H:=List.mem_filter.mpr ⟨List.mem_range.mpr (Heap.lt_size e'),by simp[q]⟩
  have z:(hidT h H).get? b=none:=PySem.W.hideAll_none (trk h H) hm
  rw[z] at e;cases e
end L2
namespace L2
open PySem PySem.Spec PyProof.Rows
structure Mod (K:PySem.W.Frag) (mg:Str->Option Value) (base:Heap):Prop where
 kin:K.In base
 glob:base.Ns mainGlobals mg
 blt:∃ mb,base.Ns builtinsNs mb/\∀ x:Str,x≠"__name__"->mb x=bootBuiltins x
 nolimit:base.NoLimit
structure Cx where
 prog:Program
 w:World
 K:PySem.W.Frag
 mg:Str->Option Value
 base:Heap
 A:Around
 N:List Str
 s₀:Shared
 H₀:Hp
 env:Env
 outer:List Env
 stack:List Env
 ex:List Addr
 fn:Str->Bool
 calm:Bool
 pn:List (Addr×Obj)
 xe:Value->Shared->Prop
def frs (l:List Env):List Addr:=l.filterMap (·.frame)
abbrev Cx.fs (X:Cx):List Addr:=frs X.outer
def Vis (sc:Scope) (x:Str):Prop:=sc.names.lookup x=some .local ∨ sc.names.lookup x=some .cell ∨ sc.names.lookup x=some .free
def Loc (sc:Scope) (x:Str):Prop:=sc.names.lookup x=some .local ∨ sc.names.lookup x=some .cell
def Look (env:Env) (h:Heap) (m:Str->Option Value) (x:Str) (u:Value):Prop:=
 (env.kindOf x=some .local/\m x=some u) ∨ ((env.kindOf x=some .cell ∨ env.kindOf x=some .free)/\∃ c,env.cells.lookup x=some c/\h.IsCell c (some u))
structure Cx.Ok (X:Cx):Prop where
 mod:Mod X.K X.mg X.base
 kind:X.env.scope.kind = .function
 glob:X.env.globals=mainGlobals
 blt:X.env.builtins=builtinsNs
 above:X.s₀.heap.objs.size<=X.env.locals
 inj:∀ x y c,X.env.cells.lookup x=some c->X.env.cells.lookup y=some c->x=y
 has:∀ x,(X.env.kindOf x=some .cell ∨ X.env.kindOf x=some .free)->∃ c,X.env.cells.lookup x=some c
 cab:∀ x c,X.fn x=true->X.env.cells.lookup x=some c->X.s₀.heap.objs.size<=c
 hd:X.calm=true->X.A.handled=none
 frames:X.A.frames=some X.stack
 stk:X.stack=X.outer ∨ (X.stack=X.env::X.outer/\X.env.frame=some X.env.locals)
 exf:∀ b∈X.ex,b≠X.env.locals/\∀ x c,X.env.cells.lookup x=some c->c≠b
 bs:∀ b o,X.base.get? b=some o->X.s₀.heap.get? b=some o/\X.H₀ b=none
 bsz:X.base.objs.size<=X.s₀.heap.objs.size
 noex:∀ b o,X.base.get? b=some o->b∉X.ex
 exfs:∀ b∈X.ex,b∉X.fs
 funs:X.s₀.heap.FunFrames X.base X.outer
 frf:∀ b∈X.fs,X.H₀ b=none
structure Inv (X:Cx) (pins:List (Addr×Obj)) (σ:List (Option V)) (H:Hp) (s:Shared):Prop where
 ok:X.Ok
 os:s.os=X.s₀.os
 bare:AllBare s.gens
 base:Un X.fs X.ex X.H₀ H X.s₀.heap s.heap
 loc:∃ m,s.heap.Ns X.env.locals m/\∀ (i:Nat) (x:Str) (v:V),X.N[i]? = some x->σ[i]? = some (some v)->Vis X.env.scope x->∃ u,RelV v u/\Look X.env s.heap m x u
 cell:∀ x c,X.env.cells.lookup x=some c->∃ v,s.heap.IsCell c v
 free:H X.env.locals=none
 freeC:∀ x c,X.env.cells.lookup x=some c->H c=none
 pin:∀ p∈X.pn++pins,s.heap.get? p.1=some p.2/\H p.1=none/\p.1≠X.env.locals/\p.1∉X.fs/\∀ v,p.2.data ≠ .cell v
 hok:HOk X.prog X.w H s.heap
 len:σ.length=X.N.length
 tk:0 < s.toks
section
variable {X:Cx} {pins:List (Addr×Obj)} {σ:List (Option V)} {H H':Hp} {s:Shared} {h':Heap}
theorem Cx.Ok.nofr (ok:X.Ok) {b:Addr} {o:Obj} (e:X.base.get? b=some o):b∉X.fs:=fun hb=>by
 have:=(ok.funs.mem hb).1
 rw[e] at this;cases this
theorem Inv.bs (I:Inv X pins σ H s):∀ b o,X.base.get? b=some o->s.heap.get? b=some o/\H b=none:=fun b o e=>
 ⟨I.base.keep b o (I.ok.bs b o e).1 (I.ok.bs b o e).2 (I.ok.nofr e) (I.ok.noex b o e),I.base.free b o (I.ok.bs b o e).1 (I.ok.bs b o e).2 (I.ok.noex b o e)⟩
theorem Inv.bk (I:Inv X pins σ H s):∀ b o,X.base.get? b=some o->s.heap.get? b=some o:=fun b o e=>(I.bs b o e).1
theorem Inv.mod (I:Inv X pins σ H s):Mod X.K X.mg X.base:=I.ok.mod
theorem Inv.kIn (I:Inv X pins σ H s):X.K.In s.heap:=I.ok.mod.kin.keeps I.bk
theorem Inv.lt (I:Inv X pins σ H s):X.env.locals < s.heap.objs.size:=let ⟨_,hn,_⟩:=I.loc;hn.lt
theorem Inv.sz (I:Inv X pins σ H s):X.s₀.heap.objs.size<=s.heap.objs.size:=Nat.le_trans I.ok.above (Nat.le_of_lt I.lt)
theorem Inv.nofs (I:Inv X pins σ H s) {a:Addr} (h:s.heap.objs.size<=a):a∉X.fs:=fun hb=>by
 obtain ⟨_,o,ho,_⟩:=I.ok.funs.mem hb
 exact absurd (Nat.lt_of_lt_of_le (Heap.lt_size ho) (Nat.le_trans I.sz h)) (Nat.lt_irrefl _)
theorem Inv.cne (I:Inv X pins σ H s):∀ x c,X.env.cells.lookup x=some c->c≠X.env.locals:=fun x c e z=>by
 obtain ⟨v,o,ho,hd⟩:=I.cell x c e
 obtain ⟨m,⟨o',es,ep,ho',hd',_⟩,_⟩:=I.loc
 rw[z,ho'] at ho;cases ho;rw[hd'] at hd;cases hd
theorem Inv.funs (I:Inv X pins σ H s):s.heap.FunFrames X.base X.outer:=by
 have all:∀ (l:List Env),(∀ b∈frs l,b∈X.fs)->X.s₀.heap.FunFrames X.base l->s.heap.FunFrames X.base l:=by
  intro l
  induction l with
  |nil=>intro _ _;trivial
  |cons env r ih=>
   intro hs hl
   obtain ⟨hk,⟨L,o,hf,hn,ho,hd⟩,hr⟩:=hl
   have hL:L∈X.fs:=hs L (by unfold frs;rw[List.filterMap_cons,hf];exact List.mem_cons_self)
   obtain ⟨sl,e⟩:=I.base.slot L o ho (I.ok.frf L hL) hL fun z=>I.ok.exfs L z hL
   exact ⟨hk,⟨L,_,hf,hn,e,hd⟩,ih (fun b hb=>hs b (by unfold frs;rw[List.filterMap_cons,hf];exact List.mem_cons_of_mem _ hb)) hr⟩
 exact all X.outer (fun _ hb=>hb) I.ok.funs
theorem Inv.stack (I:Inv X pins σ H s):s.heap.FunFrames X.base X.stack:=by
 rcases I.ok.stk with e |⟨e,hf⟩
 ·rw[e];exact I.funs
 ·rw[e]
  obtain ⟨m,hn,_⟩:=I.loc
  refine .cons (by rw[I.ok.kind];decide) hf hn ?_ I.funs
  exact Heap.get?_none_of_le (Nat.le_trans I.ok.bsz I.ok.above)
theorem Inv.stkSub (I:Inv X pins σ H s):∀ b∈frs X.stack,b∈X.env.locals::X.fs:=fun b hb=>by
 rcases I.ok.stk with e |⟨e,hf⟩
 ·rw[e] at hb;exact List.mem_cons_of_mem _ hb
 ·rw[e] at hb
  unfold frs at hb
  rw[List.filterMap_cons,hf] at hb
  exact hb
theorem Inv.stkFree (I:Inv X pins σ H s):∀ b∈frs X.stack,H b=none:=fun b hb=>by
 rcases List.mem_cons.mp (I.stkSub b hb) with e |hb
 ·rw[e];exact I.free
 ·obtain ⟨_,o,ho,_⟩:=I.ok.funs.mem hb
  exact I.base.free b o ho (I.ok.frf b hb) fun z=>I.ok.exfs b z hb
theorem Inv.step {g':Array GenState} {t':Nat} {d':Drawn} {ch:List Addr} (I:Inv X pins σ H s)
  (hch:∀ b∈ch,(b∈X.ex ∨ X.s₀.heap.objs.size<=b)/\b≠X.env.locals/\(∀ x c,X.env.cells.lookup x=some c->c≠b)/\∀ p∈X.pn++pins,p.1≠b)
  (keep:∀ b o,b≠X.env.locals->b∉X.fs->b∉ch->s.heap.get? b=some o->H b=none->h'.get? b=some o)
  (slot:∀ b o,b≠X.env.locals->b∈X.fs->b∉ch->s.heap.get? b=some o->H b=none->∃ sl,h'.get? b=some { o with slots:=sl }) (free:∀ b o,b∉ch->s.heap.get? b=some o->H b=none->H' b=none)
  (there:∀ b o,b∉ch->s.heap.get? b=some o->∃ o',h'.get? b=some o')
  (tups:∀ b xs,H b=some (.tup xs)->H' b=some (.tup xs)) (frzs:∀ b o u,H b=some (.frz o u)->H' b=some (.frz o u)) (tbls:∀ b ps,H b=some (.tbl ps)->∃ more,H' b=some (.tbl (ps++more)))
  (ns:∀ m,s.heap.Ns X.env.locals m->h'.Ns X.env.locals m) (hok:HOk X.prog X.w H' h') (hg:AllBare g') (ht:0 < t':=by first |assumption |exact Nat.succ_pos _ |(apply Inv.tk;assumption)):
  Inv X pins σ H' { s with heap:=h',gens:=g',drawn:=d',toks:=t' }:=by
 have neL:∀ b o,X.s₀.heap.get? b=some o->b≠X.env.locals:=fun b o e=>Nat.ne_of_lt (Nat.lt_of_lt_of_le (Heap.lt_size e) I.ok.above)
 have neC:∀ b o,X.s₀.heap.get? b=some o->b∉X.ex->b∉ch:=fun b o e hx hb=>by
  rcases (hch b hb).1 with z |z
  ·exact hx z
  ·exact absurd (Nat.lt_of_lt_of_le (Heap.lt_size e) z) (Nat.lt_irrefl _)
 have cellK:∀ x c,X.env.cells.lookup x=some c->∀ v,s.heap.IsCell c v->h'.IsCell c v:=fun x c e v ⟨o,ho,hd⟩=>by
  have nch:c∉ch:=fun z=>(hch c z).2.2.1 x c e rfl
  by_cases hc:c∈X.fs
  ·obtain ⟨sl,q⟩:=slot c o (I.cne x c e) hc nch ho (I.freeC x c e)
   exact ⟨_,q,hd⟩
  ·exact ⟨o,keep c o (I.cne x c e) hc nch ho (I.freeC x c e),hd⟩
 refine ⟨I.ok,I.os,hg,⟨fun b o e n hb hx=>?_,fun b o e n hb hx=>?_,fun b o e n hx=>?_,fun b o e hx=>?_,fun b xs e=>tups b xs (I.base.tups b xs e),fun b o xs e=>frzs b o xs (I.base.frzs b o xs e),fun b ps e=>?_⟩,?_,fun x c e=>?_,?_,fun x c e=>?_,fun p hp=>?_,hok,I.len,ht⟩
 ·exact keep b o (neL b o e) hb (neC b o e hx) (I.base.keep b o e n hb hx) (I.base.free b o e n hx)
 ·obtain ⟨sl,e1⟩:=I.base.slot b o e n hb hx
  obtain ⟨sl',e2⟩:=slot b _ (neL b o e) hb (neC b o e hx) e1 (I.base.free b o e n hx)
  exact ⟨sl',e2⟩
 ·obtain ⟨o',e1⟩:=I.base.there b o e hx
  exact free b o' (neC b o e hx) e1 (I.base.free b o e n hx)
 ·obtain ⟨o',e1⟩:=I.base.there b o e hx
  exact there b o' (neC b o e hx) e1
 ·obtain ⟨m1,e1⟩:=I.base.tbls b ps e
  obtain ⟨m2,e2⟩:=tbls b _ e1
  exact ⟨m1++m2,by rw[e2,Array.append_assoc]⟩
 ·obtain ⟨m,hn,hl⟩:=I.loc
  refine ⟨m,ns m hn,fun i x v e1 e2 e3=>?_⟩
  obtain ⟨u,r,l⟩:=hl i x v e1 e2 e3
  refine ⟨u,r,?_⟩
  rcases l with l |⟨k,c,e,z⟩
  ·exact .inl l
  ·exact .inr ⟨k,c,e,cellK x c e _ z⟩
 ·obtain ⟨v,z⟩:=I.cell x c e
  exact ⟨v,cellK x c e v z⟩
 ·obtain ⟨m,⟨o,_,_,ho,_⟩,_⟩:=I.loc
  exact free _ o (fun z=>(hch _ z).2.1 rfl) ho I.free
 ·obtain ⟨v,o,ho,hd⟩:=I.cell x c e
  exact free c o (fun z=>(hch c z).2.2.1 x c e rfl) ho (I.freeC x c e)
 ·obtain ⟨e,n,ne,nf,d⟩:=I.pin p hp
  have nch:p.1∉ch:=fun z=>(hch p.1 z).2.2.2 p hp rfl
  exact ⟨keep p.1 p.2 ne nf nch e n,free p.1 p.2 nch e n,ne,nf,d⟩
theorem Inv.un {t':Nat} (I:Inv X pins σ H s) (u:Un X.fs [] H H' s.heap h') (hok:HOk X.prog X.w H' h') (ht:0 < t':=by first |assumption |exact Nat.succ_pos _ |(apply Inv.tk;assumption)):Inv X pins σ H' { s with heap:=h',toks:=t' }:=by
 obtain ⟨m,⟨o,es,ep,ho,r⟩,_⟩:=id I.loc
 obtain ⟨sl,hL⟩:=u.any ho I.free (by simp)
 exact I.step (g' := s.gens) (d' := s.drawn) (ch := []) (fun _ z => nomatch z) (fun b o _ hb _ e n => u.keep b o e n hb (by simp)) (fun b o _ hb _ e n => u.slot b o e n hb (by simp)) (fun b o _ e n => u.free b o e n (by simp)) (fun b o _ e => u.there b o e (by simp)) u.tups u.frzs u.tbls (fun m' hm=>by
  obtain ⟨o',es',ep',ho',r'⟩:=hm
  rw[ho] at ho';cases ho'
  exact ⟨_,es',ep',hL,r'⟩) hok I.bare
theorem Inv.call {g':Array GenState} {t':Nat} {d':Drawn} {ch:List Addr} (I:Inv X pins σ H s) (u:Un (frs X.stack) ch H H' s.heap h') (hok:HOk X.prog X.w H' h') (hg:AllBare g')
  (hch:∀ b∈ch,(b∈X.ex ∨ X.s₀.heap.objs.size<=b)/\b≠X.env.locals/\(∀ x c,X.env.cells.lookup x=some c->c≠b)/\∀ p∈X.pn++pins,p.1≠b) (ht:0 < t':=by first |assumption |exact Nat.succ_pos _ |(apply Inv.tk;assumption)):
  Inv X pins σ H' { s with heap:=h',gens:=g',drawn:=d',toks:=t' }:=by
 obtain ⟨m,⟨o,es,ep,ho,r⟩,_⟩:=id I.loc
 obtain ⟨sl,hL⟩:=u.any ho I.free fun z=>(hch _ z).2.1 rfl
 exact I.step (ch := ch) hch (fun b o hL hb hc e n => u.keep b o e n (fun z => (List.mem_cons.mp (I.stkSub b z)).elim hL hb) hc) (fun b o _ _ hc e n => u.any e n hc) (fun b o hc e n => u.free b o e n hc) (fun b o hc e => u.there b o e hc) u.tups u.frzs u.tbls (fun m' hm=>by
  obtain ⟨o',es',ep',ho',r'⟩:=hm
  rw[ho] at ho';cases ho'
  exact ⟨_,es',ep',hL,r'⟩) hok hg
theorem Inv.turned {t':Nat} {it:Addr} (I:Inv X pins σ H s) (k:∀ b o,b≠it->s.heap.get? b=some o->h'.get? b=some o) (hn:H it=none) (hL:it≠X.env.locals)
  (h1:it∈X.ex ∨ X.s₀.heap.objs.size<=it) (h2:∀ x c,X.env.cells.lookup x=some c->c≠it) (h3:∀ p∈X.pn++pins,p.1≠it) (ht:0 < t':=by first |assumption |exact Nat.succ_pos _ |(apply Inv.tk;assumption)):Inv X pins σ H { s with heap:=h',toks:=t' }:=by
 have nit:∀ b u,H b=some u->b≠it:=fun b u e z=>by rw[z,hn] at e;cases e
 refine I.step (g':=s.gens) (d':=s.drawn) (ch:=[it]) (fun b hb=>?_) (fun b o _ _ hc e _=>k b o (fun z=>hc (by simp[z])) e) (fun b o _ _ hc e _=>⟨o.slots,k b o (fun z=>hc (by simp[z])) e⟩) (fun _ _ _ _ n=>n)
  (fun b o hc e=>⟨o,k b o (fun z=>hc (by simp[z])) e⟩) (fun _ _ e=>e) (fun _ _ _ e=>e) (fun b ps e=>⟨#[],by rw[e];simp⟩) (fun m hm=>?_) (fun b u e=>?_) I.bare
 ·have e:b=it:=by simpa using hb
  subst e
  exact ⟨h1,hL,h2,h3⟩
 ·obtain ⟨o,es,ep,ho,r⟩:=hm
  exact ⟨o,es,ep,k _ o (Ne.symm hL) ho,r⟩
 ·refine (I.hok b u e).stay (fun c v hc q=>k c v ?_ q) (fun _ q=>q) fun _ _ q=>q
  rcases hc with z |z
  ·rw[z];exact nit b u e
  ·exact nit c _ z
theorem Inv.tok (I:Inv X pins σ H s) (t:Nat) (ht:0 < t:=by first |assumption |exact Nat.succ_pos _ |(apply Inv.tk;assumption)):Inv X pins σ H { s with toks:=t }:=I.un (h':=s.heap) (t':=t) Un.refl I.hok
theorem Inv.kept {t':Nat} (I:Inv X pins σ H s) (k:∀ b u,s.heap.get? b=some u->h'.get? b=some u) (ht:0 < t':=by first |assumption |exact Nat.succ_pos _ |(apply Inv.tk;assumption)):Inv X pins σ H { s with heap:=h',toks:=t' }:=I.un (Un.kept k) (I.hok.kept k)
theorem Inv.laid {a:Addr} {o:HO} {t':Nat} (I:Inv X pins σ H s) (k:∀ b u,s.heap.get? b=some u->h'.get? b=some u) (hp:s.heap.objs.size<=a) (new:ObjOk X.prog X.w (upd H a o) h' a o) (ht:0 < t':=by first |assumption |exact Nat.succ_pos _ |(apply Inv.tk;assumption)):
  Inv X pins σ (upd H a o) { s with heap:=h',toks:=t' }:=I.un (Un.laid k hp (I.hok.fresh hp)) (I.hok.laid k hp new)
theorem Inv.write {x e:Addr} {o:HO} {t':Nat} (I:Inv X pins σ H s) (mu:Mut (H x)) (he:e=x ∨ H e=some (.own x)) (k:∀ b u,b≠e->s.heap.get? b=some u->h'.get? b=some u) (heo:∃ u,h'.get? e=some u)
  (new:ObjOk X.prog X.w (upd H x o) h' x o) (ht:0 < t':=by first |assumption |exact Nat.succ_pos _ |(apply Inv.tk;assumption)):Inv X pins σ (upd H x o) { s with heap:=h',toks:=t' }:=I.un (Un.write mu he k heo) (I.hok.write mu he k heo new)
theorem Inv.weak {σ':List (Option V)} (I:Inv X pins σ H s) (hl:σ'.length=σ.length) (w:∀ (i:Nat) v,σ'[i]? = some (some v)->σ[i]? = some (some v)):Inv X pins σ' H s:=
 ⟨I.ok,I.os,I.bare,I.base,let ⟨m,hn,hl'⟩:=I.loc;⟨m,hn,fun i x v e1 e2 e3=>hl' i x v e1 (w i v e2) e3⟩,I.cell,I.free,I.freeC,I.pin,I.hok,hl.trans I.len,I.tk⟩
theorem Inv.pins_of {pins':List (Addr×Obj)} (I:Inv X pins σ H s) (h:∀ p∈pins',s.heap.get? p.1=some p.2/\H p.1=none/\p.1≠X.env.locals/\p.1∉X.fs/\∀ v,p.2.data ≠ .cell v):Inv X pins' σ H s:=
 ⟨I.ok,I.os,I.bare,I.base,I.loc,I.cell,I.free,I.freeC,fun p hp=>(List.mem_append.mp hp).elim (fun z=>I.pin p (List.mem_append_left _ z)) (h p),I.hok,I.len,I.tk⟩
theorem nodup_ix {N:List Str} (hN:N.Nodup) {i j:Nat} {x:Str} (a:N[i]? = some x) (b:N[j]? = some x):i=j:=by
 obtain ⟨h1,e1⟩:=List.getElem?_eq_some_iff.mp a
 obtain ⟨h2,e2⟩:=List.getElem?_eq_some_iff.mp b
 exact (List.getElem_inj hN).mp (e1.trans e2.symm)
theorem store_ok2 {M:Model} {A:Around} {E:Value->Shared->Prop} {i:Nat} {x:Str} {v:V} {u:Value} {Q:Unit->Shared->Prop} (I:Inv X pins σ H s) (hN:X.N.Nodup) (hi:X.N[i]? = some x) (hx:Loc X.env.scope x) (r:RelV v u)
  (h:∀ s',Inv X pins (σ.set i (some v)) H s'->(∃ a,Heap.SameBut a s.heap s'.heap/\(a=X.env.locals ∨ X.env.cells.lookup x=some a))->Q () s') (hf:X.fn x=true ∨ X.env.scope.names.lookup x=some .local:=by first |exact .inl rfl |exact .inr rfl |assumption):wpAny M A (storeName X.env x u) Q E s:=by
 obtain ⟨m,hn,hl⟩:=id I.loc
 have hcls:(X.env.scope.kind == .class||(X.env.scope.kind == .module&&X.env.locals != X.env.globals))=false:=by rw[I.ok.kind];rfl
 have hiσ:i < σ.length:=by rw[I.len];exact (List.getElem?_eq_some_iff.mp hi).1
 have cne:=I.cne
 have tracked:∀ {a:Addr} {h':Heap},(∃ o,s.heap.get? a=some o/\H a=none)->Heap.SameBut a s.heap h'->HOk X.prog X.w H h':=fun {a h'} ha hs b ob e=>by
  obtain ⟨_,_,hfree⟩:=ha
  refine (I.hok b ob e).stay (fun c w' hc q=>(hs.2 c ?_).trans q) (fun _ q=>q) fun _ _ q=>q
  rintro rfl
  rcases hc with rfl |hc
  ·rw[hfree] at e;cases e
  ·rw[hfree] at hc;cases hc
 rcases hx with hk |hk
 ·refine wpAny_storeName_local hk hn (fun h' hn' hs=>?_) hcls
  obtain ⟨oL,_,_,hoL,_⟩:=id hn
  refine h _ ⟨I.ok,I.os,I.bare,⟨fun b o e n hb hx=>?_,fun b o e n hb hx=>?_,I.base.free,fun b o e hx=>?_,I.base.tups,I.base.frzs,I.base.tbls⟩,⟨_,hn',fun j y v' e1 e2 e3=>?_⟩,fun y c e=>?_,I.free,I.freeC,fun p hp=>?_,tracked ⟨oL,hoL,I.free⟩ hs,by simpa using I.len,by first |exact I.tk |exact Nat.succ_pos _⟩ ⟨_,hs, .inl rfl⟩
  ·exact (hs.2 b (Nat.ne_of_lt (Nat.lt_of_lt_of_le (Heap.lt_size e) I.ok.above))).trans (I.base.keep b o e n hb hx)
  ·obtain ⟨sl,e1⟩:=I.base.slot b o e n hb hx
   exact ⟨sl,(hs.2 b (Nat.ne_of_lt (Nat.lt_of_lt_of_le (Heap.lt_size e) I.ok.above))).trans e1⟩
  ·obtain ⟨o',e1⟩:=I.base.there b o e hx
   exact ⟨o',(hs.2 b (Nat.ne_of_lt (Nat.lt_of_lt_of_le (Heap.lt_size e) I.ok.above))).trans e1⟩
  ·by_cases hj:j=i
   ·subst hj
    rw[hi] at e1;cases e1
    rw[List.getElem?_set_self hiσ] at e2
    cases e2
    exact ⟨u,r, .inl ⟨hk,by simp⟩⟩
   ·rw[List.getElem?_set_ne (Ne.symm hj)] at e2
    obtain ⟨u',r',q⟩:=hl j y v' e1 e2 e3
    refine ⟨u',r',?_⟩
    rcases q with ⟨k,e⟩ |⟨k,c,e,z⟩
    ·refine .inl ⟨k,?_⟩
     have:y≠x:=fun e=>hj (nodup_ix hN e1 (e▸hi))
     simp[this,e]
    ·exact .inr ⟨k,c,e,z.sameBut hs (cne y c e)⟩
  ·obtain ⟨w',z⟩:=I.cell y c e
   exact ⟨w',z.sameBut hs (cne y c e)⟩
  ·obtain ⟨e,n,ne,nf,d⟩:=I.pin p hp
   exact ⟨(hs.2 p.1 ne).trans e,n,ne,nf,d⟩
 ·have hfn:X.fn x=true:=by
   rcases hf with z |z
   ·exact z
   ·rw[z] at hk;cases hk
  obtain ⟨c,hc⟩:=I.ok.has x (.inl hk)
  obtain ⟨w',z⟩:=I.cell x c hc
  refine wpAny_storeName_cell I.ok.kind hk hc z (fun h' hc' hs=>?_)
  obtain ⟨oc,hoc,hocd⟩:=id z
  refine h { s with heap:=h' } ⟨I.ok,I.os,I.bare,⟨fun b o e n hb hx=>?_,fun b o e n hb hx=>?_,I.base.free,fun b o e hx=>?_,I.base.tups,I.base.frzs,I.base.tbls⟩,⟨m,hn.sameBut hs (Ne.symm (cne x c hc)),fun j y v' e1 e2 e3=>?_⟩,fun y c' e=>?_,I.free,I.freeC,fun p hp=>?_,tracked ⟨oc,hoc,I.freeC x c hc⟩ hs,by simpa using I.len,by first |exact I.tk |exact Nat.succ_pos _⟩ ⟨c,hs, .inr hc⟩
  ·exact (hs.2 b (Nat.ne_of_lt (Nat.lt_of_lt_of_le (Heap.lt_size e) (I.ok.cab x c hfn hc)))).trans (I.base.keep b o e n hb hx)
  ·obtain ⟨sl,e1⟩:=I.base.slot b o e n hb hx
   exact ⟨sl,(hs.2 b (Nat.ne_of_lt (Nat.lt_of_lt_of_le (Heap.lt_size e) (I.ok.cab x c hfn hc)))).trans e1⟩
  ·obtain ⟨o',e1⟩:=I.base.there b o e hx
   exact ⟨o',(hs.2 b (Nat.ne_of_lt (Nat.lt_of_lt_of_le (Heap.lt_size e) (I.ok.cab x c hfn hc)))).trans e1⟩
  ·by_cases hj:j=i
   ·subst hj
    rw[hi] at e1;cases e1
    rw[List.getElem?_set_self hiσ] at e2
    cases e2
    exact ⟨u,r, .inr ⟨.inl hk,c,hc,hc'⟩⟩
   ·rw[List.getElem?_set_ne (Ne.symm hj)] at e2
    obtain ⟨u',r',q⟩:=hl j y v' e1 e2 e3
    refine ⟨u',r',?_⟩
    rcases q with q |⟨k,c',e,z'⟩
    ·exact .inl q
    ·refine .inr ⟨k,c',e,z'.sameBut hs ?_⟩
     rintro rfl
     exact hj (nodup_ix hN e1 (I.ok.inj _ _ _ e hc▸hi))
  ·by_cases hcc:c'=c
   ·subst hcc;exact ⟨_,hc'⟩
   ·obtain ⟨w2,z2⟩:=I.cell y c' e
    exact ⟨w2,z2.sameBut hs hcc⟩
  ·obtain ⟨e,n,ne,nf,d⟩:=I.pin p hp
   refine ⟨(hs.2 p.1 ?_).trans e,n,ne,nf,d⟩
   intro q
   rw[q,hoc] at e
   have q':oc=p.2:=Option.some.inj e
   exact d w' (by rw[<- q'];exact hocd)
theorem store_ok {M:Model} {A:Around} {E:Value->Shared->Prop} {i:Nat} {x:Str} {v:V} {u:Value} {Q:Unit->Shared->Prop} (I:Inv X pins σ H s) (hN:X.N.Nodup) (hi:X.N[i]? = some x) (hx:Loc X.env.scope x) (r:RelV v u)
  (h:∀ s',Inv X pins (σ.set i (some v)) H s'->Q () s') (hf:X.fn x=true ∨ X.env.scope.names.lookup x=some .local:=by first |exact .inl rfl |exact .inr rfl |assumption):wpAny M A (storeName X.env x u) Q E s:=
 store_ok2 I hN hi hx r (fun s' I' _=>h s' I') hf
theorem Inv.call' {s':Shared} {ch:List Addr} (I:Inv X pins σ H s) (ho:s'.os=s.os) (u:Un (frs X.stack) ch H H' s.heap s'.heap) (hok:HOk X.prog X.w H' s'.heap) (hg:AllBare s'.gens)
  (hch:∀ b∈ch,(b∈X.ex ∨ X.s₀.heap.objs.size<=b)/\b≠X.env.locals/\(∀ x c,X.env.cells.lookup x=some c->c≠b)/\∀ p∈X.pn++pins,p.1≠b) (ht:0 < s'.toks):Inv X pins σ H' s':=by
 obtain ⟨h',g',d',t',o'⟩:=s'
 have e:o'=s.os:=ho
 subst e
 exact I.call (g':=g') (t':=t') (d':=d') u hok hg hch ht
end
abbrev XK:=Value->Option Addr->Hp->Prop
abbrev St:=List (Option V)
abbrev VK:=V->Hp->Prop
abbrev TE:=St->Hp->VK->Prop
abbrev TT:=St->Hp->(Bool->Hp->Prop)->Prop
abbrev TA:=St->Hp->(List V->Hp->Prop)->Prop
structure Ends where
 nx:St->Hp->Prop
 rt:VK
 bk:St->Hp->Prop:=fun _ _=>False
 ct:St->Hp->Prop:=fun _ _=>False
abbrev TS:=Ends->St->Hp->Prop
def EP (X:Cx) (pins:List (Addr×Obj)) (σ:St) (Q:VK) (u:Value) (s':Shared):Prop:=∃ v H',Inv X pins σ H' s'/\RelV v u/\Q v H'
def TP (X:Cx) (pins:List (Addr×Obj)) (σ:St) (Q:Bool->Hp->Prop) (b:Bool) (s':Shared):Prop:=∃ H',Inv X pins σ H' s'/\Q b H'
def AP (X:Cx) (pins:List (Addr×Obj)) (σ:St) (Q:List V->Hp->Prop) (us:List Value) (s':Shared):Prop:=∃ vs H',Inv X pins σ H' s'/\Vals vs us/\Q vs H'
def SP (X:Cx) (pins:List (Addr×Obj)) (D:Ends) (f:Flow) (s':Shared):Prop:=
 match f with
 | .next=>∃ σ' H',Inv X pins σ' H' s'/\D.nx σ' H'
 | .brk=>∃ σ' H',Inv X pins σ' H' s'/\D.bk σ' H'
 | .cont=>∃ σ' H',Inv X pins σ' H' s'/\D.ct σ' H'
 | .ret u=>∃ v σ' H',Inv X pins σ' H' s'/\RelV v u/\D.rt v H'
def PE (X:Cx) (e:Expr) (t:TE):Prop:=
 ∀ (pins:List (Addr×Obj)) (s:Shared) (σ:St) (H:Hp) (Q:VK),Inv X pins σ H s->t σ H Q->wpAny (model X.prog X.w) X.A (eval e X.env) (EP X pins σ Q) X.xe s
def PT (X:Cx) (e:Expr) (t:TT):Prop:=
 ∀ (pins:List (Addr×Obj)) (s:Shared) (σ:St) (H:Hp) (Q:Bool->Hp->Prop),Inv X pins σ H s->t σ H Q->wpAny (model X.prog X.w) X.A (isTrue e X.env (eval e X.env)) (TP X pins σ Q) X.xe s
def PW (X:Cx) (e:Expr) (t:TT):Prop:=
 ∀ (whole:Sem Value) (pins:List (Addr×Obj)) (s:Shared) (σ:St) (H:Hp) (Q:Bool->Hp->Prop),Inv X pins σ H s->t σ H Q->wpAny (model X.prog X.w) X.A (isTrue e X.env whole) (TP X pins σ Q) X.xe s
theorem PW.pt {X:Cx} {e:Expr} {t:TT} (h:PW X e t):PT X e t:=h _
def PA (X:Cx) (es:List Expr) (t:TA):Prop:=
 ∀ (pos:Pos) (pins:List (Addr×Obj)) (s:Shared) (σ:St) (H:Hp) (Q:List V->Hp->Prop),Inv X pins σ H s->t σ H Q->wpAny (model X.prog X.w) X.A (spliced (backTo pos (starEach es X.env))) (AP X pins σ Q) X.xe s
def PS (X:Cx) (st:Stmt) (t:TS):Prop:=
 ∀ (pins:List (Addr×Obj)) (s:Shared) (σ:St) (H:Hp) (D:Ends),Inv X pins σ H s->t D σ H->wpAny (model X.prog X.w) X.A (exec st X.env) (SP X pins D) X.xe s
def PSs (X:Cx) (st:List Stmt) (t:TS):Prop:=
 ∀ (pins:List (Addr×Obj)) (s:Shared) (σ:St) (H:Hp) (D:Ends),Inv X pins σ H s->t D σ H->wpAny (model X.prog X.w) X.A (execs st X.env) (SP X pins D) X.xe s
theorem thn {α:Type} {t:Sem α} {Q Q':α->Shared->Prop} {M:Model} {A:Around} {E:Value->Shared->Prop} {s:Shared} (h:wpAny M A t Q E s) (hQ:∀ a s,Q a s->Q' a s):wpAny M A t Q' E s:=wpAny_mono h hQ fun _ _ x=>x
end L2
namespace L2
open PySem PySem.Spec PyProof.Rows
section
variable {X:Cx}
def tVar (i:Nat):TE:=fun σ H Q=>∃ v,σ[i]? = some (some v)/\Q v H
def tC (v:V):TE:=fun _ H Q=>Q v H
theorem pe_var {i:Nat} {x:Str} {pos:Pos} (hN:X.N[i]? = some x) (hv:Vis X.env.scope x) (hd:(x==("__debug__":Str))=false:=by decide) (hcd:(x==("__classdict__":Str))=false:=by decide):PE X (.Name x pos) (tVar i):=by
 intro pins s σ H Q I h
 obtain ⟨v,e,h⟩:=h
 obtain ⟨m,hn,hl⟩:=I.loc
 obtain ⟨u,r,l⟩:=hl i x v hN e hv
 have fin:EP X pins σ Q u s:=⟨v,H,I,r,h⟩
 rcases l with ⟨hk,hm⟩ |⟨hk,c,hc,hcell⟩
 ·exact wpAny_Name (wpAny_loadName_local I.ok.kind hk hn hm fin) hd
 ·rcases hk with hk |hk
  ·exact wpAny_Name (wpAny_loadName_cell I.ok.kind hk hc hcell fin) hd
  ·exact wpAny_Name (wpAny_loadName_free I.ok.kind hk hc hcell fin hcd) hd
theorem pe_int {i j pos}:PE X (.Constant (.int i) j pos) (tC (.int i)):=fun _ _ _ H _ I h=>wpAny_Constant_int ⟨.int i,H,I.tok _,⟨_,rfl⟩,h⟩
theorem pe_bl {b j pos}:PE X (.Constant (.bool b) j pos) (tC (.bl b)):=fun _ _ _ H _ I h=>Constant_bool ⟨.bl b,H,I,rfl,h⟩
theorem pe_non {j pos}:PE X (.Constant .none j pos) (tC .non):=fun _ _ _ H _ I h=>Constant_none ⟨.non,H,I,rfl,h⟩
theorem pe_str {x j pos}:PE X (.Constant (.str x) j pos) (tC (.str x)):=fun _ _ _ H _ I h=>Calls.Constant_str ⟨.str x,H,I.tok _,⟨_,rfl⟩,h⟩
def Gl (X:Cx) (x:Str):Prop:=X.env.kindOf x=some .globalImplicit
theorem ld_glob {E:Value->Shared->Prop} {pins:List (Addr×Obj)} {s:Shared} {σ:St} {H:Hp} {x:Str} {u:Value} {pos:Pos} {Q:Value->Shared->Prop} (I:Inv X pins σ H s) (hg:Gl X x) (hm:X.mg x=some u) (h:Q u s)
  (hd:(x==("__debug__":Str))=false:=by decide):wpAny (model X.prog X.w) X.A (eval (.Name x pos) X.env) Q E s:=
 Calls.Name_function_global I.ok.kind hg (Calls.loadGlobal_global (by rw[I.ok.glob];exact I.mod.glob.keeps I.bk) hm h) hd
theorem ld_blt {E:Value->Shared->Prop} {pins:List (Addr×Obj)} {s:Shared} {σ:St} {H:Hp} {x:Str} {u:Value} {pos:Pos} {Q:Value->Shared->Prop} (I:Inv X pins σ H s) (hg:Gl X x) (hm:X.mg x=none) (hv:bootBuiltins x=some u) (h:Q u s)
  (hn:x≠"__name__":=by decide) (hd:(x==("__debug__":Str))=false:=by decide):wpAny (model X.prog X.w) X.A (eval (.Name x pos) X.env) Q E s:=by
 obtain ⟨mb,h1,h2⟩:=I.mod.blt
 exact Calls.Name_function_global I.ok.kind hg (Calls.loadGlobal_builtin (by rw[I.ok.glob];exact I.mod.glob.keeps I.bk) hm (by rw[I.ok.blt];exact h1.keeps I.bk) ((h2 x hn).trans hv) h) hd
theorem pe_glob {x:Str} {v:V} {u:Value} {pos:Pos} (hg:Gl X x) (hm:X.mg x=some u) (r:RelV v u) (hd:(x==("__debug__":Str))=false:=by decide):PE X (.Name x pos) (tC v):=
 fun _ _ _ H _ I h=>ld_glob I hg hm ⟨v,H,I,r,h⟩ hd
theorem pe_bltn {x:Str} {v:V} {u:Value} {pos:Pos} (hg:Gl X x) (hm:X.mg x=none) (hv:bootBuiltins x=some u) (r:RelV v u) (hn:x≠"__name__":=by decide) (hd:(x==("__debug__":Str))=false:=by decide):PE X (.Name x pos) (tC v):=
 fun _ _ _ H _ I h=>ld_blt I hg hm hv ⟨v,H,I,r,h⟩ hn hd
variable {a b:Expr} {ta tb:TE} {pos:Pos}
def tB (t:TE):TT:=fun σ H Q=>t σ H fun x H1=>∃ c,x = .bl c/\Q c H1
theorem pt_val {e:Expr} {t:TE} (h:PE X e t) (he:∀ whole,isTrue e X.env whole=(do let v ← whole;standAt e.pos;holding [v] (truthy v)):=by intro _;rfl):PT X e (tB t):=by
 intro pins s σ H Q I hw
 refine isTrue_plain (thn (h pins s σ H _ I hw) fun v s1 ⟨x,H1,I1,r1,q1⟩=>?_) (he _)
 obtain ⟨d,rfl,q⟩:=q1
 cases r1
 exact wpAny_truthy_bool ⟨H1,I1,q⟩
variable {tA tB':TT} {rest:List Expr}
def tAnd (t u:TT):TT:=fun σ H Q=>t σ H fun c H1=>if c=true then u σ H1 Q else Q false H1
def tOr (t u:TT):TT:=fun σ H Q=>t σ H fun c H1=>if c=true then Q true H1 else u σ H1 Q
def tNot (t:TT):TT:=fun σ H Q=>t σ H fun c H1=>Q (!c) H1
theorem pw_and1 (ha:PT X a tA):PW X (.BoolOp .And [a] pos) tA:=by
 intro wh pins s σ H Q I h
 refine isTrue_and (thn (ha pins s σ H Q I h) fun c s1 e=>?_)
 cases c with
 |true=>exact isTrue_and_nil e
 |false=>exact e
theorem pw_or1 (ha:PT X a tA):PW X (.BoolOp .Or [a] pos) tA:=by
 intro wh pins s σ H Q I h
 refine isTrue_or (thn (ha pins s σ H Q I h) fun c s1 e=>?_)
 cases c with
 |false=>exact isTrue_or_nil e
 |true=>exact e
theorem pw_and (ha:PT X a tA) (hb:PW X (.BoolOp .And (b::rest) pos) tB'):PW X (.BoolOp .And (a::b::rest) pos) (tAnd tA tB'):=by
 intro wh pins s σ H Q I h
 refine isTrue_and (thn (ha pins s σ H _ I h) fun c s1 ⟨H1,I1,q1⟩=>?_)
 cases c with
 |true=>exact hb wh pins s1 σ H1 Q I1 q1
 |false=>exact ⟨H1,I1,q1⟩
theorem pw_or (ha:PT X a tA) (hb:PW X (.BoolOp .Or (b::rest) pos) tB'):PW X (.BoolOp .Or (a::b::rest) pos) (tOr tA tB'):=by
 intro wh pins s σ H Q I h
 refine isTrue_or (thn (ha pins s σ H _ I h) fun c s1 ⟨H1,I1,q1⟩=>?_)
 cases c with
 |true=>exact ⟨H1,I1,q1⟩
 |false=>exact hb wh pins s1 σ H1 Q I1 q1
theorem pt_not (ha:PT X a tA):PT X (.UnaryOp .Not a pos) (tNot tA):=by
 intro pins s σ H Q I h
 exact isTrue_not (ha pins s σ H (fun c H1=>Q (!c) H1) I h)
def tAndV (ta tb:TE):TE:=fun σ H Q=>ta σ H fun x H1=>∃ c,x = .bl c/\if c=true then tb σ H1 Q else Q (.bl false) H1
theorem pe_one {op} {t:TE} (h:PE X a t):PE X (.BoolOp op [a] pos) t:=fun pins s σ H Q I hw=>BoolOp_one (h pins s σ H Q I hw)
theorem pe_and (ha:PE X a ta) (hb:PE X (.BoolOp .And (b::rest) pos) tb):PE X (.BoolOp .And (a::b::rest) pos) (tAndV ta tb):=by
 intro pins s σ H Q I h
 refine BoolOp_and (thn (ha pins s σ H _ I h) fun v s1 ⟨x,H1,I1,r1,q1⟩=>?_)
 obtain ⟨c,rfl,q1⟩:=q1
 cases r1
 refine wpAny_truthy_bool ?_
 cases c with
 |true=>exact hb pins s1 σ H1 Q I1 q1
 |false=>exact ⟨.bl false,H1,I1,rfl,q1⟩
def tIf (t:TT) (ta tb:TE):TE:=fun σ H Q=>t σ H fun c H1=>if c=true then ta σ H1 Q else tb σ H1 Q
theorem pe_ifExp {c:Expr} (hc:PT X c tA) (ha:PE X a ta) (hb:PE X b tb):PE X (.IfExp c a b pos) (tIf tA ta tb):=by
 intro pins s σ H Q I h
 refine wpAny_IfExp (thn (hc pins s σ H _ I h) fun d s1 ⟨H1,I1,q1⟩=>?_)
 cases d with
 |true=>exact ha pins s1 σ H1 Q I1 q1
 |false=>exact hb pins s1 σ H1 Q I1 q1
end
end L2
namespace L2
open PySem PySem.Spec PyProof.Rows
def SqL (K:PySem.W.Frag) (H:Hp) (a:Addr) (xs:List V):Prop:=
 Rd H a (.lst xs) ∨
  ∃ (o:Obj) (its:Array Value) (n:Nat),K.lookup a=some o/\o.cls = .type "list"/\o.dict=none/\o.data = .seq its n/\its.size<=sizeLine/\Vals xs its.toList
def SqT (K:PySem.W.Frag) (H:Hp) (a:Addr) (xs:List V):Prop:=
 Rd H a (.tup xs) ∨
  ∃ (o:Obj) (its:Array Value) (n:Nat),K.lookup a=some o/\o.cls = .type "tuple"/\o.data = .seq its n/\its.size<=sizeLine/\Vals xs its.toList
def absV:Value->Option V
 | .none=>some .non
 | .bool b=>some (.bl b)
 | .int i _=>some (.int i)
 | .str x _=>some (.str x)
 | .bytes b _=>some (.byt b)
 | .float b _=>some (.flt b)
 | .ref a=>some (.ref a)
 | .type n=>some (.ty n)
 |_=>none
theorem RelV.abs {x:V} {u:Value} (r:RelV x u):absV u=some x:=by
 cases x with
 |non=>cases r;rfl
 |bl _=>cases r;rfl
 |int _=>obtain ⟨t,rfl⟩:=r;rfl
 |str _=>obtain ⟨t,rfl⟩:=r;rfl
 |byt _=>obtain ⟨t,rfl⟩:=r;rfl
 |flt _=>obtain ⟨t,rfl⟩:=r;rfl
 |ref _=>cases r;rfl
 |ty _=>cases r;rfl
theorem RelV.inj {x y:V} {u:Value} (r:RelV x u) (q:RelV y u):x=y:=Option.some.inj (r.abs.symm.trans q.abs)
theorem Vals.inj:∀ {xs ys:List V} {us:List Value},Vals xs us->Vals ys us->xs=ys
 |_,_,_, .nil, .nil=>rfl
 |_,_,_, .cons r t, .cons r' t'=>by rw[r.inj r',Vals.inj t t']
section
variable {X:Cx} {pins:List (Addr×Obj)} {σ:St} {H:Hp} {s:Shared} {a:Addr} {xs ys:List V}
theorem SqL.of {K:PySem.W.Frag} (h:H a=some (.lst xs)):SqL K H a xs := .inl (.inl h)
theorem SqT.of {K:PySem.W.Frag} (h:H a=some (.tup xs)):SqT K H a xs := .inl (.inl h)
theorem Inv.list (I:Inv X pins σ H s) (h:SqL X.K H a xs):∃ its:List Value,Vals xs its/\PlainL s.heap a its.toArray/\xs.length<=sizeLine:=by
 rcases h with h |⟨o,its,n,hk,hc,hd,hs,hz,r⟩
 ·obtain ⟨z,its,n,r,e⟩:=h.ok I.hok
  exact ⟨its,r,⟨_,n,e,rfl,rfl,rfl⟩,z⟩
 ·refine ⟨its.toList,r,⟨o,n,I.kIn a o hk,hc,hd,by simpa using hs⟩,?_⟩
  have e:=r.length
  simp only[Array.length_toList] at e
  omega
theorem Inv.tuple (I:Inv X pins σ H s) (h:SqT X.K H a xs):∃ its:List Value,Vals xs its/\IsTup s.heap a its.toArray/\xs.length<=sizeLine:=by
 rcases h with h |⟨o,its,n,hk,hc,hs,hz,r⟩
 ·obtain ⟨z,its,r,p⟩:=h.ok I.hok
  exact ⟨its,r,p,z⟩
 ·refine ⟨its.toList,r,⟨o,I.kIn a o hk,hc,n,by simpa using hs⟩,?_⟩
  have e:=r.length
  simp only[Array.length_toList] at e
  omega
theorem Inv.list_inj (I:Inv X pins σ H s) (h:SqL X.K H a xs) (h':SqL X.K H a ys):xs=ys:=by
 obtain ⟨its,r,⟨o,n,e,_,_,d⟩,_⟩:=I.list h
 obtain ⟨its',r',⟨o',n',e',_,_,d'⟩,_⟩:=I.list h'
 rw[e] at e';cases e'
 rw[d] at d'
 injection d' with d1 _
 have:its=its':=by simpa using congrArg Array.toList d1
 subst this
 exact r.inj r'
end
abbrev Cx.wish (X:Cx) (E:Value->Shared->Prop):Cx:={ X with xe:=E }
abbrev Cx.nox (X:Cx):Cx:=X.wish fun _ _=>False
theorem Cx.Ok.wish {X:Cx} (ok:X.Ok) (E:Value->Shared->Prop):(X.wish E).Ok:=
 ⟨ok.mod,ok.kind,ok.glob,ok.blt,ok.above,ok.inj,ok.has,ok.cab,ok.hd,ok.frames,ok.stk,ok.exf,ok.bs,ok.bsz,ok.noex,ok.exfs,ok.funs,ok.frf⟩
theorem Cx.Ok.unwish {X:Cx} {E:Value->Shared->Prop} (ok:(X.wish E).Ok):X.Ok:=
 ⟨ok.mod,ok.kind,ok.glob,ok.blt,ok.above,ok.inj,ok.has,ok.cab,ok.hd,ok.frames,ok.stk,ok.exf,ok.bs,ok.bsz,ok.noex,ok.exfs,ok.funs,ok.frf⟩
section
variable {X:Cx} {pins:List (Addr×Obj)} {σ:St} {H:Hp} {s:Shared} {E:Value->Shared->Prop}
theorem Inv.wish (I:Inv X pins σ H s) (E:Value->Shared->Prop):Inv (X.wish E) pins σ H s:=⟨I.ok.wish E,I.os,I.bare,I.base,I.loc,I.cell,I.free,I.freeC,I.pin,I.hok,I.len,I.tk⟩
theorem Inv.unwish (I:Inv (X.wish E) pins σ H s):Inv X pins σ H s:=⟨I.ok.unwish,I.os,I.bare,I.base,I.loc,I.cell,I.free,I.freeC,I.pin,I.hok,I.len,I.tk⟩
theorem SP.unwish {D:Ends} {f:Flow} {s':Shared} (h:SP (X.wish E) pins D f s'):SP X pins D f s':=by
 cases f with
 |next=>obtain ⟨σ',H',I,q⟩:=h;exact ⟨σ',H',I.unwish,q⟩
 |brk=>obtain ⟨σ',H',I,q⟩:=h;exact ⟨σ',H',I.unwish,q⟩
 |cont=>obtain ⟨σ',H',I,q⟩:=h;exact ⟨σ',H',I.unwish,q⟩
 |ret u=>obtain ⟨v,σ',H',I,r,q⟩:=h;exact ⟨v,σ',H',I.unwish,r,q⟩
theorem PSs.nox {st:List Stmt} {t:TS} (h:PSs X.nox st t):PSs X st t:=fun pins s σ H D I hw=>
 wpAny_mono (h pins s σ H D (I.wish _) hw) (fun _ _ q=>q.unwish) fun _ _ z=>False.elim z
end
section
variable {X:Cx} {st:Stmt} {rest:List Stmt} {t u:TS} {e:Expr} {te:TE} {pos:Pos}
def tNext:TS:=fun D σ H=>D.nx σ H
def tSeq (t u:TS):TS:=fun D σ H=>t { D with nx:=u D } σ H
theorem pss_nil:PSs X [] tNext:=fun _ _ σ H _ I h=>wpAny_execs_nil ⟨σ,H,I,h⟩
theorem pss_cons (h1:PS X st t) (h2:PSs X rest u):PSs X (st::rest) (tSeq t u):=by
 intro pins s σ H D I h
 refine wpAny_execs_cons (thn (h1 pins s σ H { D with nx:=u D } I h) fun f s1 q=>?_)
 cases f with
 |next=>
  obtain ⟨σ',H',I',q⟩:=q
  exact h2 pins s1 σ' H' D I' q
 |ret v=>exact q
 |brk=>exact q
 |cont=>exact q
theorem pss_one (h1:PS X st t):PSs X [st] t:=by
 intro pins s σ H D I h
 refine wpAny_execs_cons (thn (h1 pins s σ H D I h) fun f s1 q=>?_)
 cases f with
 |next=>exact wpAny_execs_nil q
 |ret v=>exact q
 |brk=>exact q
 |cont=>exact q
def tCont:TS:=fun D σ H=>D.ct σ H
theorem ps_continue:PS X (.Continue pos) tCont:=fun _ _ σ H _ I h=>wpAny_Continue ⟨σ,H,I,h⟩
theorem Inv.quiet {pins:List (Addr×Obj)} {σ:St} {H:Hp} {s:Shared} (I:Inv X pins σ H s):interactive X.env=false:=by simp[interactive,I.ok.kind]
def tDrop (te:TE):TS:=fun D σ H=>te σ H fun _ H1=>D.nx σ H1
theorem ps_expr (he:PE X e te) (hs:swapsWith e none pos.line X.env=pure false:=by rfl):PS X (.Expr e pos) (tDrop te):=by
 intro pins s σ H D I h
 exact wpAny_Expr_any (thn (he pins s σ H _ I h) fun v s1 ⟨x,H1,I1,r1,q1⟩=>⟨σ,H1,I1,q1⟩) I.quiet hs
def tRet (te:TE):TS:=fun D σ H=>te σ H D.rt
theorem ps_ret (he:PE X e te):PS X (.Return (some e) pos) (tRet te):=by
 intro pins s σ H D I h
 exact wpAny_Return_some (thn (he pins s σ H _ I h) fun v s1 ⟨x,H1,I1,r1,q1⟩=>⟨x,σ,H1,I1,r1,q1⟩)
def tIfS (c:TT) (t u:TS):TS:=fun D σ H=>c σ H fun b H1=>if b=true then t D σ H1 else u D σ H1
theorem ps_if {c:Expr} {a b:List Stmt} {tc:TT} (hc:PT X c tc) (ha:PSs X a t) (hb:PSs X b u):PS X (.If c a b pos) (tIfS tc t u):=by
 intro pins s σ H D I h
 refine wpAny_If (thn (hc pins s σ H _ I h) fun d s1 ⟨H1,I1,q1⟩=>?_)
 cases d with
 |true=>exact ha pins s1 σ H1 D I1 q1
 |false=>exact hb pins s1 σ H1 D I1 q1
def tNever:TS:=fun _ _ _=>False
theorem ps_never:PS X st tNever:=fun _ _ _ _ _ _ h=>h.elim
end
abbrev TG:=V->St->Hp->(St->Hp->Prop)->Prop
def PG (X:Cx) (target:Expr) (t:TG):Prop:=
 ∀ (pins:List (Addr×Obj)) (s:Shared) (σ:St) (H:Hp) (v:V) (u:Value) (Q:St->Hp->Prop),Inv X pins σ H s->RelV v u->t v σ H Q →
  wpAny (model X.prog X.w) X.A (assign target X.env u) (fun _ s'=>∃ σ' H',Inv X pins σ' H' s'/\Q σ' H') X.xe s
abbrev TSet:=V->V->V->Hp->(Hp->Prop)->Prop
def PSet (X:Cx) (t:TSet):Prop:=
 ∀ (pins:List (Addr×Obj)) (s:Shared) (σ:St) (H:Hp) (o i v:V) (ov iv u:Value) (Q:Hp->Prop),Inv X pins σ H s->RelV o ov->RelV i iv->RelV v u->t o i v H Q →
  wpAny (model X.prog X.w) X.A (setItem ov iv u) (fun _ s'=>∃ H',Inv X pins σ H' s'/\Q H') X.xe s
abbrev TIp:=V->V->Hp->VK->Prop
def PIp (X:Cx) (op:Operator) (t:TIp):Prop:=
 ∀ (pins:List (Addr×Obj)) (s:Shared) (σ:St) (H:Hp) (x y:V) (v u:Value) (Q:VK),Inv X pins σ H s->RelV x v->RelV y u->t x y H Q →
  wpAny (model X.prog X.w) X.A (inplaceOp op v u) (EP X pins σ Q) X.xe s
section
variable {X:Cx} {pos:Pos}
def gName (i:Nat):TG:=fun v σ H Q=>Q (σ.set i (some v)) H
theorem pg_name {i:Nat} {x:Str} (hN:X.N.Nodup) (hi:X.N[i]? = some x) (hx:Loc X.env.scope x) (hf:X.fn x=true ∨ X.env.scope.names.lookup x=some .local:=by first |exact .inl rfl |exact .inr rfl |assumption):PG X (.Name x pos) (gName i):=by
 intro pins s σ H v u Q I r h
 exact wpAny_assign_Name (store_ok I hN hi hx r (fun s' I'=>⟨_,H,I',h⟩) hf)
def gSub (to ti:TE) (t:TSet):TG:=fun v σ H Q=>to σ H fun o H1=>ti σ H1 fun i H2=>t o i v H2 fun H3=>Q σ H3
theorem pg_sub {o i:Expr} {to ti:TE} {t:TSet} (ho:PE X o to) (hi:PE X i ti) (hs:PSet X t)
  (ha : ∀ v, assign (.Subscript o i pos) X.env v = (do
   let ov ← holding [v] (eval o X.env)
   let iv ← holding [v,ov] (eval i X.env)
   standAt pos
   holding [v,ov,iv] (setItem ov iv v)
   release [v,ov,iv] []):=by intro _;rfl):PG X (.Subscript o i pos) (gSub to ti t):=by
 intro pins s σ H v u Q I r h
 rw[ha]
 refine wpAny_bind (wpAny_holding (thn (ho pins s σ H _ I h) fun ov s1 ⟨x,H1,I1,r1,q1⟩=>?_))
 refine wpAny_bind (wpAny_holding (thn (hi pins s1 σ H1 _ I1 q1) fun iv s2 ⟨y,H2,I2,r2,q2⟩=>?_))
 refine wpAny_bind (wpAny_standAt (wpAny_bind (wpAny_holding (thn (hs pins s2 σ H2 x y v ov iv u _ I2 r1 r2 r q2) fun _ s3 ⟨H3,I3,q3⟩=>?_))))
 exact wpAny_release ⟨σ,H3,I3,q3⟩
def tAsg (te:TE) (g:TG):TS:=fun D σ H=>te σ H fun x H1=>g x σ H1 D.nx
theorem ps_asg {tg e:Expr} {te:TE} {g:TG} (he:PE X e te) (hg:PG X tg g) (hs:swapsWithSole [tg] e pos.line X.env=pure false:=by rfl) (hw:swappedStores [tg] e X.env=pure none:=by rfl)
  (h1:(assignEach [tg] X.env).map (·.2)=[assign tg X.env]:=by rfl):PS X (.Assign [tg] e pos) (tAsg te g):=by
 intro pins s σ H D I h
 refine wpAny_Assign_stores (thn (he pins s σ H _ I h) fun v s1 ⟨x,H1,I1,r1,q1⟩=>?_) hs hw
 rw[h1]
 exact thn (hg pins s1 σ H1 x v _ I1 r1 q1) fun _ s2 q=>q
theorem ps_set {i:Nat} {x:Str} {e:Expr} {te:TE} {pos':Pos} (hN:X.N.Nodup) (hi:X.N[i]? = some x) (hx:Loc X.env.scope x) (he:PE X e te) (hs:swapsWith e (some (.Name x pos')) pos.line X.env=pure false:=by rfl) (hf:X.fn x=true ∨ X.env.scope.names.lookup x=some .local:=by first |exact .inl rfl |exact .inr rfl |assumption):
  PS X (.Assign [.Name x pos'] e pos) (tAsg te (gName i)):=by
 intro pins s σ H D I h
 refine wpAny_Assign_Name (thn (he pins s σ H _ I h) fun v s1 ⟨y,H1,I1,r1,q1⟩=>?_) hs
 exact store_ok I1 hN hi hx r1 (fun s2 I2=>⟨_,H1,I2,q1⟩) hf
def tAug (i:Nat) (te:TE) (ti:TIp):TS:=fun D σ H=>∃ x,σ[i]? = some (some x)/\te σ H fun y H1=>ti x y H1 fun z H2=>D.nx (σ.set i (some z)) H2
theorem ps_aug {i:Nat} {x:Str} {e:Expr} {te:TE} {op:Operator} {ti:TIp} {pos':Pos} (hN:X.N.Nodup) (hi:X.N[i]? = some x) (hx:Loc X.env.scope x) (he:PE X e te) (ho:PIp X op ti) (hf:X.fn x=true ∨ X.env.scope.names.lookup x=some .local:=by first |exact .inl rfl |exact .inr rfl |assumption):
  PS X (.AugAssign (.Name x pos') op e pos) (tAug i te ti):=by
 intro pins s σ H D I h
 obtain ⟨v,e1,h⟩:=h
 obtain ⟨m,hn,hl⟩:=I.loc
 have vis:Vis X.env.scope x:=by rcases hx with k |k;exact .inl k;exact .inr (.inl k)
 obtain ⟨u,r,l⟩:=hl i x v hi e1 vis
 refine wpAny_AugAssign_Name ?_
 have go:wpAny (model X.prog X.w) X.A (eval e X.env) (fun w s₂=>wpAny (model X.prog X.w) X.A (inplaceOp op u w) (fun r s₃=>wpAny (model X.prog X.w) X.A (storeName X.env x r) (fun _=>SP X pins D .next) X.xe s₃) X.xe s₂) X.xe s:=by
  refine thn (he pins s σ H _ I h) fun w s1 ⟨y,H1,I1,r1,q1⟩=>?_
  refine thn (ho pins s1 σ H1 v y u w _ I1 r r1 q1) fun z s2 ⟨zv,H2,I2,r2,q2⟩=>?_
  exact store_ok I2 hN hi hx r2 (fun s3 I3=>⟨_,H2,I3,q2⟩) hf
 rcases l with ⟨hk,hm⟩ |⟨hk,c,hc,hcell⟩
 ·exact wpAny_loadName_local I.ok.kind hk hn hm go
 ·rcases hk with hk |hk
  ·exact wpAny_loadName_cell I.ok.kind hk hc hcell go
  ·rcases hx with k |k
   ·have:X.env.scope.names.lookup x=some .free:=hk
    rw[k] at this;cases this
   ·have:X.env.scope.names.lookup x=some .free:=hk
    rw[k] at this;cases this
def ipI (f:Int->Int->Int):TIp:=fun x y H Q=>∃ i j,x = .int i/\y = .int j/\Q (.int (f i j)) H
theorem ip_add:PIp X .Add (ipI fun i j=>i+j):=by
 intro pins s σ H x y v u Q I r1 r2 h
 obtain ⟨i,j,e1,e2,q⟩:=h
 subst e1;subst e2
 obtain ⟨t,rfl⟩:=r1
 obtain ⟨t',rfl⟩:=r2
 exact iadd_int ⟨.int _,H,I.tok _,⟨_,rfl⟩,q⟩
end
section
variable {X:Cx} {pos:Pos}
def tWhile (c:TT) (tb:TS):TS:=fun D σ H=>∃ W:Nat->St->Hp->Prop,(∃ m,W m σ H)/\∀ m σ H,W m σ H →
 c σ H fun b H1=>if b=true then ∃ N:St->Hp->Prop,(∀ σ' H',N σ' H'->∃ m',m' < m/\W m' σ' H')/\tb { D with nx:=N,ct:=N,bk:=D.nx } σ H1 else D.nx σ H1
theorem ps_while {c:Expr} {body:List Stmt} {tc:TT} {tb:TS} (hp:PassesOwn (model X.prog X.w) X.A X.env X.xe) (hc:PT X c tc) (hb:PSs X body tb):PS X (.While c body [] pos) (tWhile tc tb):=by
 intro pins s σ H D I h
 obtain ⟨W,⟨m0,w0⟩,turn⟩:=h
 refine wpAny_While (codeAny_whileLoop (fun n s'=>∃ σ' H',Inv X pins σ' H' s'/\W n σ' H') ?_ m0 ⟨σ,H,I,w0⟩)
 rintro n s1 ⟨σ1,H1,I1,w1⟩
 refine wpAny_passesOwn hp (thn (hc pins s1 σ1 H1 _ I1 (turn n σ1 H1 w1)) fun b s2 ⟨H2,I2,q2⟩=>?_)
 cases b with
 |true=>
  obtain ⟨N,hN,q2⟩:=q2
  rw[if_pos rfl]
  refine wpAny_passesOwn hp (thn (hb pins s2 σ1 H2 _ I2 q2) fun f s3 q3=>?_)
  cases f with
  |next=>
   obtain ⟨σ3,H3,I3,n3⟩:=q3
   obtain ⟨m',hm,w3⟩:=hN σ3 H3 n3
   exact ⟨m',hm,σ3,H3,I3,w3⟩
  |cont=>
   obtain ⟨σ3,H3,I3,n3⟩:=q3
   obtain ⟨m',hm,w3⟩:=hN σ3 H3 n3
   exact ⟨m',hm,σ3,H3,I3,w3⟩
  |brk=>exact q3
  |ret v=>exact q3
 |false=>
  rw[if_neg Bool.false_ne_true]
  exact wpAny_execs_nil ⟨σ1,H2,I2,q2⟩
end
structure It where
 go:Nat->Hp->Prop
 yld:Nat->Hp->V->Hp->Prop
 stop:Nat->Hp->Prop
def FpOk (X:Cx) (pins:List (Addr×Obj)) (H:Hp) (b:Addr):Prop:=
 H b=none/\b≠X.env.locals/\b∉X.fs/\(b∈X.ex ∨ X.s₀.heap.objs.size<=b)/\(∀ x c,X.env.cells.lookup x=some c->c≠b)/\∀ p∈X.pn++pins,p.1≠b
theorem Inv.fpOk {X:Cx} {pins:List (Addr×Obj)} {σ:St} {H H':Hp} {s:Shared} {b:Addr} (I:Inv X pins σ H s) (hb:s.heap.objs.size<=b) (hn:H' b=none):FpOk X pins H' b:=by
 refine ⟨hn,Nat.ne_of_gt (Nat.lt_of_lt_of_le I.lt hb),I.nofs hb, .inr (Nat.le_trans I.sz hb),fun x c e z=>?_,fun p hp z=>?_⟩
 ·obtain ⟨v,q⟩:=I.cell x c e
  exact absurd (Nat.lt_of_lt_of_le q.lt (by rw[z];exact hb)) (Nat.lt_irrefl _)
 ·exact absurd (Nat.lt_of_lt_of_le (Heap.lt_size (I.pin p hp).1) (by rw[z];exact hb)) (Nat.lt_irrefl _)
structure Turn (P:Program) (w:World) (K:PySem.W.Frag) (tg:Expr) (J:It) (fp:List Addr) (it:Addr) (tn:Nat->Heap->Prop):Prop where
 mem:it∈fp
 obj:∀ i h,tn i h->∀ b∈fp,∃ o,h.get? b=some o/\∀ v,o.data ≠ .cell v
 keep:∀ i h h',tn i h->(∀ b∈fp,∀ o,h.get? b=some o->h'.get? b=some o)->tn i h'
 item:∀ (X:Cx),X.prog=P->X.w=w->X.K=K->X.calm=true->∀ (i:Nat) (pins:List (Addr×Obj)) (s:Shared) (σ:St) (H:Hp) (E:Value->Shared->Prop),Inv X pins σ H s->(∀ b∈fp,FpOk X pins H b)->tn i s.heap->J.go i H →
  wpAny (model P w) X.A (pyNext (.ref it)) (fun r s1=>∃ u,r=some u ∧
   wpAny (model P w) X.A (letOwnedTupleGo tg (.ref it) u) (fun _ s2=>∃ x H',Inv X pins σ H' s2/\RelV x u/\J.yld i H x H'/\tn (i+1) s2.heap/\∀ b∈fp,H' b=none) E s1) E s
 done:∀ (X:Cx),X.prog=P->X.w=w->X.K=K->X.calm=true->∀ (i:Nat) (pins:List (Addr×Obj)) (s:Shared) (σ:St) (H:Hp) (E:Value->Shared->Prop),Inv X pins σ H s->(∀ b∈fp,FpOk X pins H b)->tn i s.heap->J.stop i H →
  wpAny (model P w) X.A (pyNext (.ref it)) (fun r s1=>r=none/\Inv X pins σ H s1) E s
 self:∀ (A:Around) (i:Nat) (s:Shared) (Q:Value->Shared->Prop) (E:Value->Shared->Prop),tn i s.heap->Q (.ref it) s->wpAny (model P w) A (pyIter (.ref it)) Q E s
abbrev TI:=St->Hp->(It->Hp->Prop)->Prop
def PIE (X:Cx) (pins:List (Addr×Obj)) (σ:St) (tg:Expr) (R:It->Hp->Prop) (itv:Value) (s2:Shared):Prop:=
 ∃ (it:Addr) (fp:List Addr) (tn:Nat->Heap->Prop) (J:It) (H':Hp),itv = .ref it/\Inv X pins σ H' s2/\Turn X.prog X.w X.K tg J fp it tn/\tn 0 s2.heap/\(∀ b∈fp,FpOk X pins H' b)/\R J H'
def PI (X:Cx) (tg iter:Expr) (wi:TI):Prop:=
 ∀ (pins:List (Addr×Obj)) (s:Shared) (σ:St) (H:Hp) (R:It->Hp->Prop),Inv X pins σ H s->wi σ H R →
  wpAny (model X.prog X.w) X.A (eval iter X.env) (fun v s1=>wpAny (model X.prog X.w) X.A (pyIter v) (PIE X pins σ tg R) X.xe s1) X.xe s
theorem go_of {M:Model} {A:Around} {E:Value->Shared->Prop} {s:Shared} {tg:Expr} {it:Addr} {u:Value} {o:Obj} {n:String} {vs:Array Value} {Q:Unit->Shared->Prop} (ho:s.heap.get? it=some o) (hc:o.cls = .type n) (hd:o.data = .fields vs)
  (hn:["enumerate","zip","dict_itemiterator","dict_reverseitemiterator","odict_iterator","itertools.zip_longest","itertools.pairwise"].contains n=false) (hQ:Q () s):wpAny M A (letOwnedTupleGo tg (.ref it) u) Q E s:=by
 unfold letOwnedTupleGo
 cases tg <;> first
  |exact wpAny_pure hQ
  | (cases u <;> first
    |exact wpAny_pure hQ
    | (refine wpAny_bind (wpAny_load ho ?_)
       rw[hc,hd]
       show wpAny M A (if (["enumerate","zip","dict_itemiterator","dict_reverseitemiterator","odict_iterator","itertools.zip_longest","itertools.pairwise"].contains n&&vs[0]? == some (rawInt _))=true then _ else _) Q E s
       rw[if_neg (by intro h;rw[hn,Bool.false_and] at h;cases h)]
       exact wpAny_pure hQ))
def Itl (K:PySem.W.Frag) (a:Addr):It:=
 ⟨fun i H=>∃ xs x,SqL K H a xs/\xs[i]? = some x,fun i H x H'=>H'=H/\∀ xs,SqL K H a xs->xs[i]? = some x,fun i H=>∃ xs,SqL K H a xs/\xs.length<=i⟩
def Itr (lo:Int) (n:Nat):It:=⟨fun i _=>i < n,fun i H x H'=>H'=H/\x = .int (lo+i),fun i _=>n<=i⟩
theorem turn_list {P:Program} {w:World} {K:PySem.W.Frag} {tg:Expr} (a it:Addr):Turn P w K tg (Itl K a) [it] it (fun i h=>h.IsListIter it a i) where
 mem:=by simp
 obj:=fun i h st b hb=>by
  have e:b=it:=by simpa using hb
  subst e
  obtain ⟨o,e,c,d⟩:=st
  exact ⟨o,e,fun v z=>by rw[d] at z;cases z⟩
 keep:=fun i h h' st k=>st.at fun o e=>k it (by simp) o e
 item:=by
  intro X hP hw hK hc i pins s σ H E I hf st hg
  subst hP hw hK
  obtain ⟨xs,x,hq,hx⟩:=hg
  obtain ⟨its,rv,p,hz⟩:=I.list hq
  obtain ⟨u,hu,ru⟩:=rv.get hx
  obtain ⟨f0,f1,f2,f3,f4,f5⟩:=hf it (by simp)
  refine wpAny_pyNext_list_item st p.isList (x:=u) (by simpa using hu) fun h' st' sb=>?_
  have I1:Inv X pins σ H { s with heap:=h' }:=I.turned (t':=s.toks) (fun b o hb e=>(sb.2 b hb).trans e) f0 f1 f3 f4 f5
  obtain ⟨o,e,c,d⟩:=id st'
  exact ⟨u,rfl,go_of (s:={ s with heap:=h' }) e c d (by decide) ⟨x,H,I1,ru,⟨rfl,fun ys hy=>by rw[I.list_inj hy hq];exact hx⟩,st',fun b hb=>(hf b hb).1⟩⟩
 done:=by
  intro X hP hw hK hc i pins s σ H E I hf st hg
  subst hP hw hK
  obtain ⟨xs,hq,hx⟩:=hg
  obtain ⟨its,rv,p,hz⟩:=I.list hq
  obtain ⟨f0,f1,f2,f3,f4,f5⟩:=hf it (by simp)
  have hl:=rv.length
  exact wpAny_pyNext_list_end (I.ok.hd hc) st p.isList (by simp;omega) fun h' eb=>⟨rfl,I.turned (t':=s.toks) (fun b o hb e=>eb b o hb e) f0 f1 f3 f4 f5⟩
 self:=fun _ _ _ _ _ st h=>wpAny_pyIter_listiter st h
theorem turn_range {P:Program} {w:World} {K:PySem.W.Frag} {tg:Expr} (it:Addr) (lo:Int) (n:Nat):Turn P w K tg (Itr lo n) [it] it (fun i h=>IsRangeIter h it (lo+(i:Nat) * 1) ((n:Int) - (i:Nat)) 1) where
 mem:=by simp
 obj:=fun i h st b hb=>by
  have e:b=it:=by simpa using hb
  subst e
  exact ⟨_,st,fun v z=>by
   have z':Data.fields _=Data.cell v:=z
   cases z'⟩
 keep:=fun i h h' st k=>k it (by simp) _ st
 item:=by
  intro X hP hw hK hc i pins s σ H E I hf st hg
  subst hP hw hK
  obtain ⟨f0,f1,f2,f3,f4,f5⟩:=hf it (by simp)
  have W:=Walks.range (prog:=X.prog) (w:=X.w) (I.ok.hd hc) it lo 1 n
  refine wpAny_with_toks (n:=1) I.tk (W.item i s _ _ hg st fun v h' tk hv st' kk htk=>?_)
  obtain ⟨t,rfl⟩:=hv
  have htk:0 < tk:=htk
  have I1:Inv X pins σ H { s with heap:=h',toks:=tk }:=I.turned (fun b o hb e=>kk b o (by simpa using hb) e) f0 f1 f3 f4 f5
  refine ⟨_,rfl,go_of (s:={ s with heap:=h',toks:=tk }) (n:="range_iterator") st' rfl rfl (by decide) ⟨.int (lo+i),H,I1,⟨t,?_⟩,⟨rfl,rfl⟩,st',fun b hb=>(hf b hb).1⟩⟩
  rw[Int.mul_one]
 done:=by
  intro X hP hw hK hc i pins s σ H E I hf st hg
  subst hP hw hK
  obtain ⟨f0,f1,f2,f3,f4,f5⟩:=hf it (by simp)
  exact wpAny_pyNext_range_end (I.ok.hd hc) st (by have:n<=i:=hg;omega) fun h' eb=>⟨rfl,I.turned (t':=s.toks) (fun b o hb e=>eb b o hb e) f0 f1 f3 f4 f5⟩
 self:=fun _ _ _ _ _ st h=>wpAny_pyIter_rangeiter st h
end L2
namespace L2
open PySem PySem.Spec PyProof.Rows
section
variable {X:Cx} {tg:Expr}
def iList (K:PySem.W.Frag) (tl:TE):TI:=fun σ H R=>tl σ H fun x H1=>∃ a,x = .ref a/\(∃ xs,SqL K H1 a xs)/\R (Itl K a) H1
theorem pi_list {l:Expr} {tl:TE} (hl:PE X l tl):PI X tg l (iList X.K tl):=by
 intro pins s σ H R I h
 refine thn (hl pins s σ H _ I h) fun v s1 ⟨x,H1,I1,r1,q1⟩=>?_
 obtain ⟨a,e,⟨xs,hq⟩,q⟩:=q1
 subst e
 cases r1
 obtain ⟨its,rv,p,hz⟩:=I1.list hq
 refine wpAny_pyIter_list p.isList ?_
 refine ⟨s1.heap.objs.size,[s1.heap.objs.size],_,_,H1,rfl,I1.kept (t':=s1.toks) fun b o e=>Heap.get?_push_of_some _ e,turn_list a _,⟨_,Heap.get?_push_size _ rfl,rfl,rfl⟩,fun b hb=>?_,q⟩
 have e:b=s1.heap.objs.size:=by simpa using hb
 subst e
 exact I1.fpOk (Nat.le_refl _) (I1.hok.fresh (Nat.le_refl _))
theorem range_it {pins:List (Addr×Obj)} {σ:St} {H:Hp} {s:Shared} {R:It->Hp->Prop} {E:Value->Shared->Prop} {lo hi:Int} {t u v:Tok} {tk:Nat} (htk:0 < tk) (I:Inv X pins σ H s) (h1 : -(2 ^ 62)<=lo) (h2:lo < 2 ^ 62) (h3 : -(2 ^ 62)<=hi) (h4:hi < 2 ^ 62)
  (q:R (Itr lo (hi - lo).toNat) H):wpAny (model X.prog X.w) X.A (pyIter (.ref s.heap.objs.size)) (PIE X pins σ tg R) E { s with heap:=s.heap.push { cls := .type "range",data := .fields #[.int lo t, .int hi u, .int 1 v] },toks:=tk }:=by
 refine wpAny_pyIter_range (IsRange.new ..) (small_one h1 h2 h3 h4) ?_
 have I1:Inv X pins σ H { s with heap:=s.heap.push { cls := .type "range",data := .fields #[.int lo t, .int hi u, .int 1 v] },toks:=tk }:=I.kept fun b o e=>Heap.get?_push_of_some _ e
 refine ⟨(s.heap.push { cls := .type "range",data := .fields #[.int lo t, .int hi u, .int 1 v] }).objs.size,[(s.heap.push { cls := .type "range",data := .fields #[.int lo t, .int hi u, .int 1 v] }).objs.size],_,_,H,rfl,
  I1.kept (t':=tk) fun b o e=>Heap.get?_push_of_some _ e,turn_range _ lo (hi - lo).toNat,?_,fun b hb=>?_,q⟩
 ·have e1:lo+((0:Nat):Int) * 1=lo:=by simp
  have e2:(((hi - lo).toNat:Nat):Int) - ((0:Nat):Int)=Builtin.Range.rangeSize lo hi 1:=by rw[rangeSize_one];split <;> omega
  show IsRangeIter _ _ (lo+((0:Nat):Int) * 1) ((((hi - lo).toNat:Nat):Int) - ((0:Nat):Int)) 1
  rw[e1,e2]
  exact Heap.get?_push_size _ rfl
 ·have e:b=(s.heap.push { cls := .type "range",data := .fields #[.int lo t, .int hi u, .int 1 v] }).objs.size:=by simpa using hb
  subst e
  exact I1.fpOk (Nat.le_refl _) (I1.hok.fresh (Nat.le_refl _))
def iRng1 (ta:TA):TI:=fun σ H R=>ta σ H fun vs H1=>∃ j:Int,vs=[.int j] /\ -(2 ^ 62)<=j/\j < 2 ^ 62/\R (Itr 0 j.toNat) H1
theorem pi_range1 {a:Expr} {ta:TA} {p pos:Pos} (hg:Gl X "range") (hm:X.mg "range"=none) (ha:PA X [a] ta) (hs:starEach [a] X.env=[(false,eval a X.env)]:=by rfl):PI X tg (.Call (.Name "range" p) [a] [] pos) (iRng1 ta):=by
 intro pins s σ H R I h
 refine Call_ (ld_blt I hg hm boot_range (PyProof.Rows.callWith_type1 (thn (ha pos pins s σ H _ I h) fun us s1 ⟨vs,H1,I1,r1,q1⟩=>?_) hs rfl))
 obtain ⟨j,e,q1,q2,q⟩:=q1
 subst e
 cases r1 with
 |cons r rr=>
  cases rr
  obtain ⟨t,rfl⟩:=r
  exact call_range_1 (range_it (by first |exact I1.tk |exact Nat.succ_pos _) I1 (by omega) (by omega) q1 q2 (by simpa using q))
def tFor (wi:TI) (g:TG) (tb:TS):TS:=fun D σ H=>wi σ H fun J H1=>∃ W:Nat->Nat->St->Hp->Prop,(∃ m,W 0 m σ H1)/\∀ i m σ H,W i m σ H →
 (J.stop i H/\D.nx σ H) ∨ (J.go i H/\∃ N:St->Hp->Prop,(∀ σ' H',N σ' H'->∃ m',m' < m/\W (i+1) m' σ' H')/\∀ x H',J.yld i H x H'->g x σ H' fun σ2 H2=>tb { D with nx:=N,ct:=N,bk:=D.nx } σ2 H2)
def pinsAt (fp:List Addr) (h:Heap):List (Addr×Obj):=fp.filterMap fun b=>(h.get? b).map fun o=>(b,o)
theorem mem_pinsAt {fp:List Addr} {h:Heap} {b:Addr} {o:Obj} (hb:b∈fp) (e:h.get? b=some o):(b,o)∈pinsAt fp h:=List.mem_filterMap.mpr ⟨b,hb,by rw[e];rfl⟩
theorem of_pinsAt {fp:List Addr} {h:Heap} {p:Addr×Obj} (hp:p∈pinsAt fp h):p.1∈fp/\h.get? p.1=some p.2:=by
 obtain ⟨b,hb,e⟩:=List.mem_filterMap.mp hp
 cases q:h.get? b with
 |none=>rw[q] at e;cases e
 |some o=>
  rw[q] at e
  have e':(b,o)=p:=Option.some.inj e
  subst e'
  exact ⟨hb,q⟩
theorem Inv.pinned {pins:List (Addr×Obj)} {σ:St} {H:Hp} {s:Shared} {fp:List Addr} (I:Inv X pins σ H s) (hf:∀ b∈fp,FpOk X pins H b) (ho:∀ b∈fp,∃ o,s.heap.get? b=some o/\∀ v,o.data ≠ .cell v):Inv X (pins++pinsAt fp s.heap) σ H s:=
 I.pins_of fun p hp=>(List.mem_append.mp hp).elim (fun z=>I.pin p (List.mem_append_right _ z)) fun z=>by
  obtain ⟨hb,e⟩:=of_pinsAt z
  obtain ⟨f0,f1,f2,_⟩:=hf p.1 hb
  obtain ⟨o,e',d⟩:=ho p.1 hb
  rw[e] at e';cases e'
  exact ⟨e,f0,f1,f2,d⟩
theorem Inv.unpinned {pins pl:List (Addr×Obj)} {σ:St} {H:Hp} {s:Shared} (I:Inv X (pins++pl) σ H s):Inv X pins σ H s:=I.pins_of fun p hp=>I.pin p (List.mem_append_right _ (List.mem_append_left _ hp))
theorem ps_for {iter:Expr} {body:List Stmt} {wi:TI} {g:TG} {tb:TS} {pos:Pos} (hp:PassesOwn (model X.prog X.w) X.A X.env X.xe) (hc:X.calm=true) (hi:PI X tg iter wi) (hg:PG X tg g) (hb:PSs X body tb)
  (hs:∀ x,foldedSetIterable iter X.env x=pure x:=by intro _;rfl):PS X (.For tg iter body [] pos) (tFor wi g tb):=by
 intro pins s σ H D I h
 refine wpAny_For (thn (hi pins s σ H _ I h) fun v s1 h1=>thn h1 fun itv s2 h2=>?_) hs
 obtain ⟨it,fp,tn,J,H2,e,I2,T,st2,f2,W,⟨m0,w0⟩,turn⟩:=h2
 subst e
 have stat:∀ {H':Hp},(∀ b∈fp,H' b=none)->∀ b∈fp,FpOk X pins H' b:=fun hn b hb=>⟨hn b hb,(f2 b hb).2⟩
 refine codeAny_forLoop_any (fun n s'=>∃ i σ' H',Inv X pins σ' H' s'/\tn i s'.heap/\(∀ b∈fp,H' b=none)/\W i n σ' H') ?_ m0 ⟨0,σ,H2,I2,st2,fun b hb=>(f2 b hb).1,w0⟩
 rintro n s3 ⟨i,σ3,H3,I3,st3,fr3,w3⟩
 rcases turn i n σ3 H3 w3 with ⟨stop,qn⟩ |⟨go,N,hN,step⟩
 ·refine wpAny_passesOwn hp (thn (T.done X rfl rfl rfl hc i pins s3 σ3 H3 X.xe I3 (stat fr3) st3 stop) fun r s4 ⟨hr,I4⟩=>?_)
  subst hr
  exact wpAny_execs_nil ⟨σ3,H3,I4,qn⟩
 ·refine wpAny_passesOwn hp (thn (T.item X rfl rfl rfl hc i pins s3 σ3 H3 X.xe I3 (stat fr3) st3 go) fun r s4 ⟨u,hr,h4⟩=>?_)
  subst hr
  refine wpAny_passesOwn hp (thn h4 fun _ s5 ⟨x,H5,I5,r5,y5,st5,fr5⟩=>?_)
  have I5':=I5.pinned (stat fr5) (T.obj _ _ st5)
  refine wpAny_passesOwn hp (thn (hg _ s5 σ3 H5 x u _ I5' r5 (step x H5 y5)) fun _ s6 ⟨σ6,H6,I6,q6⟩=>?_)
  refine wpAny_passesOwn hp (thn (hb _ s6 σ6 H6 _ I6 q6) fun f s7 q7=>?_)
  have again:∀ {σ7:St} {H7:Hp},Inv X (pins++pinsAt fp s5.heap) σ7 H7 s7->N σ7 H7->∃ m,m < n/\∃ i σ' H',Inv X pins σ' H' s7/\tn i s7.heap/\(∀ b∈fp,H' b=none)/\W i m σ' H':=fun {σ7 H7} I7 n7=>by
   obtain ⟨m',hm,w7⟩:=hN σ7 H7 n7
   refine ⟨m',hm,i+1,σ7,H7,I7.unpinned,T.keep _ _ _ st5 fun b hb o e=>(I7.pin (b,o) (List.mem_append_right _ (List.mem_append_right _ (mem_pinsAt hb e)))).1,fun b hb=>?_,w7⟩
   obtain ⟨o,e,d⟩:=T.obj _ _ st5 b hb
   exact (I7.pin (b,o) (List.mem_append_right _ (List.mem_append_right _ (mem_pinsAt hb e)))).2.1
  cases f with
  |next=>obtain ⟨σ7,H7,I7,n7⟩:=q7;exact again I7 n7
  |cont=>obtain ⟨σ7,H7,I7,n7⟩:=q7;exact again I7 n7
  |brk=>obtain ⟨σ7,H7,I7,q7⟩:=q7;exact ⟨σ7,H7,I7.unpinned,q7⟩
  |ret v=>obtain ⟨x7,σ7,H7,I7,r7,q7⟩:=q7;exact ⟨x7,σ7,H7,I7.unpinned,r7,q7⟩
end
theorem for_list {K:PySem.W.Frag} {a:Addr} {xs:List V} {g:TG} {tb:TS} {D:Ends} {σ:St} {H:Hp} (Pv:Nat->St->Hp->Prop) (h0:Pv 0 σ H) (hl:∀ i σ H,i<=xs.length->Pv i σ H->SqL K H a xs)
  (hs:∀ i x σ H,xs[i]? = some x->Pv i σ H->g x σ H fun σ2 H2=>tb { D with nx:=Pv (i+1),ct:=Pv (i+1),bk:=D.nx } σ2 H2) (hd:∀ σ H,Pv xs.length σ H->D.nx σ H):
  ∃ W:Nat->Nat->St->Hp->Prop,(∃ m,W 0 m σ H)/\∀ i m σ H,W i m σ H →
   ((Itl K a).stop i H/\D.nx σ H) ∨ ((Itl K a).go i H/\∃ N:St->Hp->Prop,(∀ σ' H',N σ' H'->∃ m',m' < m/\W (i+1) m' σ' H')/\∀ x H',(Itl K a).yld i H x H'->g x σ H' fun σ2 H2=>tb { D with nx:=N,ct:=N,bk:=D.nx } σ2 H2):=by
 refine ⟨fun i m σ H=>m=xs.length - i/\i<=xs.length/\Pv i σ H,⟨xs.length,by simp,Nat.zero_le _,h0⟩,?_⟩
 rintro i m σ H ⟨rfl,hi,p⟩
 have q:=hl i σ H hi p
 by_cases hlt:i < xs.length
 ·refine .inr ⟨⟨xs,xs[i],q,by simp[hlt]⟩,Pv (i+1),fun σ' H' p'=>⟨xs.length - (i+1),by omega,rfl,hlt,p'⟩,fun x H' y=>?_⟩
  obtain ⟨e,y⟩:=y
  subst e
  exact hs i x σ _ (y xs q) p
 ·have e:i=xs.length:=by omega
  subst e
  exact .inl ⟨⟨xs,q,Nat.le_refl _⟩,hd σ H p⟩
theorem for_range {lo:Int} {n:Nat} {g:TG} {tb:TS} {D:Ends} {σ:St} {H:Hp} (Pv:Nat->St->Hp->Prop) (h0:Pv 0 σ H)
  (hs:∀ i σ H,i < n->Pv i σ H->g (.int (lo+i)) σ H fun σ2 H2=>tb { D with nx:=Pv (i+1),ct:=Pv (i+1),bk:=D.nx } σ2 H2) (hd:∀ σ H,Pv n σ H->D.nx σ H):
  ∃ W:Nat->Nat->St->Hp->Prop,(∃ m,W 0 m σ H)/\∀ i m σ H,W i m σ H →
   ((Itr lo n).stop i H/\D.nx σ H) ∨ ((Itr lo n).go i H/\∃ N:St->Hp->Prop,(∀ σ' H',N σ' H'->∃ m',m' < m/\W (i+1) m' σ' H')/\∀ x H',(Itr lo n).yld i H x H'->g x σ H' fun σ2 H2=>tb { D with nx:=N,ct:=N,bk:=D.nx } σ2 H2):=by
 refine ⟨fun i m σ H=>m=n - i/\i<=n/\Pv i σ H,⟨n,by simp,Nat.zero_le _,h0⟩,?_⟩
 rintro i m σ H ⟨rfl,hi,p⟩
 by_cases hlt:i < n
 ·refine .inr ⟨hlt,Pv (i+1),fun σ' H' p'=>⟨n - (i+1),by omega,rfl,hlt,p'⟩,fun x H' y=>?_⟩
  obtain ⟨e,y⟩:=y
  subst e y
  exact hs i σ _ hlt p
 ·have e:i=n:=by omega
  subst e
  exact .inl ⟨Nat.le_refl _,hd σ H p⟩
end L2
namespace L2
open PySem PySem.Spec PyProof.Rows
abbrev R2:=V->V->Hp->VK->Prop
def OpR (X:Cx) (f:Value->Value->Sem Value) (r:R2):Prop:=
 ∀ (pins:List (Addr×Obj)) (s:Shared) (σ:St) (H:Hp) (x y:V) (v u:Value) (Q:VK),Inv X pins σ H s->RelV x v->RelV y u->r x y H Q →
  wpAny (model X.prog X.w) X.A (f v u) (EP X pins σ Q) X.xe s
def UnR (X:Cx) (f:Value->Sem Value) (r:V->Hp->VK->Prop):Prop:=
 ∀ (pins:List (Addr×Obj)) (s:Shared) (σ:St) (H:Hp) (x:V) (v:Value) (Q:VK),Inv X pins σ H s->RelV x v->r x H Q →
  wpAny (model X.prog X.w) X.A (f v) (EP X pins σ Q) X.xe s
def CallR (X:Cx) (f:Value) (r:List V->Hp->VK->Prop):Prop:=
 ∀ (pins:List (Addr×Obj)) (s:Shared) (σ:St) (H:Hp) (xs:List V) (us:List Value) (Q:VK),Inv X pins σ H s->Vals xs us->r xs H Q →
  wpAny (model X.prog X.w) X.A (call f us) (EP X pins σ Q) X.xe s
def tOp (r:R2) (ta tb:TE):TE:=fun σ H Q=>ta σ H fun x H1=>tb σ H1 fun y H2=>r x y H2 Q
def tUn (r:V->Hp->VK->Prop) (ta:TE):TE:=fun σ H Q=>ta σ H fun x H1=>r x H1 Q
def rI (C:Int->Int->Prop) (g:Int->Int->V):R2:=fun x y H Q=>∃ i j,x = .int i/\y = .int j/\C i j/\Q (g i j) H
def rI0 (g:Int->Int->V):R2:=fun x y H Q=>∃ i j,x = .int i/\y = .int j/\Q (g i j) H
def rU (g:Int->V):V->Hp->VK->Prop:=fun x H Q=>∃ i,x = .int i/\Q (g i) H
section
variable {X:Cx} {a b c:Expr} {ta tb tc:TE} {pos:Pos}
theorem binT (ha:PE X a ta) (hb:PE X b tb) {pins:List (Addr×Obj)} {s:Shared} {σ:St} {H:Hp} {R:V->V->Hp->Prop} (I:Inv X pins σ H s)
  (h:ta σ H fun x H1=>tb σ H1 fun y H2=>R x y H2) {Q:Value->Shared->Prop} {f:Value->Value->Sem Value}
  (hf:∀ v u s2 x y H2,Inv X pins σ H2 s2->RelV x v->RelV y u->R x y H2->wpAny (model X.prog X.w) X.A (f v u) Q X.xe s2):
  wpAny (model X.prog X.w) X.A (eval a X.env) (fun v s₁=>wpAny (model X.prog X.w) X.A (eval b X.env) (fun u s₂=>wpAny (model X.prog X.w) X.A (f v u) Q X.xe s₂) X.xe s₁) X.xe s:=by
 refine thn (ha pins s σ H _ I h) fun v s1 ⟨x,H1,I1,r1,q1⟩=>?_
 refine thn (hb pins s1 σ H1 _ I1 q1) fun u s2 ⟨y,H2,I2,r2,q2⟩=>?_
 exact hf v u s2 x y H2 I2 r1 r2 q2
theorem pe_op {op:Operator} {r:R2} (ho:OpR X (binaryOp op) r) (ha:PE X a ta) (hb:PE X b tb):PE X (.BinOp a op b pos) (tOp r ta tb):=by
 intro pins s σ H Q I h
 exact wpAny_BinOp (binT ha hb I h fun v u s2 x y H2 I2 rx ry q=>ho pins s2 σ H2 x y v u Q I2 rx ry q)
theorem pe_un {op:UnaryOp} {r:V->Hp->VK->Prop} (ho:UnR X (unaryOp op) r) (ha:PE X a ta):PE X (.UnaryOp op a pos) (tUn r ta):=by
 intro pins s σ H Q I h
 exact UnaryOp_ (thn (ha pins s σ H _ I h) fun v s1 ⟨x,H1,I1,r1,q1⟩=>ho pins s1 σ H1 x v Q I1 r1 q1)
theorem opI {f:Value->Value->Sem Value} {C:Int->Int->Prop} {g:Int->Int->Int}
  (rule:∀ (i j:Int) (t u:Tok) (s:Shared) (Q:Value->Shared->Prop) (E:Value->Shared->Prop),C i j->Q (.int (g i j) s.toks) { s with toks:=s.toks+1 }->wpAny (model X.prog X.w) X.A (f (.int i t) (.int j u)) Q E s):
  OpR X f (rI C fun i j => .int (g i j)):=by
 intro pins s σ H x y v u Q I rx ry h
 obtain ⟨i,j,rfl,rfl,hc,q⟩:=h
 obtain ⟨t,rfl⟩:=rx
 obtain ⟨t',rfl⟩:=ry
 exact rule i j t t' s _ _ hc ⟨.int (g i j),H,I.tok _,⟨_,rfl⟩,q⟩
theorem opI0 {f:Value->Value->Sem Value} {g:Int->Int->Int}
  (rule:∀ (i j:Int) (t u:Tok) (s:Shared) (Q:Value->Shared->Prop) (E:Value->Shared->Prop),Q (.int (g i j) s.toks) { s with toks:=s.toks+1 }->wpAny (model X.prog X.w) X.A (f (.int i t) (.int j u)) Q E s):
  OpR X f (rI0 fun i j => .int (g i j)):=by
 intro pins s σ H x y v u Q I rx ry h
 obtain ⟨i,j,rfl,rfl,q⟩:=h
 obtain ⟨t,rfl⟩:=rx
 obtain ⟨t',rfl⟩:=ry
 exact rule i j t t' s _ _ ⟨.int (g i j),H,I.tok _,⟨_,rfl⟩,q⟩
theorem opB0 {f:Value->Value->Sem Value} {g:Int->Int->Bool}
  (rule:∀ (i j:Int) (t u:Tok) (s:Shared) (Q:Value->Shared->Prop) (E:Value->Shared->Prop),Q (.bool (g i j)) s->wpAny (model X.prog X.w) X.A (f (.int i t) (.int j u)) Q E s):
  OpR X f (rI0 fun i j => .bl (g i j)):=by
 intro pins s σ H x y v u Q I rx ry h
 obtain ⟨i,j,rfl,rfl,q⟩:=h
 obtain ⟨t,rfl⟩:=rx
 obtain ⟨t',rfl⟩:=ry
 exact rule i j t t' s _ _ ⟨.bl (g i j),H,I,rfl,q⟩
def CDiv (i j:Int):Prop:=0 < j/\j < 1073741824
def CMul (i j:Int):Prop:=(-(2 ^ 64) < i/\i < 2 ^ 64) ∨ (-(2 ^ 64) < j/\j < 2 ^ 64)
theorem CMul.ok {i j:Int} (h:CMul i j):IntMulOk i j:=by
 rcases h with ⟨h1,h2⟩ |⟨h1,h2⟩
 ·exact .of_left (intBits_le_64 h1 h2)
 ·exact .of_right (intBits_le_64 h1 h2)
theorem op_add:OpR X (binaryOp .Add) (rI0 fun i j => .int (i+j)):=opI0 fun _ _ _ _ _ _ _ q=>add_int q
theorem op_sub:OpR X (binaryOp .Sub) (rI0 fun i j => .int (i - j)):=opI0 fun _ _ _ _ _ _ _ q=>sub_int q
theorem op_mul:OpR X (binaryOp .Mult) (rI CMul fun i j => .int (i * j)):=opI fun _ _ _ _ _ _ _ hc q=>mul_int q hc.ok
theorem op_fdiv:OpR X (binaryOp .FloorDiv) (rI CDiv fun i j => .int (i / j)):=opI fun i j _ _ _ _ _ hc q=>by
 have h1:(0:Int) < j:=hc.1
 have h2:j < 1073741824:=hc.2
 exact floordiv_int (by omega) (by rw[Int.fdiv_eq_ediv_of_nonneg i (by omega)];exact q) (.inl (PyProof.noPylong_small (by omega)))
theorem op_mod:OpR X (binaryOp .Mod) (rI (fun _ j=>0 < j) fun i j => .int (i % j)):=opI fun i j _ _ _ _ _ hc q=>by
 have h1:(0:Int) < j:=hc
 exact mod_int' (by omega) (by rw[Int.fmod_eq_emod_of_nonneg i (by omega)];exact q)
theorem unI {f:Value->Sem Value} {g:Int->Int}
  (rule:∀ (i:Int) (t:Tok) (s:Shared) (Q:Value->Shared->Prop) (E:Value->Shared->Prop),Q (.int (g i) s.toks) { s with toks:=s.toks+1 }->wpAny (model X.prog X.w) X.A (f (.int i t)) Q E s):
  UnR X f (rU fun i => .int (g i)):=by
 intro pins s σ H x v Q I rx h
 obtain ⟨i,rfl,q⟩:=h
 obtain ⟨t,rfl⟩:=rx
 exact rule i t s _ _ ⟨.int (g i),H,I.tok _,⟨_,rfl⟩,q⟩
theorem un_neg:UnR X (unaryOp .USub) (rU fun i => .int (-i)):=unI fun _ _ _ _ _ q=>neg_int q
end
def scal:V->V->Bool
 | .non, .non=>true | .non, .int _=>true | .int _, .non=>true | .non, .bl _=>true | .bl _, .non=>true | .non, .str _=>true | .str _, .non=>true
 | .int _, .int _=>true | .bl _, .bl _=>true | .str _, .str _=>true | .byt _, .byt _=>true
 | .int _, .str _=>true | .str _, .int _=>true | .bl _, .str _=>true | .str _, .bl _=>true
 |_,_=>false
def rEq:R2:=fun x y H Q=>scal x y=true/\Q (.bl (decide (x=y))) H
def rNe:R2:=fun x y H Q=>scal x y=true/\Q (.bl (!decide (x=y))) H
theorem dec_int {i j:Int}:decide (V.int i=V.int j)=(i==j):=by
 rw[Bool.eq_iff_iff]
 simp
theorem dec_bl {i j:Bool}:decide (V.bl i=V.bl j)=(i==j):=by
 rw[Bool.eq_iff_iff]
 simp
theorem dec_str {i j:Str}:decide (V.str i=V.str j)=(i==j):=by
 rw[Bool.eq_iff_iff]
 simp
theorem dec_byt {i j:Array UInt8}:decide (V.byt i=V.byt j)=(i.toList==j.toList):=by
 rw[Bool.eq_iff_iff]
 cases i
 cases j
 simp
section
variable {X:Cx} {a b c:Expr} {ta tb tc:TE} {pos:Pos}
theorem fin_bl {pins:List (Addr×Obj)} {σ:St} {H:Hp} {s:Shared} {Q:VK} {k k':Bool} (I:Inv X pins σ H s) (q:Q (.bl k) H) (e:k=k'):EP X pins σ Q (.bool k') s:=by
 subst e
 exact ⟨.bl k,H,I,rfl,q⟩
theorem op_eq:OpR X (compareOp .Eq) rEq:=by
 intro pins s σ H x y v u Q I rx ry h
 obtain ⟨hs,q⟩:=h
 cases x with
 |non=>
  cases rx
  cases y with
  |non=>cases ry;exact PySem.EqNone.eq_none_none (fin_bl I q (by simp))
  |bl j=>cases ry;exact PySem.EqNone.eq_none_bool (fin_bl I q (by simp))
  |int j=>obtain ⟨t',rfl⟩:=ry;exact PySem.EqNone.eq_none_int (fin_bl I q (by simp))
  |str j=>obtain ⟨t',rfl⟩:=ry;exact PySem.EqNone.eq_none_str (fin_bl I q (by simp))
  |_=>exact absurd (show false=true from hs) Bool.false_ne_true
 |bl i=>
  cases rx
  cases y with
  |non=>cases ry;exact PySem.EqNone.eq_bool_none (fin_bl I q (by simp))
  |bl j=>cases ry;exact eq_bool (fin_bl I q dec_bl)
  |str j=>obtain ⟨t',rfl⟩:=ry;exact PySem.EqMixed.eq_bool_str (fin_bl I q (by simp))
  |_=>exact absurd (show false=true from hs) Bool.false_ne_true
 |int i=>
  obtain ⟨t,rfl⟩:=rx
  cases y with
  |non=>cases ry;exact PySem.EqNone.eq_int_none (fin_bl I q (by simp))
  |int j=>obtain ⟨t',rfl⟩:=ry;exact eq_int (fin_bl I q dec_int)
  |str j=>obtain ⟨t',rfl⟩:=ry;exact PySem.EqMixed.eq_int_str (fin_bl I q (by simp))
  |_=>exact absurd (show false=true from hs) Bool.false_ne_true
 |str i=>
  obtain ⟨t,rfl⟩:=rx
  cases y with
  |non=>cases ry;exact PySem.EqNone.eq_str_none (fin_bl I q (by simp))
  |bl j=>cases ry;exact PySem.EqMixed.eq_str_bool (fin_bl I q (by simp))
  |int j=>obtain ⟨t',rfl⟩:=ry;exact PySem.EqMixed.eq_str_int (fin_bl I q (by simp))
  |str j=>obtain ⟨t',rfl⟩:=ry;exact eq_str (fin_bl I q dec_str)
  |_=>exact absurd (show false=true from hs) Bool.false_ne_true
 |byt i=>
  obtain ⟨t,rfl⟩:=rx
  cases y with
  |byt j=>obtain ⟨t',rfl⟩:=ry;exact PySem.W.eq_bytes (fin_bl I q dec_byt)
  |_=>exact absurd (show false=true from hs) Bool.false_ne_true
 |_=>cases y <;> exact absurd (show false=true from hs) Bool.false_ne_true
theorem op_ne:OpR X (compareOp .NotEq) rNe:=by
 intro pins s σ H x y v u Q I rx ry h
 obtain ⟨hs,q⟩:=h
 cases x with
 |non=>
  cases rx
  cases y with
  |non=>cases ry;exact PySem.EqNone.ne_none_none (fin_bl I q (by simp))
  |bl j=>cases ry;exact PySem.EqNone.ne_none_bool (fin_bl I q (by simp))
  |int j=>obtain ⟨t',rfl⟩:=ry;exact PySem.EqNone.ne_none_int (fin_bl I q (by simp))
  |str j=>obtain ⟨t',rfl⟩:=ry;exact PySem.EqNone.ne_none_str (fin_bl I q (by simp))
  |_=>exact absurd (show false=true from hs) Bool.false_ne_true
 |bl i=>
  cases rx
  cases y with
  |non=>cases ry;exact PySem.EqNone.ne_bool_none (fin_bl I q (by simp))
  |bl j=>cases ry;exact ne_bool (fin_bl I q (congrArg not dec_bl))
  |str j=>obtain ⟨t',rfl⟩:=ry;exact PySem.EqMixed.ne_bool_str (fin_bl I q (by simp))
  |_=>exact absurd (show false=true from hs) Bool.false_ne_true
 |int i=>
  obtain ⟨t,rfl⟩:=rx
  cases y with
  |non=>cases ry;exact PySem.EqNone.ne_int_none (fin_bl I q (by simp))
  |int j=>obtain ⟨t',rfl⟩:=ry;exact ne_int (fin_bl I q (congrArg not dec_int))
  |str j=>obtain ⟨t',rfl⟩:=ry;exact PySem.EqMixed.ne_int_str (fin_bl I q (by simp))
  |_=>exact absurd (show false=true from hs) Bool.false_ne_true
 |str i=>
  obtain ⟨t,rfl⟩:=rx
  cases y with
  |non=>cases ry;exact PySem.EqNone.ne_str_none (fin_bl I q (by simp))
  |bl j=>cases ry;exact PySem.EqMixed.ne_str_bool (fin_bl I q (by simp))
  |int j=>obtain ⟨t',rfl⟩:=ry;exact PySem.EqMixed.ne_str_int (fin_bl I q (by simp))
  |str j=>obtain ⟨t',rfl⟩:=ry;exact ne_str (fin_bl I q (congrArg not dec_str))
  |_=>exact absurd (show false=true from hs) Bool.false_ne_true
 |byt i=>
  obtain ⟨t,rfl⟩:=rx
  cases y with
  |byt j=>obtain ⟨t',rfl⟩:=ry;exact PySem.W.ne_bytes (fin_bl I q (congrArg not dec_byt))
  |_=>exact absurd (show false=true from hs) Bool.false_ne_true
 |_=>cases y <;> exact absurd (show false=true from hs) Bool.false_ne_true
theorem op_lt:OpR X (compareOp .Lt) (rI0 fun i j => .bl (decide (i < j))):=opB0 fun _ _ _ _ _ _ _ q=>lt_int q
theorem op_le:OpR X (compareOp .LtE) (rI0 fun i j => .bl (decide (i<=j))):=opB0 fun _ _ _ _ _ _ _ q=>le_int q
theorem op_gt:OpR X (compareOp .Gt) (rI0 fun i j => .bl (decide (j < i))):=opB0 fun _ _ _ _ _ _ _ q=>gt_int q
theorem op_in_str:OpR X (compareOp .In) (fun x y H Q=>∃ i j,x = .str i/\y = .str j/\Q (.bl (!(Builtin.Str.occurrences j i 0 j.length 1).isEmpty)) H):=by
 intro pins s σ H x y v u Q I rx ry h
 obtain ⟨i,j,rfl,rfl,q⟩:=h
 obtain ⟨t,rfl⟩:=rx
 obtain ⟨t',rfl⟩:=ry
 exact in_str (fin_bl I q rfl)
theorem op_isN:OpR X (compareOp .Is) (fun x y H Q=>y = .non/\Q (.bl (decide (x = .non))) H):=by
 intro pins s σ H x y v u Q I rx ry h
 obtain ⟨rfl,q⟩:=h
 cases ry
 refine is_none_gen (fin_bl I q ?_)
 cases x <;> first
  |(cases rx;rfl)
  |(obtain ⟨t,rfl⟩:=rx;rfl)
theorem op_notN:OpR X (compareOp .IsNot) (fun x y H Q=>y = .non/\Q (.bl (!decide (x = .non))) H):=by
 intro pins s σ H x y v u Q I rx ry h
 obtain ⟨rfl,q⟩:=h
 cases ry
 refine isnot_none_gen (fin_bl I q ?_)
 cases x <;> first
  |(cases rx;rfl)
  |(obtain ⟨t,rfl⟩:=rx;rfl)
theorem nomark (b:Expr) {op:CmpOp} (h:op ≠ .In:=by decide) (h2:op ≠ .NotIn:=by decide):behindInMarks op b=false:=by
 have e1:(op==CmpOp.In)=false:=by cases op <;> first |rfl |exact absurd rfl h
 have e2:(op==CmpOp.NotIn)=false:=by cases op <;> first |rfl |exact absurd rfl h2
 cases b <;> simp[behindInMarks,e1,e2]
theorem pe_cmpR {op:CmpOp} {r:R2} (ho:OpR X (compareOp op) r) (ha:PE X a ta) (hb:PE X b tb) (hm:behindInMarks op b=false):PE X (.Compare a [op] [b] pos) (tOp r ta tb):=by
 intro pins s σ H Q I h
 exact wpAny_Compare1 (binT ha hb I h fun v u s2 x y H2 I2 rx ry q=>ho pins s2 σ H2 x y v u Q I2 rx ry q) hm
def tTest (t:TE):TT:=fun σ H Q=>t σ H fun x H'=>∃ k,x = .bl k/\Q k H'
theorem pt_cmpR {op:CmpOp} {r:R2} (ho:OpR X (compareOp op) r) (ha:PE X a ta) (hb:PE X b tb) (hm:behindInMarks op b=false):PT X (.Compare a [op] [b] pos) (tTest (tOp r ta tb)):=by
 intro pins s σ H Q I h
 refine wpAny_isTrue_Compare1 (thn (ha pins s σ H _ I h) fun v s1 ⟨x,H1,I1,r1,q1⟩=>thn (hb pins s1 σ H1 _ I1 q1) fun u s2 ⟨y,H2,I2,r2,q2⟩=>
  thn (ho pins s2 σ H2 x y v u _ I2 r1 r2 q2) fun c s3 ⟨z,H3,I3,r3,k,e,q3⟩=>?_) hm
 subst e
 cases r3
 exact wpAny_truthy_bool ⟨H3,I3,q3⟩
theorem line63:(sizeLine:Nat) < 2 ^ 63:=by rw[sizeLine_eq];decide
theorem op_add_str:OpR X (binaryOp .Add) (fun x y H Q=>∃ i j,x = .str i/\y = .str j/\i.length+j.length<=sizeLine/\Q (.str (i++j)) H):=by
 intro pins s σ H x y v u Q I rx ry h
 obtain ⟨i,j,rfl,rfl,hz,q⟩:=h
 obtain ⟨t,rfl⟩:=rx
 obtain ⟨t',rfl⟩:=ry
 exact wpAny_with_toks (n:=1) I.tk (add_str (fun t' tk htk=>⟨.str (i++j),H,I.tok _ htk,⟨_,rfl⟩,q⟩) hz)
theorem vals1 {x:V} {us:List Value} (r:Vals [x] us):∃ u,us=[u]/\RelV x u:=by
 cases r with
 |cons r1 r2=>cases r2;exact ⟨_,rfl,r1⟩
theorem call_int1:CallR X (.type "int") (fun xs H Q=>(∃ i,xs=[.int i]/\Q (.int i) H) ∨ ∃ k,xs=[.bl k]/\Q (.int (if k then 1 else 0)) H):=by
 intro pins s σ H xs us Q I r h
 rcases h with ⟨i,rfl,q⟩ |⟨k,rfl,q⟩
 ·obtain ⟨u,rfl,t,rfl⟩:=vals1 r
  exact call_int_int ⟨.int i,H,I,⟨_,rfl⟩,q⟩
 ·obtain ⟨u,rfl,r1⟩:=vals1 r
  cases r1
  exact call_int_bool ⟨.int (if k then 1 else 0),H,I.tok _,⟨_,rfl⟩,q⟩
end
end L2
namespace L2
open PySem PySem.Spec PyProof.Rows
structure ObjM (h:Heap) (x dx C:Addr) (mA:Str->Option Value):Prop where
 obj:h.get? x=some (PySem.W.instObj C dx)
 ns:h.Ns1 dx mA
 ne:dx≠x
theorem lookIn_ns {h:Heap} {dx:Addr} {mA:Str->Option Value} (n:h.Ns1 dx mA):∃ od,h.get? dx=some od/\∀ name,PySem.W.lookIn name od=some (mA name):=by
 obtain ⟨o,es,ep,ho,hd,hk,_,hm⟩:=n
 refine ⟨o,ho,fun name=>?_⟩
 have e:=hm name
 unfold nsFind findBy at e
 rw[<- Array.find?_toList] at e
 unfold PySem.W.lookIn
 rw[hd]
 dsimp only
 split
 ·rename_i y q
  rw[q] at e
  exact congrArg some e
 ·rename_i q
  rw[q] at e
  have a:es.toList.any (·.refKey)=false:=by
   rw[List.any_eq_false]
   intro y hy
   obtain ⟨z,t,hkey⟩:=hk y (Array.mem_toList_iff.mp hy)
   simp[DictEntry.refKey,hkey]
  have a':¬ es.toList.any (·.refKey)=true:=by rw[a];exact Bool.false_ne_true
  rw[if_neg a']
  exact congrArg some e
theorem ObjM.look {h:Heap} {x dx C:Addr} {mA:Str->Option Value} (I:ObjM h x dx C mA):∃ od,PySem.W.InstAt h x (PySem.W.instObj C dx) C (some od)/\∀ name,PySem.W.lookIn name od=some (mA name):=
 let ⟨od,ho,hl⟩:=lookIn_ns I.ns
 ⟨od,⟨I.obj,rfl,rfl,ho⟩,hl⟩
section
variable {prog:Program} {w:World} {A:Around} {E:Value->Shared->Prop} {s:Shared} {K:PySem.W.Frag} {x dx C f:Addr} {mA:Str->Option Value} {name:Str} {v:Value}
theorem get_map {expr:Bool} {Q:Value->Shared->Prop} (X:K.In s.heap) (I:ObjM s.heap x dx C mA) (hg:PySem.W.plainGet K C name=true) (hh:PySem.W.hasDictIn K C=true)
  (ha:PySem.W.findIn K (.ref C) name=some none) (hv:mA name=some v) (hv':PySem.W.handedIn v=true) (h:Q v { s with toks:=s.toks+1 }):
  wpAny (model prog w) A (getAttr (.ref x) name expr) Q E s:=by
 obtain ⟨od,J,hl⟩:=I.look
 exact PySem.W.get_value X J (PySem.W.plainGet_of hg).1 (PySem.W.findObj_own hh ha rfl (by rw[hl,hv])) hv' h
theorem get_meth {pl:Sem Bool} {Q:Value×List Value->Shared->Prop} (X:K.In s.heap) (I:ObjM s.heap x dx C mA) (hg:PySem.W.plainGet K C name=true)
  (hf:PySem.W.findIn K (.ref C) name=some (some (.ref f))) (ht:PySem.W.isFn K (.ref f)=true) (hv:mA name=none) (h:Q (.ref f,[.ref x]) s):
  wpAny (model prog w) A (getMethod (.ref x) name pl) Q E s:=by
 obtain ⟨od,J,hl⟩:=I.look
 exact PySem.W.method_fn X J (PySem.W.plainGet_of hg).1 (PySem.W.plainGet_of hg).2 hf (beq_iff_eq.mp ht) (by show (PySem.W.lookIn name od).map (·.isSome)=some false;rw[hl,hv];rfl) h
theorem set_map {ns:List Str} {Q:Unit->Shared->Prop} (X:K.In s.heap) (I:ObjM s.heap x dx C mA)
  (hs:PySem.W.findIn K (.ref C) "__setattr__"=some (some (.builtin "object.__setattr__"))) (hp:PySem.W.plainOver K C=true) (ht:PySem.W.takerIn K C name=some none) (hh:PySem.W.hasDictIn K C=true)
  (hw:PySem.Within mA ns) (hsz:ns.length<=sizeLine)
  (h:∀ h',ObjM h' x dx C (fun y=>if y=name then some v else mA y)->Heap.SameBut dx s.heap h'->Q () { s with heap:=h',toks:=s.toks+2 }):
  wpAny (model prog w) A (setAttr (.ref x) name v) Q E s:=by
 obtain ⟨od,J,hl⟩:=I.look
 refine PySem.W.set_plain X J hs (PySem.W.osa_open (s:={ s with toks:=s.toks+1 }) (r:=none) X J hp ht fun b=>?_)
 obtain ⟨cd,hc,hd'⟩:=PySem.W.any_some hh
 have hx:s.heap.get? x=some ⟨.ref C,some dx, .plain,#[]⟩:=I.obj
 refine wpAny_bind (wpAny_pure (wpAny_bind (wpAny_bind (wpAny_loadPart hx (wpAny_bind (PySem.W.Looks.here (s:={ s with toks:=s.toks+1 }) (PySem.W.looks_clsIn X hc) ?_))))))
 rw[hd']
 refine wpAny_pure (a:=some dx) (wpAny_bind (wpAny_pure (wpAny_bind ?_)))
 refine wpAny_nsSet1 (s:={ s with toks:=s.toks+1 }) I.ns fun h' hn2 hs2=>?_
 obtain ⟨oD,esD,epD,hoD,hdD,hcD⟩:=hn2.count (PySem.Within.cons name v hw)
 refine wpAny_bind (wpAny_lookBehind hoD (by rw[hdD];exact pastItsLine_dict (Nat.le_trans hcD (by rw[List.length_cons];omega))) ?_)
 exact wpAny_pure (h _ ⟨(hs2.2 _ (Ne.symm I.ne)).trans I.obj,hn2,I.ne⟩ hs2)
theorem make_map {R:Result->Shared->Prop} {vs:List Value} {kw:List (Str×Value)} (X:K.In s.heap) (hm:PySem.W.makesIn K C=true)
  (hi:PySem.W.findIn K (.ref C) "__init__"=some (some (.ref f))) (hf:PySem.W.typeIn K (.ref f)=some (.type "function"))
  (h:codeAny (model prog w) (A.under (.builtin "type.__call__" ⟨.ref C::vs,kw⟩)) (.call (.ref f) ⟨.ref (s.heap.objs.size+1)::vs,kw⟩) (PySem.W.InitBack (s.heap.objs.size+1) R)
   { s with heap:=(s.heap.push PySem.W.emptyDict).push (PySem.W.instObj C s.heap.objs.size) }):
  codeAny (model prog w) A (.call (.ref C) ⟨vs,kw⟩) R s:=by
 obtain ⟨hh,g,d,t,os⟩:=s
 exact PySem.W.make_core (PySem.W.makes_of X hm) (PySem.W.looks_findIn X hi) (fun self=>PySem.W.bind_fn X self hf) (.inl rfl) h
end
def putF (f:Str) (v:V):List (Str×V)->List (Str×V)
 | []=>[(f,v)]
 |(g,x)::r=>if g=f then (g,v)::r else (g,x)::putF f v r
theorem lookup_putF (f g:Str) (v:V):∀ fs:List (Str×V),(putF f v fs).lookup g=if g=f then some v else fs.lookup g
 | []=>by
  show List.lookup g [(f,v)]=_
  by_cases h:g=f
  ·have hb:(g==f)=true:=beq_iff_eq.mpr h
   simp only[List.lookup,hb,if_pos h]
  ·have hb:(g==f)=false:=beq_eq_false_iff_ne.mpr h
   simp only[List.lookup,hb,if_neg h]
 |(k,x)::r=>by
  have ih:=lookup_putF f g v r
  rw[show putF f v ((k,x)::r)=(if k=f then (k,v)::r else (k,x)::putF f v r) from rfl]
  by_cases hk:k=f
  ·rw[if_pos hk]
   by_cases h:g=k
   ·have hb:(g==k)=true:=beq_iff_eq.mpr h
    simp only[List.lookup,hb,if_pos (h.trans hk)]
   ·have hb:(g==k)=false:=beq_eq_false_iff_ne.mpr h
    simp only[List.lookup,hb,if_neg (fun e:g=f=>h (e.trans hk.symm))]
  ·rw[if_neg hk]
   by_cases h:g=k
   ·have hb:(g==k)=true:=beq_iff_eq.mpr h
    simp only[List.lookup,hb,if_neg (fun e:g=f=>hk (h.symm.trans e))]
   ·have hb:(g==k)=false:=beq_eq_false_iff_ne.mpr h
    simp only[List.lookup,hb]
    exact ih
theorem keys_putF (f:Str) (v:V):∀ fs:List (Str×V),f∈(putF f v fs).map (·.1)/\∀ g,g∈fs.map (·.1)->g∈(putF f v fs).map (·.1)
 | []=>⟨by simp[putF],fun g h=>by simp at h⟩
 |(k,x)::r=>by
  obtain ⟨i1,i2⟩:=keys_putF f v r
  rw[show putF f v ((k,x)::r)=(if k=f then (k,v)::r else (k,x)::putF f v r) from rfl]
  by_cases hk:k=f
  ·rw[if_pos hk]
   subst hk
   exact ⟨by simp,fun g h=>by simpa using h⟩
  ·rw[if_neg hk]
   refine ⟨?_,fun g h=>?_⟩
   ·rw[List.map_cons]
    exact List.mem_cons_of_mem _ i1
   ·rw[List.map_cons] at h ⊢
    rcases List.mem_cons.mp h with e |e
    ·exact List.mem_cons.mpr (.inl e)
    ·exact List.mem_cons_of_mem _ (i2 g e)
theorem length_putF (f:Str) (v:V):∀ fs:List (Str×V),(putF f v fs).length<=fs.length+1
 | []=>by simp[putF]
 |(k,x)::r=>by
  have ih:=length_putF f v r
  rw[show putF f v ((k,x)::r)=(if k=f then (k,v)::r else (k,x)::putF f v r) from rfl]
  by_cases hk:k=f
  ·rw[if_pos hk,List.length_cons,List.length_cons];omega
  ·rw[if_neg hk,List.length_cons,List.length_cons];omega
theorem RelO.some_of {v:V} {o:Option Value} (r:RelO (some v) o):∃ u,o=some u/\RelV v u:=by
 cases o with
 |none=>exact (show False from r).elim
 |some u=>exact ⟨u,rfl,r⟩
theorem RelO.none_of {o:Option Value} (r:RelO none o):o=none:=by
 cases o with
 |none=>rfl
 |some u=>exact (show False from r).elim
theorem handed_of {v:V} {u:Value} (r:RelV v u):PySem.W.handedIn u=true:=by
 cases v with
 |non=>cases (show u=Value.none from r);rfl
 |bl b=>cases (show u=Value.bool b from r);rfl
 |int i=>obtain ⟨t,e⟩:=(show ∃ t,u=Value.int i t from r);cases e;rfl
 |str x=>obtain ⟨t,e⟩:=(show ∃ t,u=Value.str x t from r);cases e;rfl
 |byt b=>obtain ⟨t,e⟩:=(show ∃ t,u=Value.bytes b t from r);cases e;rfl
 |flt b=>obtain ⟨t,e⟩:=(show ∃ t,u=Value.float b t from r);cases e;rfl
 |ref a=>cases (show u=Value.ref a from r);rfl
 |ty n=>cases (show u=Value.type n from r);rfl
section
variable {P:Program} {w:World} {H H':Hp} {h h':Heap} {a C dx:Addr} {fs fs':List (Str×V)}
theorem ins_get (hok:HOk P w H h) (e:H a=some (.ins C dx fs)):∃ mA,ObjM h a dx C mA/\(∀ f,RelO (fs.lookup f) (mA f))/\PySem.Within mA (fs.map (·.1))/\fs.length<=1000/\H dx=some (.own a):=by
 obtain ⟨d,z,ne,ob,mA,n,r,q⟩:=(show ObjOk P w H h a (.ins C dx fs) from hok a _ e)
 exact ⟨mA,⟨ob,n,ne⟩,r,q,z,d⟩
end
structure Cls (K:PySem.W.Frag) (C:Addr):Prop where
 pg:PySem.W.plainGet K C Str.empty=true
 hd:PySem.W.hasDictIn K C=true
 po:PySem.W.plainOver K C=true
 sa:PySem.W.findIn K (.ref C) "__setattr__"=some (some (.builtin "object.__setattr__"))
theorem Cls.get {K:PySem.W.Frag} {C:Addr} (c:Cls K C) (f:Str):PySem.W.plainGet K C f=true:=c.pg
def NoAttr (K:PySem.W.Frag) (C:Addr) (f:Str):Prop:=PySem.W.findIn K (.ref C) f=some none
theorem NoAttr.taker {K:PySem.W.Frag} {C:Addr} {f:Str} (n:NoAttr K C f):PySem.W.takerIn K C f=some none:=by
 unfold PySem.W.takerIn
 rw[show PySem.W.findIn K (.ref C) f=some none from n]
 rfl
structure Meth (K:PySem.W.Frag) (C:Addr) (m:Str) (f:Addr):Prop where
 at_:PySem.W.findIn K (.ref C) m=some (some (.ref f))
 fn:PySem.W.isFn K (.ref f)=true
 kp:PySem.W.keepIn K (.ref f)=true
section
variable {X:Cx} {pins:List (Addr×Obj)} {σ:St} {H:Hp} {s:Shared} {a C dx:Addr} {fs:List (Str×V)} {f:Str} {v:V} {A:Around} {E:Value->Shared->Prop}
theorem getattr_ok {b:Bool} {Q:Value->Shared->Prop} (I:Inv X pins σ H s) (e:H a=some (.ins C dx fs)) (c:Cls X.K C) (n:NoAttr X.K C f) (l:fs.lookup f=some v)
  (h:∀ u s',Inv X pins σ H s'->RelV v u->Q u s'):wpAny (model X.prog X.w) A (getAttr (.ref a) f b) Q E s:=by
 obtain ⟨mA,O,r,_,_,_⟩:=ins_get I.hok e
 obtain ⟨u,hu,ru⟩:=RelO.some_of (v:=v) (o:=mA f) (by rw[<- l];exact r f)
 exact get_map I.kIn O (c.get f) c.hd n hu (handed_of ru) (h u _ (I.tok _) ru)
theorem getmeth_ok {m:Str} {g:Addr} {pl:Sem Bool} {Q:Value×List Value->Shared->Prop} (I:Inv X pins σ H s) (e:H a=some (.ins C dx fs)) (c:Cls X.K C) (k:Meth X.K C m g) (l:fs.lookup m=none)
  (h:Q (.ref g,[.ref a]) s):wpAny (model X.prog X.w) A (getMethod (.ref a) m pl) Q E s:=by
 obtain ⟨mA,O,r,_,_,_⟩:=ins_get I.hok e
 have hn:mA m=none:=RelO.none_of (by rw[<- l];exact r m)
 exact get_meth I.kIn O (c.get m) k.at_ k.fn hn h
theorem setattr_ok {y:V} {u:Value} {Q:Unit->Shared->Prop} (I:Inv X pins σ H s) (e:H a=some (.ins C dx fs)) (c:Cls X.K C) (n:NoAttr X.K C f) (hl:fs.length < 1000) (ry:RelV y u)
  (h:∀ s',Inv X pins σ (upd H a (.ins C dx (putF f y fs))) s'->Q () s'):wpAny (model X.prog X.w) A (setAttr (.ref a) f u) Q E s:=by
 obtain ⟨mA,O,r,wi,_,ho⟩:=ins_get I.hok e
 have hz:(fs.map (·.1)).length<=sizeLine:=by rw[List.length_map,sizeLine_eq];omega
 refine set_map I.kIn O c.sa c.po n.taker c.hd wi hz fun h' O' sb=>h _ ?_
 have hd:∃ o,h'.get? dx=some o:=let ⟨o,_,_,e',_⟩:=O'.ns;⟨o,e'⟩
 refine I.write (x:=a) (e:=dx) (by rw[e];exact True.intro) (.inr ho) (fun b q hb z=>(sb.2 b hb).trans z) hd ?_
 refine ⟨by rw[upd_ne O.ne];exact ho,?_,O.ne,O'.obj,_,O'.ns,fun g=>?_,fun g hg=>?_⟩
 ·have:=length_putF f y fs;omega
 ·show RelO ((putF f y fs).lookup g) (if g=f then some u else mA g)
  rw[lookup_putF]
  by_cases q:g=f
  ·rw[if_pos q,if_pos q];exact ry
  ·rw[if_neg q,if_neg q];exact r g
 ·by_cases q:g=f
  ·rw[q];exact (keys_putF f y fs).1
  ·refine (keys_putF f y fs).2 g (wi g fun z=>hg ?_)
   show (if g=f then some u else mA g)=none
   rw[if_neg q];exact z
theorem Inv.made (I:Inv X pins σ H s):Inv X pins σ (upd (upd H s.heap.objs.size (.own (s.heap.objs.size+1))) (s.heap.objs.size+1) (.ins C s.heap.objs.size []))
  { s with heap:=(s.heap.push PySem.W.emptyDict).push (PySem.W.instObj C s.heap.objs.size) }:=by
 have e1:(s.heap.push PySem.W.emptyDict).get? s.heap.objs.size=some PySem.W.emptyDict:=Heap.get?_push_size s.heap rfl
 have e2:((s.heap.push PySem.W.emptyDict).push (PySem.W.instObj C s.heap.objs.size)).get? (s.heap.objs.size+1)=some (PySem.W.instObj C s.heap.objs.size):=by
  have:=Heap.get?_push_size (s.heap.push PySem.W.emptyDict) (o:=PySem.W.instObj C s.heap.objs.size) rfl
  rwa [Heap.size_push] at this
 have e3:(s.heap.push PySem.W.emptyDict).Ns s.heap.objs.size (fun _=>none):=⟨PySem.W.emptyDict,#[],_,e1,rfl,(fun e he=>absurd he (by simp)),fun _=>rfl⟩
 have I1:=I.laid (a:=s.heap.objs.size) (o := .own (s.heap.objs.size+1)) (h':=s.heap.push PySem.W.emptyDict) (t':=s.toks) (fun b u q=>Heap.get?_push_of_some _ q) (Nat.le_refl _) ⟨_,e1⟩
 refine I1.laid (a:=s.heap.objs.size+1) (o := .ins C s.heap.objs.size []) (t':=s.toks) (fun b u q=>Heap.get?_push_of_some _ q) (Nat.le_of_eq (Heap.size_push _ _)) ?_
 have ne:s.heap.objs.size≠s.heap.objs.size+1:=Nat.ne_of_lt (Nat.lt_succ_self _)
 refine ⟨by rw[upd_ne ne,upd_same],Nat.zero_le _,ne,e2,fun _=>none,(Heap.Ns1.of_empty e3).at fun o q=>Heap.get?_push_of_some _ q,fun _=>True.intro,fun y hy=>absurd rfl hy⟩
theorem attr_of {prog:Program} {w:World} {env:Env} {e:Expr} {f:Str} {pos:Pos} {s:Shared} {Q:Value->Shared->Prop} (hb:attributeBase e f env (eval e env)=eval e env)
  (h:wpAny (model prog w) A (eval e env) (fun o s₁=>wpAny (model prog w) A (getAttr o f true) Q E s₁) E s):wpAny (model prog w) A (eval (.Attribute e f pos) env) Q E s:=
 Attribute_any_ h (by rw[arm_eval_Attribute,hb])
end
def tFld (K:PySem.W.Frag) (ta:TE) (f:Str):TE:=fun σ H Q=>ta σ H fun x H1=>∃ a C dx fs v,x = .ref a/\H1 a=some (.ins C dx fs)/\Cls K C/\NoAttr K C f/\fs.lookup f=some v/\Q v H1
def sFld (K:PySem.W.Frag) (ta tv:TE) (f:Str):TS:=fun D σ H=>tv σ H fun y H1=>ta σ H1 fun x H2=>∃ a C dx fs,x = .ref a/\H2 a=some (.ins C dx fs)/\Cls K C/\NoAttr K C f/\fs.length < 1000 ∧
 D.nx σ (upd H2 a (.ins C dx (putF f y fs)))
section
variable {X:Cx} {o e value:Expr} {f:Str} {pos pos' tpos:Pos} {ta tv:TE}
theorem pe_fld (he:PE X e ta) (hb:attributeBase e f X.env (eval e X.env)=eval e X.env):PE X (.Attribute e f pos) (tFld X.K ta f):=by
 intro pins s σ H Q I h
 refine attr_of hb (thn (he pins s σ H _ I h) fun u s1 ⟨x,H1,I1,rx,a,C,dx,fs,v,ex,ea,c,n,l,q⟩=>?_)
 subst ex
 obtain rfl:u=Value.ref a:=rx
 exact getattr_ok I1 ea c n l fun u' s2 I2 ru=>⟨v,H1,I2,ru,q⟩
theorem ps_fld (ha:PE X o ta) (hv:PE X value tv) (hs:swapsWith value (some (.Attribute o f pos')) pos.line X.env=pure false):PS X (.Assign [.Attribute o f pos'] value pos) (sFld X.K ta tv f):=by
 intro pins s σ H D I h
 refine plainObj_wpAny_Assign_Attribute (thn (hv pins s σ H _ I h) fun u s1 ⟨y,H1,I1,ry,q⟩=>thn (ha pins s1 σ H1 _ I1 q) fun ov s2 ⟨x,H2,I2,rx,a,C,dx,fs,ex,ea,c,n,l,q2⟩=>?_) hs
 subst ex
 obtain rfl:ov=Value.ref a:=rx
 exact setattr_ok I2 ea c n l ry fun s3 I3=>⟨σ,_,I3,q2⟩
end
section
variable {X:Cx} {pins:List (Addr×Obj)} {σ:St} {H:Hp} {s:Shared} {A:Around} {E:Value->Shared->Prop} {Q:Value->Shared->Prop} {c:Value} {b:Bool}
inductive TyOf (K:PySem.W.Frag) (H:Hp):V->Value->Prop where
 |non:TyOf K H .non (.type "NoneType")
 |bl (x:Bool):TyOf K H (.bl x) (.type "bool")
 |int (i:Int):TyOf K H (.int i) (.type "int")
 |str (x:Str):TyOf K H (.str x) (.type "str")
 |flt (x:UInt64):TyOf K H (.flt x) (.type "float")
 |lst {a:Addr} {xs:List V} (e:H a=some (.lst xs)):TyOf K H (.ref a) (.type "list")
 |frz {a:Addr} {o:Obj} {xs:List V} (e:H a=some (.frz o (.lst xs))):TyOf K H (.ref a) (.type "list")
 |tup {a:Addr} {xs:List V} (e:H a=some (.tup xs)):TyOf K H (.ref a) (.type "tuple")
 |dK {a:Addr} {kvs:List (Key×V)} (e:H a=some (.dK kvs)):TyOf K H (.ref a) (.type "dict")
 |dT {a:Addr} {kvs:List (List Key×V)} (e:H a=some (.dT kvs)):TyOf K H (.ref a) (.type "dict")
 |ins {a C dx:Addr} {fs:List (Str×V)} (e:H a=some (.ins C dx fs)) (cl:Cls K C) (ha:PySem.W.findIn K (.ref C) "__class__"=some (some (.builtin "object.__class__")))
   (hn:PySem.W.specialIn K (.builtin "object.__class__") "__get__"=some (some (.builtin "getset_descriptor.__get__"))) (htk:PySem.W.takesIn K (.builtin "object.__class__")=some true)
   (hm:PySem.W.mroIn K C (.type "object")=some true):TyOf K H (.ref a) (.ref C)
theorem isinst_ok {x:V} {u t:Value} (I:Inv X pins σ H s) (rx:RelV x u) (ty:TyOf X.K H x t) (e:PySem.W.kitOne X.K t c=some b) (h:∀ tk,Q (.bool b) { s with toks:=tk }):
  wpAny (model X.prog X.w) A (call (.builtin "isinstance") [u,c]) Q E s:=by
 cases ty with
 |non=>cases (show u=Value.none from rx);exact PySem.W.kia_one PySem.W.kitx_none I.kIn True.intro e (fun z=>nomatch z) h
 |bl y=>cases (show u=Value.bool y from rx);exact PySem.W.kia_one PySem.W.kitx_bool I.kIn True.intro e (fun z=>nomatch z) h
 |int i=>obtain ⟨t,q⟩:=(show ∃ t,u=Value.int i t from rx);cases q;exact PySem.W.kia_one PySem.W.kitx_int I.kIn True.intro e (fun z=>nomatch z) h
 |str y=>obtain ⟨t,q⟩:=(show ∃ t,u=Value.str y t from rx);cases q;exact PySem.W.kia_one PySem.W.kitx_str I.kIn True.intro e (fun z=>nomatch z) h
 |flt y=>obtain ⟨t,q⟩:=(show ∃ t,u=Value.float y t from rx);cases q;exact PySem.W.kia_one PySem.W.kitx_float I.kIn True.intro e (fun z=>nomatch z) h
 | @lst a xs ea=>
  cases (show u=Value.ref a from rx)
  obtain ⟨_,_,n,_,h1⟩:=(show ObjOk X.prog X.w H s.heap a (.lst xs) from I.hok a _ ea)
  exact PySem.W.kia_one PySem.W.kitx_list I.kIn ⟨_,h1,rfl⟩ e (fun z=>nomatch z) h
 | @frz a ob xs ea=>
  cases (show u=Value.ref a from rx)
  obtain ⟨_,_,_,n,_,h1⟩:=(show ObjOk X.prog X.w H s.heap a (.frz ob (.lst xs)) from I.hok a _ ea)
  exact PySem.W.kia_one PySem.W.kitx_list I.kIn ⟨_,h1,rfl⟩ e (fun z=>nomatch z) h
 | @tup a xs ea=>
  cases (show u=Value.ref a from rx)
  obtain ⟨_,_,_,p⟩:=(show ObjOk X.prog X.w H s.heap a (.tup xs) from I.hok a _ ea)
  obtain ⟨o,h1,h2,_⟩:=p
  exact PySem.W.kia_one PySem.W.kitx_tuple I.kIn ⟨o,h1,h2⟩ e (fun z=>nomatch z) h
 | @dK a kvs ea=>
  cases (show u=Value.ref a from rx)
  obtain ⟨_,_,vs,_,p⟩:=(show ObjOk X.prog X.w H s.heap a (.dK kvs) from I.hok a _ ea)
  obtain ⟨o,es,ep,h1,h2,_⟩:=p
  exact PySem.W.kia_one PySem.W.kitx_dict I.kIn ⟨o,h1,h2.1⟩ e (fun z=>nomatch z) h
 | @dT a kvs ea=>
  cases (show u=Value.ref a from rx)
  obtain ⟨_,_,xs,_,o,es,ep,h1,h2,_⟩:=(show ObjOk X.prog X.w H s.heap a (.dT kvs) from I.hok a _ ea)
  exact PySem.W.kia_one PySem.W.kitx_dict I.kIn ⟨o,h1,h2.1⟩ e (fun z=>nomatch z) h
 | @ins a C dx fs ea cl ha hn htk hm=>
  cases (show u=Value.ref a from rx)
  obtain ⟨mA,O,_⟩:=ins_get I.hok ea
  obtain ⟨od,J,_⟩:=O.look
  exact PySem.W.kia_one (PySem.W.kitx_own (cl.get _) cl.hd ha hn htk hm) I.kIn J e (fun z=>nomatch z) h
end
end L2
namespace L2
open PySem PySem.Spec PyProof.Rows
structure Room (k:Nat) (A:Around):Prop where
 hd:A.handled=none
 dp:A.depth+3 * k+5 < recursionLimit
 un:A.units+16 * k+200 < cLine
theorem Room.mono {j k:Nat} {A:Around} (r:Room k A) (h:j<=k):Room j A:=⟨r.hd,by have:=r.dp;omega,by have:=r.un;omega⟩
theorem Room.deeper {k:Nat} {A:Around} (r:Room (k+1) A) (env:Env):Room k (A.deeper env):=
 ⟨r.hd,by have:=r.dp;show A.depth+1+3 * k+5 < _;omega,by have:=r.un;show A.units+3+16 * k+200 < _;omega⟩
theorem make_depth {A:Around} {C:Addr} {us:List Value} {kw:List (Str×Value)}:(A.under (.builtin "type.__call__" ⟨.ref C::us,kw⟩)).depth=A.depth+1:=by
 first |rfl |simp[Around.under,Code.weight,Code.isCreation,Code.isGuard,Code.isCaller,Code.frames,Code.isFrame,guardIds]
theorem make_units {A:Around} {C:Addr} {us:List Value} {kw:List (Str×Value)}:(A.under (.builtin "type.__call__" ⟨.ref C::us,kw⟩)).units=A.units+1:=by
 first |rfl |simp[Around.under,Code.cUnits,Code.frames,Code.isFrame]
theorem Room.make {k:Nat} {A:Around} (r:Room (k+1) A) (C:Addr) (us:List Value) (kw:List (Str×Value)):Room k (A.under (.builtin "type.__call__" ⟨.ref C::us,kw⟩)):=
 ⟨r.hd,by have:=r.dp;rw[make_depth];omega,by have:=r.un;rw[make_units];omega⟩
theorem Room.depth {k:Nat} {A:Around} (r:Room k A):A.depth < recursionLimit:=by have:=r.dp;omega
def tNil:TA:=fun _ H Q=>Q [] H
def tCons (ta:TE) (tr:TA):TA:=fun σ H Q=>ta σ H fun x H1=>tr σ H1 fun xs H2=>Q (x::xs) H2
section
variable {X:Cx} {e:Expr} {es:List Expr} {te:TE} {t:TA} {pos:Pos}
theorem pa_nil:PA X [] tNil:=fun _ _ _ _ H Q I h=>Calls.spliced_nil ⟨[],H,I, .nil,h⟩
theorem pa_cons (ha:PE X e te) (hr:PA X es t) (hs:starEach (e::es) X.env=(false,eval e X.env)::starEach es X.env:=by rfl):PA X (e::es) (tCons te t):=by
 intro pos pins s σ H Q I h
 rw[hs]
 show wpAny _ _ (spliced ((false,eval e X.env)::backTo pos (starEach es X.env))) _ _ s
 refine Calls.spliced_cons (thn (ha pins s σ H _ I h) fun u s1 ⟨x,H1,I1,r1,q1⟩=>?_)
 exact thn (hr pos pins s1 σ H1 _ I1 q1) fun us s2 ⟨xs,H2,I2,r2,q2⟩=>⟨x::xs,H2,I2, .cons r1 r2,q2⟩
def tTup (t:TA):TE:=fun σ H Q=>t σ H fun xs H1=>xs.length<=sizeLine/\∀ p,H1 p=none->Q (.ref p) (upd H1 p (.tup xs))
def tLst (t:TA):TE:=fun σ H Q=>t σ H fun xs H1=>xs.length<=sizeLine/\∀ p,H1 p=none->Q (.ref p) (upd H1 p (.lst xs))
theorem pe_tup {x1} (h:PA X es t):PE X (.Tuple es x1 pos) (tTup t):=by
 intro pins s σ H Q I hq
 refine wpAny_Tuple_spliced (thn (h pos pins s σ H _ I hq) fun us s1 ⟨xs,H1,I1,r,z,q⟩=>⟨by rw[<- r.length];exact z,?_⟩)
 have hf:H1 s1.heap.objs.size=none:=I1.hok.fresh (Nat.le_refl _)
 refine ⟨.ref s1.heap.objs.size,upd H1 s1.heap.objs.size (.tup xs),I1.laid (t':=s1.toks) (fun b u e=>Heap.get?_push_of_some _ e) (Nat.le_refl _) ?_,rfl,q _ hf⟩
 exact ⟨z,us,r,⟨_,Heap.get?_push_size _ rfl,rfl,_,rfl⟩⟩
theorem pe_lst (h:PA X es t):PE X (.List es pos) (tLst t):=by
 intro pins s σ H Q I hq
 refine wpAny_List_spliced (thn (h pos pins s σ H _ I hq) fun us s1 ⟨xs,H1,I1,r,z,q⟩=>⟨by rw[<- r.length];exact z,?_⟩)
 have hf:H1 s1.heap.objs.size=none:=I1.hok.fresh (Nat.le_refl _)
 refine ⟨.ref s1.heap.objs.size,upd H1 s1.heap.objs.size (.lst xs),I1.laid (t':=s1.toks) (fun b u e=>Heap.get?_push_of_some _ e) (Nat.le_refl _) ?_,rfl,q _ hf⟩
 exact ⟨z,us,0,r,Heap.get?_push_size _ rfl⟩
end
abbrev Sp:=List V->Hp->VK->XK->Prop
abbrev CXT:=List Env->Hp->Shared->XK->Value->Shared->Prop
structure Env0 (P:Program) (w:World) (K:PySem.W.Frag) (mg:Str->Option Value) (base:Heap) (A:Around) (outer:List Env) (s:Shared) (H:Hp):Prop where
 frames:A.frames=some outer
 mod:Mod K mg base
 bs:∀ b o,base.get? b=some o->s.heap.get? b=some o/\H b=none
 bsz:base.objs.size<=s.heap.objs.size
 funs:s.heap.FunFrames base outer
 frf:∀ b∈frs outer,H b=none
 hok:HOk P w H s.heap
 bare:AllBare s.gens
 tk:0 < s.toks
def CE (outer:List Env) (P:Program) (w:World) (H:Hp) (s:Shared) (Q:VK) (u:Value) (s':Shared):Prop:=
 ∃ v H',s'.os=s.os/\AllBare s'.gens/\Un (frs outer) [] H H' s.heap s'.heap/\HOk P w H' s'.heap/\0 < s'.toks/\RelV v u/\Q v H'
def CR (CX:CXT) (outer:List Env) (P:Program) (w:World) (H:Hp) (s:Shared) (Q:VK) (E:XK) (r:Result) (s':Shared):Prop:=
 match r with
 | .ok (.ret u)=>CE outer P w H s Q u s'
 | .ok _=>False
 | .error e=>CX outer H s E e s'
structure FnOk (P:Program) (w:World) (K:PySem.W.Frag) (mg:Str->Option Value) (base:Heap) (CX:CXT) (k:Nat) (f:Addr) (fd:FuncData) (ps:List Str) (sp:Sp):Prop where
 len:∀ vs H Q E,sp vs H Q E->vs.length=ps.length
 run:∀ (A:Around) (outer:List Env) (s:Shared) (H:Hp) (args:Args) (us:List Value) (vs:List V) (Q:VK) (E:XK),Room k A->Env0 P w K mg base A outer s H->BindsTo s fd args (ps.zip us)->Vals vs us->sp vs H Q E →
  codeAny (model P w) A (.call (.ref f) args) (CR CX outer P w H s Q E) s
theorem FnOk.mono {P:Program} {w:World} {K:PySem.W.Frag} {mg:Str->Option Value} {base:Heap} {CX:CXT} {j k:Nat} {f:Addr} {fd:FuncData} {ps:List Str} {sp:Sp} (F:FnOk P w K mg base CX j f fd ps sp) (h:j<=k):
  FnOk P w K mg base CX k f fd ps sp:=⟨F.len,fun A outer s H args us vs Q E hr=>F.run A outer s H args us vs Q E (hr.mono h)⟩
theorem Env0.make {P:Program} {w:World} {K:PySem.W.Frag} {mg:Str->Option Value} {base:Heap} {A:Around} {outer:List Env} {s:Shared} {H:Hp} (e:Env0 P w K mg base A outer s H) (C:Addr) (us:List Value) (kw:List (Str×Value)):
  Env0 P w K mg base (A.under (.builtin "type.__call__" ⟨.ref C::us,kw⟩)) outer s H:=⟨by first |exact e.frames |(simpa[Around.under,Code.envs,Code.isFrame,pushEnvs] using e.frames),e.mod,e.bs,e.bsz,e.funs,e.frf,e.hok,e.bare,e.tk⟩
section
variable {X:Cx} {pins:List (Addr×Obj)} {σ:St} {H:Hp} {s s':Shared}
theorem Inv.env0 (I:Inv X pins σ H s):Env0 X.prog X.w X.K X.mg X.base X.A X.stack s H:=
 ⟨I.ok.frames,I.ok.mod,I.bs,Nat.le_trans I.ok.bsz I.sz,I.stack,I.stkFree,I.hok,I.bare,I.tk⟩
theorem Inv.after {Q:VK} {u:Value} (I:Inv X pins σ H s) (h:CE X.stack X.prog X.w H s Q u s'):EP X pins σ Q u s':=by
 obtain ⟨v,H',os,bare,un,hok,tk',r,q⟩:=h
 obtain ⟨hh,g,d,t,os'⟩:=s'
 obtain rfl:os'=s.os:=os
 exact ⟨v,H',I.call (h':=hh) (g':=g) (d':=d) (t':=t) (ch:=[]) un hok bare (fun b z=>absurd z (by simp)) tk',r,q⟩
end
def tCall (sp:Sp) (dvs:List V) (E:XK) (t:TA):TE:=fun σ H Q=>t σ H fun vs H1=>sp (vs++dvs) H1 Q E
def tMake (C:Addr) (sp:Sp) (dvs:List V) (E:XK) (t:TA):TE:=fun σ H Q=>t σ H fun vs H1=>∀ x dx,H1 x=none->H1 dx=none->dx≠x →
 sp (.ref x::(vs++dvs)) (upd (upd H1 dx (.own x)) x (.ins C dx [])) (fun v H2=>v = .non/\Q (.ref x) H2) E
def Binds (K:PySem.W.Frag) (fd:FuncData) (ps:List Str) (ds:List Value):Prop:=
 ∀ (s:Shared) (us:List Value),K.In s.heap->(us++ds).length=ps.length->BindsTo s fd ⟨us,[]⟩ (ps.zip (us++ds))
theorem Binds.all {K:PySem.W.Frag} {fd:FuncData} {ps:List Str} (h:∀ us:List Value,us.length=ps.length->bindArgs fd ⟨us,[]⟩=pure (ps.zip us)):Binds K fd ps []:=fun s us _ hl=>by
 rw[List.append_nil] at hl ⊢
 exact .of_eq (h us hl)
def Passes (CX:CXT) (X:Cx) (E:XK):Prop:=∀ (pins:List (Addr×Obj)) (σ:St) (H:Hp) (s:Shared) (e:Value) (s':Shared),Inv X pins σ H s->CX X.stack H s E e s'->X.xe e s'
section
variable {X:Cx} {CX:CXT} {k:Nat} {f C:Addr} {fd:FuncData} {ps:List Str} {sp:Sp} {dvs:List V} {ds:List Value} {E:XK} {x m:Str} {p pos apos:Pos} {e o:Expr} {es:List Expr} {ta:TE} {t:TA}
theorem run_fn {pins:List (Addr×Obj)} {σ:St} {H:Hp} {s:Shared} {Q:VK} {us:List Value} {vs:List V} (F:FnOk X.prog X.w X.K X.mg X.base CX k f fd ps sp) (hr:Room k X.A) (hb:Binds X.K fd ps ds) (hd:Vals dvs ds) (hx:Passes CX X E)
  (I:Inv X pins σ H s) (r:Vals vs us) (h:sp (vs++dvs) H Q E):wpAny (model X.prog X.w) X.A (call (.ref f) us) (EP X pins σ Q) X.xe s:=by
 have r2:Vals (vs++dvs) (us++ds):=r.append hd
 have hl:(us++ds).length=ps.length:=by rw[<- r2.length];exact F.len _ _ _ _ h
 refine wpAny_call (codeAny_mono (F.run X.A X.stack s H ⟨us,[]⟩ (us++ds) (vs++dvs) Q E hr I.env0 (hb s us I.kIn hl) r2 h) fun r s' hq=>?_)
 cases r with
 |error e=>exact hx pins σ H s e s' I hq
 |ok fl=>
  cases fl with
  |ret u=>exact I.after hq
  |next=>exact False.elim hq
  |brk=>exact False.elim hq
  |cont=>exact False.elim hq
theorem pe_call (F:FnOk X.prog X.w X.K X.mg X.base CX k f fd ps sp) (hr:Room k X.A) (hg:Gl X x) (hm:X.mg x=some (.ref f)) (hk:PySem.W.keepIn X.K (.ref f)=true) (hb:Binds X.K fd ps ds) (hd:Vals dvs ds) (hx:Passes CX X E)
  (ha:PA X (e::es) t) (hdb:(x==("__debug__":Str))=false:=by decide) (he:starEach (e::es) X.env=(false,eval e X.env)::starEach es X.env:=by rfl) (hpl:(backTo pos (starEach es X.env)).any (·.1)=false:=by rfl):
  PE X (.Call (.Name x p) (e::es) [] pos) (tCall sp dvs E t):=by
 intro pins s σ H Q I h
 refine wpAny_Call_Name_kw (ld_glob I hg hm ?_ hdb)
 refine PySem.W.callWith_K (h₀:=X.base) I.ok.mod.kin hk (thn (ha pos pins s σ H _ I h) fun us s1 ⟨vs,H1,I1,r,q⟩=>⟨I1.kIn,?_⟩) he hpl
 exact run_fn F hr hb hd hx I1 r q
structure Mk (K:PySem.W.Frag) (C f:Addr):Prop where
 makes:PySem.W.makesIn K C=true
 init:PySem.W.findIn K (.ref C) "__init__"=some (some (.ref f))
 fn:PySem.W.isFn K (.ref f)=true
 kp:PySem.W.keepIn K (.ref C)=true
theorem run_make {pins:List (Addr×Obj)} {σ:St} {H:Hp} {s:Shared} {Q:VK} {us:List Value} {vs:List V} (M:Mk X.K C f) (F:FnOk X.prog X.w X.K X.mg X.base CX k f fd ps sp) (hr:Room (k+1) X.A) (hb:Binds X.K fd ps ds) (hd:Vals dvs ds)
  (hx:Passes CX X E) (I:Inv X pins σ H s) (r:Vals vs us)
  (h:∀ x dx,H x=none->H dx=none->dx≠x->sp (.ref x::(vs++dvs)) (upd (upd H dx (.own x)) x (.ins C dx [])) (fun v H2=>v = .non/\Q (.ref x) H2) E):
  wpAny (model X.prog X.w) X.A (call (.ref C) us) (EP X pins σ Q) X.xe s:=by
 have hq:=h (s.heap.objs.size+1) s.heap.objs.size (I.hok.fresh (Nat.le_succ _)) (I.hok.fresh (Nat.le_refl _)) (Nat.ne_of_lt (Nat.lt_succ_self _))
 have I2:=Inv.made (C:=C) I
 have r2:Vals (V.ref (s.heap.objs.size+1)::(vs++dvs)) (Value.ref (s.heap.objs.size+1)::(us++ds)) := .cons rfl (r.append hd)
 have hl:(Value.ref (s.heap.objs.size+1)::us++ds).length=ps.length:=by
  have e:=r2.length
  rw[F.len _ _ _ _ hq] at e
  exact e.symm
 refine wpAny_call (make_map (f := f) I.kIn M.makes M.init (beq_iff_eq.mp M.fn) (codeAny_mono (F.run _ X.stack _ _ ⟨Value.ref (s.heap.objs.size+1)::us,[]⟩ (Value.ref (s.heap.objs.size+1)::(us++ds)) _ _ E (hr.make C us [])
  (I2.env0.make C us []) (hb _ (Value.ref (s.heap.objs.size+1)::us) I2.kIn hl) r2 hq) fun r s' hq'=>?_))
 cases r with
 |error e=>exact hx pins σ _ _ e s' I2 hq'
 |ok fl=>
  cases fl with
  |ret u=>
   obtain ⟨v,H',I3,rv,ev,q3⟩:=I2.after hq'
   subst ev
   exact ⟨rv,⟨V.ref (s.heap.objs.size+1),H',I3,rfl,q3⟩⟩
  |next=>exact False.elim hq'
  |brk=>exact False.elim hq'
  |cont=>exact False.elim hq'
theorem pe_make (M:Mk X.K C f) (F:FnOk X.prog X.w X.K X.mg X.base CX k f fd ps sp) (hr:Room (k+1) X.A) (hg:Gl X x) (hm:X.mg x=some (.ref C)) (hb:Binds X.K fd ps ds) (hd:Vals dvs ds) (hx:Passes CX X E)
  (ha:PA X (e::es) t) (hdb:(x==("__debug__":Str))=false:=by decide) (he:starEach (e::es) X.env=(false,eval e X.env)::starEach es X.env:=by rfl) (hpl:(backTo pos (starEach es X.env)).any (·.1)=false:=by rfl):
  PE X (.Call (.Name x p) (e::es) [] pos) (tMake C sp dvs E t):=by
 intro pins s σ H Q I h
 refine wpAny_Call_Name_kw (ld_glob I hg hm ?_ hdb)
 refine PySem.W.callWith_K (h₀:=X.base) I.ok.mod.kin M.kp (thn (ha pos pins s σ H _ I h) fun us s1 ⟨vs,H1,I1,r,q⟩=>⟨I1.kIn,?_⟩) he hpl
 exact run_make M F hr hb hd hx I1 r q
end
section
variable {X:Cx} {CX:CXT} {k:Nat} {f C:Addr} {fd:FuncData} {ps ks:List Str} {sp:Sp} {E:XK} {x m:Str} {p pos apos kpos:Pos} {e o:Expr} {es:List Expr} {kws:List Keyword} {te ta:TE} {t tk:TA} {nm:Option Str}
variable {g:List Value->List Value->List Value} {gV:List V->List V->List V}
end
structure FnScope (N P:List Str) (sc:Scope):Prop where
 kind:sc.kind = .function
 co:sc.isCoroutine=false
 gen:sc.isGenerator=false
 nd:N.Nodup
 pre:N.take P.length=P
 par:∀ x∈P,sc.names.lookup x=some .local ∨ sc.names.lookup x=some .cell
 nofree:∀ y∈sc.names,y.2 ≠ .free
theorem bindL_out {kindOf:Str->Option NameKind} {x:Str}:∀ {binds:List (Str×Value)} {m:Str->Option Value},(∀ v,(x,v)∉binds)->bindL kindOf binds m x=m x
 | [],_,_=>rfl
 |(n,v)::r,m,h=>by
  unfold bindL
  rw[bindL_out fun w hw=>h w (List.mem_cons_of_mem _ hw)]
  split
  ·have:x≠n:=by rintro rfl;exact h v List.mem_cons_self
   simp[this]
  ·rfl
theorem bindC_out {kindOf:Str->Option NameKind} {x:Str}:∀ {binds:List (Str×Value)} {m:Str->Option Value},(∀ v,(x,v)∉binds)->bindC kindOf binds m x=m x
 | [],_,_=>rfl
 |(n,v)::r,m,h=>by
  unfold bindC
  rw[bindC_out fun w hw=>h w (List.mem_cons_of_mem _ hw)]
  split
  ·rfl
  ·have:x≠n:=by rintro rfl;exact h v List.mem_cons_self
   simp[this]
theorem bindL_get {kindOf:Str->Option NameKind} {x:Str} {v:Value}:∀ {P:List Str} {vs:List Value} {i:Nat} {m:Str->Option Value},P.Nodup->P[i]? = some x->vs[i]? = some v->kindOf x=some .local →
  bindL kindOf (P.zip vs) m x=some v
 | [],_,_,_,_,h,_,_=>by simp at h
 |_::_,[],_,_,_,_,h,_=>by simp at h
 |p::P,w::vs,0,m,nd,h1,h2,hk=>by
  simp at h1 h2;subst h1;subst h2
  show bindL kindOf ((p,w)::P.zip vs) m p=_
  unfold bindL
  rw[bindL_out fun v hv=>(List.nodup_cons.mp nd).1 (List.of_mem_zip hv).1,if_pos hk]
  simp
 |p::P,w::vs,i+1,m,nd,h1,h2,hk=>by
  show bindL kindOf ((p,w)::P.zip vs) m x=_
  unfold bindL
  exact bindL_get (i:=i) (List.nodup_cons.mp nd).2 (by simpa using h1) (by simpa using h2) hk
theorem bindC_get {kindOf:Str->Option NameKind} {x:Str} {v:Value}:∀ {P:List Str} {vs:List Value} {i:Nat} {m:Str->Option Value},P.Nodup->P[i]? = some x->vs[i]? = some v->kindOf x≠some .local →
  bindC kindOf (P.zip vs) m x=some v
 | [],_,_,_,_,h,_,_=>by simp at h
 |_::_,[],_,_,_,_,h,_=>by simp at h
 |p::P,w::vs,0,m,nd,h1,h2,hk=>by
  simp at h1 h2;subst h1;subst h2
  show bindC kindOf ((p,w)::P.zip vs) m p=_
  unfold bindC
  rw[bindC_out fun v hv=>(List.nodup_cons.mp nd).1 (List.of_mem_zip hv).1,if_neg hk]
  simp
 |p::P,w::vs,i+1,m,nd,h1,h2,hk=>by
  show bindC kindOf ((p,w)::P.zip vs) m x=_
  unfold bindC
  exact bindC_get (i:=i) (List.nodup_cons.mp nd).2 (by simpa using h1) (by simpa using h2) hk
def start (N:List Str) (vs:List V):St:=vs.map some++List.replicate (N.length - vs.length) none
def cxOf (CX:CXT) (P:Program) (w:World) (K:PySem.W.Frag) (mg:Str->Option Value) (base:Heap) (N:List Str) (qual:Str) (scope:Scope) (f:Addr) (cd:Value) (A:Around) (outer:List Env) (s:Shared) (H:Hp) (E:XK):Cx where
 prog:=P
 w:=w
 K:=K
 mg:=mg
 base:=base
 A:=A.deeper (envOfC qual scope s.heap.objs.size f cd)
 N:=N
 s₀:=s
 H₀:=H
 env:=envOfC qual scope s.heap.objs.size f cd
 outer:=outer
 stack:=envOfC qual scope s.heap.objs.size f cd::outer
 ex:=[]
 calm:=true
 fn:=fun _=>true
 pn:=[]
 xe:=fun e s'=>wpAny (model P w) (A.deeper (envOfC qual scope s.heap.objs.size f cd)) (leaving (envOfC qual scope s.heap.objs.size f cd) e) (fun _ s''=>CX outer H s E e s'') (fun e' s''=>CX outer H s E e' s'') s'
theorem cell_has {sc:Scope} {n:Nat} {x:Str} (h:sc.names.lookup x=some .cell):∃ c,(cellsFrom n sc.names []).lookup x=some c:=by
 have q:=PySem.W.cellsFrom_some sc.names n [] (.inl h)
 exact Option.isSome_iff_exists.mp q
theorem inv_start {CX:CXT} {P:Program} {w:World} {K:PySem.W.Frag} {mg:Str->Option Value} {base:Heap} {N ps:List Str} {qual:Str} {scope:Scope} {f:Addr} {cd:Value} {A:Around} {outer:List Env} {s s1:Shared} {H:Hp} {E:XK} {us:List Value} {vs:List V}
  (S:FnScope N ps scope) (hd:A.handled=none) (e0:Env0 P w K mg base A outer s H) (hl:vs.length=ps.length) (r:Vals vs us) (htk:0 < s1.toks)
  (x:InCallC s s.heap.objs.size (bindL (envOfC qual scope s.heap.objs.size f cd).kindOf (ps.zip us) fun _=>none) (cellsFrom (s.heap.objs.size+1) scope.names []) (bindC (envOfC qual scope s.heap.objs.size f cd).kindOf (ps.zip us) fun _=>none) s1):
  Inv (cxOf CX P w K mg base N qual scope f cd A outer s H E) [] (start N vs) H s1:=by
 have hpl:ps.length<=N.length:=by have:=congrArg List.length S.pre;rw[List.length_take] at this;omega
 obtain ⟨h1,tk,rfl,hk⟩:=x.done
 have noA:∀ b:Addr,b∉(cxOf CX P w K mg base N qual scope f cd A outer s H E).ex:=fun b z=>absurd (show b∈([]:List Addr) from z) (by simp)
 refine ⟨⟨e0.mod,S.kind,rfl,rfl,Nat.le_refl _,fun y z c h1 h2=>?_,fun y hy=>?_,fun y c _ h=>?_,fun _=>hd,Around.frames_deeper e0.frames, .inr ⟨rfl,rfl⟩,fun b z=>absurd z (noA b),e0.bs,e0.bsz,fun b _ _=>noA b,fun b z=>absurd z (noA b),e0.funs,e0.frf⟩,
  rfl,e0.bare,Un.kept hk,⟨_,x.toInCall.ns,fun i y v h1 h2 h3=>?_⟩,fun y c h=>⟨_,x.cell y c h⟩,e0.hok.fresh (Nat.le_refl _),fun y c h=>?_,fun p hp=>absurd (show p∈([]:List (Addr×Obj)) from hp) (by simp),e0.hok.kept hk,?_,htk⟩
 ·exact name_of_addr x.apart (PySem.mem_of_lookup h1) (PySem.mem_of_lookup h2)
 ·have hy:scope.names.lookup y=some .cell ∨ scope.names.lookup y=some .free:=hy
  rcases hy with hy |hy
  ·exact cell_has hy
  ·exact absurd rfl (S.nofree _ (PySem.mem_of_lookup hy))
 ·exact Nat.le_of_lt (x.above y c (PySem.mem_of_lookup h))
 ·have hi:i < vs.length:=by
   unfold start at h2
   by_cases hi:i < vs.length
   ·exact hi
   ·rw[List.getElem?_append_right (by simpa using hi)] at h2
    rw[List.getElem?_replicate] at h2
    split at h2 <;> cases h2
  have ha:vs[i]? = some v:=by
   unfold start at h2
   rw[List.getElem?_append_left (by simpa using hi),List.getElem?_map] at h2
   cases e:vs[i]? with
   |none=>rw[e] at h2;cases h2
   |some a=>rw[e] at h2;cases h2;rfl
  obtain ⟨u,hu,rv⟩:=r.get ha
  have hp:ps[i]? = some y:=by
   rw[<- S.pre,List.getElem?_take_of_lt (by omega)];exact h1
  have ndP:ps.Nodup:=by rw[<- S.pre];exact S.nd.sublist (List.take_sublist _ _)
  refine ⟨u,rv,?_⟩
  rcases S.par y (List.mem_of_getElem? hp) with k |k
  ·exact .inl ⟨k,bindL_get ndP hp hu k⟩
  ·obtain ⟨c,e⟩:=cell_has (n:=s.heap.objs.size+1) k
   refine .inr ⟨.inl k,c,e,?_⟩
   have q:=x.cell y c e
   rw[bindC_get ndP hp hu (by show scope.names.lookup y≠_;rw[k];decide)] at q
   exact q
 ·exact e0.hok.fresh (Nat.le_of_lt (x.above y c (PySem.mem_of_lookup h)))
 ·unfold start
  show _=N.length
  rw[List.length_append,List.length_map,List.length_replicate]
  omega
theorem fn_of {CX:CXT} {P:Program} {w:World} {K:PySem.W.Frag} {mg:Str->Option Value} {base:Heap} {k:Nat} {f:Addr} {name qual:Str} {params:Arguments} {body:List Stmt} {scope:Scope} {dV kV doc pm cdv ct oc:Value} {an od:Option Addr}
  {osl:Array (Option Value)} {N ps:List Str} {sp:Sp} (lk:K.lookup f=some ⟨oc,od, .func (PySem.W.fnOf name qual params body scope dV kV doc pm an cdv ct),osl⟩) (hcd:PySem.W.codeIn K cdv qual=true) (S:FnScope N ps scope)
  (len:∀ vs H Q E,sp vs H Q E->vs.length=ps.length)
  (hbody:∀ (A:Around) (outer:List Env) (s:Shared) (H:Hp) (vs:List V) (Q:VK) (E:XK),Room k (A.deeper (envOfC qual scope s.heap.objs.size f cdv))->sp vs H Q E →
   ∃ t,PSs (cxOf CX P w K mg base N qual scope f cdv A outer s H E) body t/\t { nx:=fun _ H'=>Q .non H',rt:=Q } (start N vs) H):
  FnOk P w K mg base CX (k+1) f (PySem.W.fnOf name qual params body scope dV kV doc pm an cdv ct) ps sp:=by
 refine ⟨len,fun A outer s H args us vs Q E hr e0 hb r hsp=>?_⟩
 have hl:=len _ _ _ _ hsp
 have KX:K.In s.heap:=e0.mod.kin.keeps fun b o e=>(e0.bs b o e).1
 have lim:s.heap.NoLimit:=e0.mod.nolimit.keeps fun b o e=>(e0.bs b o e).1
 have hkind:∀ y∈ps.zip us,scope.names.lookup y.1=some .local ∨ (scope.names.lookup y.1=some .cell/\((cellsFrom (s.heap.objs.size+1) scope.names []).lookup y.1).isSome=true):=fun ⟨n,v⟩ hy=>by
  rcases S.par n (List.of_mem_zip hy).1 with q |q
  ·exact .inl q
  ·exact .inr ⟨q,PySem.W.cellsFrom_some _ _ _ (.inl q)⟩
 refine codeAny_call_function hr.depth (KX _ _ lk) rfl S.co S.gen rfl (PySem.W.codeRec_of KX hcd) (hb _ _ _ _ ?_)
 refine wpAny_with_toks (n:=1) e0.tk (wpAny_newFunctionEnv_cells S.kind hkind fun env he s1 x htk=>?_)
 subst he
 refine ⟨lim.keeps x.toInCall.keep,codeAny_func ?_⟩
 obtain ⟨t,ht,hq⟩:=hbody A outer s H vs Q E (hr.deeper _) hsp
 have I:Inv (cxOf CX P w K mg base N qual scope f cdv A outer s H E) [] (start N vs) H s1:=inv_start S hr.hd e0 hl r htk x
 refine wpAny_mono (ht [] s1 (start N vs) H _ I hq) (fun fl s' hs=>?_) fun e s' hs=>hs
 have fin:∀ {σ':St} {H':Hp} {v:V} {u:Value},Inv (cxOf CX P w K mg base N qual scope f cdv A outer s H E) [] σ' H' s'->RelV v u->Q v H'->CE outer P w H s Q u s':=
  fun {σ' H' v u} J rv q=>⟨v,H',J.os,J.bare,J.base,J.hok,J.tk,rv,q⟩
 cases fl with
 |ret u=>
  obtain ⟨v,σ',H',J,rv,q⟩:=hs
  exact fin J rv q
 |next=>
  obtain ⟨σ',H',J,q⟩:=hs
  exact fin (v:=V.non) (u:=Value.none) J rfl q
 |brk=>
  obtain ⟨_,_,_,q⟩:=hs
  exact False.elim q
 |cont=>
  obtain ⟨_,_,_,q⟩:=hs
  exact False.elim q
end L2
namespace L2
open PySem PySem.Spec PyProof.Rows
section
variable {X:Cx} {x:Str} {p pos:Pos} {e:Expr} {es:List Expr} {t:TA} {id T:String} {r:List V->Hp->VK->Prop}
def tCB (r:List V->Hp->VK->Prop) (t:TA):TE:=fun σ H Q=>t σ H fun vs H1=>r vs H1 Q
theorem pe_callB (hc:CallR X (.builtin id) r) (hg:Gl X x) (hm:X.mg x=none) (hv:bootBuiltins x=some (.builtin id)) (ha:PA X (e::es) t) (hn:x≠"__name__":=by decide) (hdb:(x==("__debug__":Str))=false:=by decide)
  (he:starEach (e::es) X.env=(false,eval e X.env)::starEach es X.env:=by rfl) (hpl:(backTo pos (starEach es X.env)).any (·.1)=false:=by rfl):PE X (.Call (.Name x p) (e::es) [] pos) (tCB r t):=by
 intro pins s σ H Q I h
 refine wpAny_Call_Name_kw (ld_blt I hg hm hv ?_ hn hdb)
 exact PyProof.Rows.callWith_builtin1 (thn (ha pos pins s σ H _ I h) fun us s1 ⟨vs,H1,I1,r1,q1⟩=>hc pins s1 σ H1 vs us Q I1 r1 q1) he hpl
theorem pe_callTy (hc:CallR X (.type T) r) (hg:Gl X x) (hm:X.mg x=none) (hv:bootBuiltins x=some (.type T)) (ha:PA X (e::es) t) (hn:x≠"__name__":=by decide) (hdb:(x==("__debug__":Str))=false:=by decide)
  (he:starEach (e::es) X.env=(false,eval e X.env)::starEach es X.env:=by rfl) (hpl:(backTo pos (starEach es X.env)).any (·.1)=false:=by rfl):PE X (.Call (.Name x p) (e::es) [] pos) (tCB r t):=by
 intro pins s σ H Q I h
 refine wpAny_Call_Name_kw (ld_blt I hg hm hv ?_ hn hdb)
 exact PyProof.Rows.callWith_type1 (thn (ha pos pins s σ H _ I h) fun us s1 ⟨vs,H1,I1,r1,q1⟩=>hc pins s1 σ H1 vs us Q I1 r1 q1) he hpl
end
end L2
namespace HT
open PySem PyProof.Rows
section
open PySem.SeqAt
open PySem.AutoSeq1 (wpAny_loadPart')
open PySem.MeetsSeq PySem.MeetsSeq2 PySem.MeetsSeq3
end
section
variable {prog:Program} {w:World} {A:Around} {E:Value->Shared->Prop} {s:Shared}
end
end HT
namespace L2
open PySem PySem.Spec PyProof.Rows
abbrev TO:=St->Hp->(Option Int->Hp->Prop)->Prop
def PO (X:Cx) (e:Option Expr) (t:TO):Prop:=
 ∀ (pins:List (Addr×Obj)) (s:Shared) (σ:St) (H:Hp) (Q:Option Int->Hp->Prop),Inv X pins σ H s->t σ H Q →
  wpAny (model X.prog X.w) X.A (evalPart e X.env) (fun u s'=>∃ o H',Inv X pins σ H' s'/\IsPart u o/\Q o H') X.xe s
def tPart (t:TE):TO:=fun σ H Q=>t σ H fun x H1=>∃ i,x = .int i/\Q (some i) H1
section
variable {X:Cx} {e:Expr} {te:TE} {lo hi:Option Expr} {tl th:TO} {pos p2:Pos}
theorem po_some (h:PE X e te):PO X (some e) (tPart te):=by
 intro pins s σ H Q I hw
 rw[evalPart_some]
 refine thn (h pins s σ H _ I hw) fun u s1 ⟨x,H1,I1,r1,q1⟩=>?_
 obtain ⟨i,rfl,q⟩:=q1
 obtain ⟨t,rfl⟩:=r1
 exact ⟨some i,H1,I1, .int i t,q⟩
def SlR (X:Cx) (r:V->Option Int->Option Int->Hp->VK->Prop):Prop:=
 ∀ (pins:List (Addr×Obj)) (s:Shared) (σ:St) (H:Hp) (x:V) (v vl vu:Value) (lo hi:Option Int) (sl:Addr) (Q:VK),Inv X pins σ H s->RelV x v->s.heap.IsSliceOf sl vl vu .none->IsPart vl lo->IsPart vu hi->r x lo hi H Q →
  ∃ T id,typeLookup (.type T) "__getitem__"=pure (some (.builtin id))/\s.TypeIs v T/\wpAny (model X.prog X.w) X.A (getItem v (.ref sl)) (EP X pins σ Q) X.xe s
def tSl (r:V->Option Int->Option Int->Hp->VK->Prop) (te:TE) (tl th:TO):TE:=fun σ H Q=>te σ H fun x H1=>tl σ H1 fun l H2=>th σ H2 fun u H3=>r x l u H3 Q
theorem pe_slice {r:V->Option Int->Option Int->Hp->VK->Prop} (hr:SlR X r) (he:PE X e te) (hl:PO X lo tl) (hu:PO X hi th):PE X (.Subscript e (.Slice lo hi none p2) pos) (tSl r te tl th):=by
 intro pins s σ H Q I h
 refine Subscript_ (thn (he pins s σ H _ I h) fun v s1 ⟨x,H1,I1,r1,q1⟩=>?_)
 refine wpAny_Slice (thn (hl pins s1 σ H1 _ I1 q1) fun vl s2 ⟨l,H2,I2,pl,q2⟩=>thn (hu pins s2 σ H2 _ I2 q2) fun vu s3 ⟨u,H3,I3,pu,q3⟩=>?_)
 rw[evalPart_none]
 refine wpAny_pure ?_
 have I4:Inv X pins σ H3 { s3 with heap:=s3.heap.push { cls := .type "slice",data := .fields #[vl,vu, .none] } }:=I3.kept (t':=s3.toks) fun b ob q=>Heap.get?_push_of_some _ q
 obtain ⟨T,id,hT,ht,hg⟩:=hr pins { s3 with heap:=s3.heap.push { cls := .type "slice",data := .fields #[vl,vu, .none] } } σ H3 x v vl vu l u s3.heap.objs.size Q I4 r1 (Heap.IsSliceOf.new ..) pl pu q3
 show wpAny (model X.prog X.w) X.A (subscriptTail e (.Slice lo hi none p2) v (.ref s3.heap.objs.size)) (EP X pins σ Q) X.xe { s3 with heap:=s3.heap.push { cls := .type "slice",data := .fields #[vl,vu, .none] } }
 exact tail_any (ops:=[.ref s3.heap.objs.size,v]) ht hT hg (by with_unfolding_all rfl)
end
end L2
namespace L2
open PySem PySem.Spec PyProof.Rows
def ixN (n:Nat) (i:Int):Option Nat:=if 0<=i then (if i < n then some i.toNat else none) else if -(n:Int)<=i then some (i+n).toNat else none
def atI {α:Type} (xs:List α) (i:Int):Option α:=(ixN xs.length i).bind fun j=>xs[j]?
theorem ixN_seq {n:Nat} {i:Int} {j:Nat} (h:ixN n i=some j):seqIndex? i n=some j/\j < n /\ -(n:Int)<=i/\i < n:=by
 unfold ixN at h
 by_cases h0:0<=i
 ·rw[if_pos h0] at h
  by_cases h1:i < n
  ·rw[if_pos h1] at h
   have e:i.toNat=j:=Option.some.inj h
   exact ⟨by rw[seqIndex_of h0 h1,e],by omega,by omega,h1⟩
  ·rw[if_neg h1] at h;cases h
 ·rw[if_neg h0] at h
  by_cases h1 : -(n:Int)<=i
  ·rw[if_pos h1] at h
   have e:(i+n).toNat=j:=Option.some.inj h
   exact ⟨by rw[seqIndex_neg (by omega) h1,e],by omega,h1,by omega⟩
  ·rw[if_neg h1] at h;cases h
theorem atI_get {α:Type} {xs:List α} {i:Int} {v:α} (h:atI xs i=some v):∃ j,seqIndex? i xs.length=some j/\xs[j]? = some v/\j < xs.length /\ -(xs.length:Int)<=i/\i < xs.length:=by
 unfold atI at h
 cases e:ixN xs.length i with
 |none=>rw[e] at h;cases h
 |some j=>
  rw[e] at h
  obtain ⟨h1,h2,h3,h4⟩:=ixN_seq e
  exact ⟨j,h1,h,h2,h3,h4⟩
theorem atI_nat {α:Type} {xs:List α} {j:Nat} {v:α} (h:xs[j]? = some v):atI xs (j:Int)=some v:=by
 have hj:j < xs.length:=(List.getElem?_eq_some_iff.mp h).1
 have e:ixN xs.length (j:Int)=some j:=by
  unfold ixN
  rw[if_pos (by omega),if_pos (by omega)];simp
 unfold atI;rw[e];exact h
theorem atI_last {α:Type} (xs:List α) (v:α):atI (xs++[v]) (-1)=some v:=by
 have hl:(xs++[v]).length=xs.length+1:=by simp
 have e:ixN (xs++[v]).length (-1)=some xs.length:=by
  unfold ixN
  rw[hl,if_neg (by decide),if_pos (by omega)]
  congr 1
  omega
 unfold atI
 rw[e]
 show (xs++[v])[xs.length]? = some v
 simp
def PlainIx (b:Expr):Prop:=∀ o i,subscripted b false o i=operate [o,i] (getItem o i)
def IxR (X:Cx) (r:R2):Prop:=
 ∀ (value slice:Expr) (pins:List (Addr×Obj)) (s:Shared) (σ:St) (H:Hp) (x y:V) (v u:Value) (Q:VK),Inv X pins σ H s->RelV x v->RelV y u->r x y H Q →
  subscripted slice false v u=operate [v,u] (getItem v u)->wpAny (model X.prog X.w) X.A (subscriptTail value slice v u) (EP X pins σ Q) X.xe s
def MtR (X:Cx) (id:String) (r:V->List V->Hp->VK->Prop):Prop:=
 ∀ (pins:List (Addr×Obj)) (s:Shared) (σ:St) (H:Hp) (x:V) (xs:List V) (v:Value) (us:List Value) (Q:VK),Inv X pins σ H s->RelV x v->Vals xs us->r x xs H Q →
  wpAny (model X.prog X.w) X.A (call (.builtin id) (v::us)) (EP X pins σ Q) X.xe s
section
variable {X:Cx} {a b:Expr} {ta tb:TE} {pos:Pos}
theorem pe_ix {r:R2} (hr:IxR X r) (ha:PE X a ta) (hb:PE X b tb) (hs:PlainIx b):PE X (.Subscript a b pos) (tOp r ta tb):=by
 intro pins s σ H Q I h
 exact Subscript_ (binT ha hb I h fun v u s2 x y H2 I2 rx ry q=>hr a b pins s2 σ H2 x y v u Q I2 rx ry q (hs _ _))
def rIxL (K:PySem.W.Frag):R2:=fun x y H Q=>∃ p xs i v,x = .ref p/\y = .int i/\SqL K H p xs/\atI xs i=some v/\Q v H
def rIxT (K:PySem.W.Frag):R2:=fun x y H Q=>∃ p xs i v,x = .ref p/\y = .int i/\SqT K H p xs/\atI xs i=some v/\Q v H
def rIxS:R2:=fun x y H Q=>∃ z i c,x = .str z/\y = .int i/\z.length<=sizeLine/\atI z.cps.toList i=some c/\Q (.str ⟨#[c]⟩) H
theorem ix_list:IxR X (rIxL X.K):=by
 intro value slice pins s σ H x y v u Q I rx ry h hs
 obtain ⟨p,xs,i,z,rfl,rfl,hq,he,q⟩:=h
 cases rx
 obtain ⟨t,rfl⟩:=ry
 obtain ⟨its,r,pl,hz⟩:=I.list hq
 obtain ⟨j,h1,h2,h3,h4,h5⟩:=atI_get he
 obtain ⟨w,ew,rw'⟩:=r.get h2
 have hl:=r.length
 have hn:=line63
 have fin:EP X pins σ Q w s:=⟨z,H,I,rw',q⟩
 by_cases h0:0<=i
 ·have hj:i.toNat=j:=by
   rw[seqIndex_of h0 h5] at h1
   exact Option.some.inj h1
  exact item_listR pl.isList h0 (by omega) (by rw[hj];simpa using ew) fin hs
 ·have hj:(i+(its.toArray.size:Int)).toNat=j:=by
   rw[seqIndex_neg (by omega) h4] at h1
   rw[List.size_toArray,<- hl]
   exact Option.some.inj h1
  exact subscriptTail_builtinR (x:=w) pl.isList.typeIs slot_list_getitem.lookup
   (wpAny_getItem_list_neg (Q:=fun r s'=>r=w/\EP X pins σ Q r s') pl.isList (by omega) (by rw[List.size_toArray] <;> omega) (by omega) (by rw[hj];simpa using ew) ⟨rfl,fin⟩) hs
theorem ix_tup:IxR X (rIxT X.K):=by
 intro value slice pins s σ H x y v u Q I rx ry h hs
 obtain ⟨p,xs,i,z,rfl,rfl,hq,he,q⟩:=h
 cases rx
 obtain ⟨t,rfl⟩:=ry
 obtain ⟨its,r,pl,hz⟩:=I.tuple hq
 obtain ⟨j,h1,h2,h3,h4,h5⟩:=atI_get he
 obtain ⟨w,ew,rw'⟩:=r.get h2
 have hl:=r.length
 have hn:=line63
 have fin:EP X pins σ Q w s:=⟨z,H,I,rw',q⟩
 exact subscriptTail_builtinR (x:=w) pl.typeIs slot_tuple_getitem.lookup
  (getItem_tuple (j:=j) (Q:=fun r s'=>r=w/\EP X pins σ Q r s') pl (by omega) (by omega) (by rw[List.size_toArray,<- hl];exact h1) (by simpa using ew) ⟨rfl,fin⟩) hs
theorem ix_str:IxR X rIxS:=by
 intro value slice pins s σ H x y v u Q I rx ry h hs
 obtain ⟨z,i,c,rfl,rfl,hz,he,q⟩:=h
 obtain ⟨t,rfl⟩:=rx
 obtain ⟨t',rfl⟩:=ry
 obtain ⟨j,h1,h2,h3,h4,h5⟩:=atI_get he
 have hl:z.cps.toList.length=z.length:=by simp[Str.length]
 rw[hl] at h1 h4 h5
 have hn:=line63
 exact tail_any (typeIs_str s z t) slot_str_getitem.lookup (getItem_str (c := c) (by
  have e1:decide (i < -(2 ^ 63:Int))=false:=decide_eq_false (by omega)
  have e2:decide (i ≥ 2 ^ 63)=false:=decide_eq_false (by omega)
  rw[e1,e2,Bool.or_false]) (by rw[h1];simpa using h2) ⟨.str ⟨#[c]⟩,H,I.tok _,⟨_,rfl⟩,q⟩) hs
theorem mapSeq_set (its:List Value) (n j:Nat) (u:Value):Obj.mapSeq (·.setIfInBounds j u) { cls := .type "list",data := .seq its.toArray n }={ cls := .type "list",data := .seq (its.set j u).toArray n }:=by
 simp[Obj.mapSeq]
theorem Inv.lst {pins:List (Addr×Obj)} {σ:St} {H:Hp} {s:Shared} {p:Addr} {xs:List V} (I:Inv X pins σ H s) (h:H p=some (.lst xs)):
  ∃ (its:List Value) (n:Nat),Vals xs its/\s.heap.get? p=some { cls := .type "list",data := .seq its.toArray n }/\xs.length<=sizeLine:=by
 obtain ⟨z,its,n,r,e⟩:=I.hok p _ h
 exact ⟨its,n,r,e,z⟩
theorem Inv.lstUpd {pins:List (Addr×Obj)} {σ:St} {H:Hp} {s:Shared} {p:Addr} {xs ys:List V} {its its':List Value} {n n':Nat} {f:Obj->Obj} (I:Inv X pins σ H s) (h:H p=some (.lst xs))
  (ho:s.heap.get? p=some { cls := .type "list",data := .seq its.toArray n }) (hf:f { cls := .type "list",data := .seq its.toArray n }={ cls := .type "list",data := .seq its'.toArray n' }) (r:Vals ys its') (hz:ys.length<=sizeLine) (t:Nat) (ht:0 < t:=by first |assumption |exact Nat.succ_pos _ |(apply Inv.tk;assumption)):
  Inv X pins σ (upd H p (.lst ys)) { s with heap:=s.heap.update p f,toks:=t }:=by
 have e:(s.heap.update p f).get? p=some { cls := .type "list",data := .seq its'.toArray n' }:=by
  rw[Heap.get?_update_self f ho (by rw[hf] <;> rfl),hf]
 refine I.write (x:=p) (e:=p) (by rw[h];trivial) (.inl rfl) (fun b u hb q=>(Heap.get?_update_other _ _ (Ne.symm hb)).trans q) ⟨_,e⟩ ?_
 exact ⟨hz,its',n',r,e⟩
def rSetL:V->V->V->Hp->(Hp->Prop)->Prop:=fun o i v H Q=>∃ p xs k j,o = .ref p/\i = .int k/\H p=some (.lst xs)/\ixN xs.length k=some j/\Q (upd H p (.lst (xs.set j v)))
theorem set_list:PSet X rSetL:=by
 intro pins s σ H o i v ov iv u Q I ro ri rv h
 obtain ⟨p,xs,k,j,rfl,rfl,hp,hj,q⟩:=h
 cases ro
 obtain ⟨t,rfl⟩:=ri
 obtain ⟨its,n,r,ho,hz⟩:=I.lst hp
 obtain ⟨h1,h2,h3,h4⟩:=ixN_seq hj
 have hl:=r.length
 have hn:=line63
 have I':Inv X pins σ (upd H p (.lst (xs.set j v))) { s with heap:=s.heap.update p (Obj.mapSeq (·.setIfInBounds j u)) }:=
  I.lstUpd hp ho (mapSeq_set its n j u) (r.set rv j) (by rw[List.length_set];exact hz) s.toks
 by_cases h0:0<=k
 ·have hk:k.toNat=j:=by
   rw[seqIndex_of h0 h4] at h1
   exact Option.some.inj h1
  exact PySem.W.ki_setAt ho h0 (by omega) (by rw[List.size_toArray,<- hl];exact h4) (by rw[hk];exact ⟨_,I',q⟩)
 ·have hk:(k+(its.toArray.size:Int)).toNat=j:=by
   rw[seqIndex_neg (by omega) h3] at h1
   rw[List.size_toArray,<- hl]
   exact Option.some.inj h1
  exact PySem.W.ki_setBack ho (by omega) (by rw[List.size_toArray,<- hl];exact h3) (by omega) (by rw[hk];exact ⟨_,I',q⟩)
theorem call_len_seq:CallR X (.builtin "len") (fun xs H Q=>∃ p ys,xs=[.ref p]/\(SqL X.K H p ys ∨ SqT X.K H p ys)/\Q (.int ys.length) H):=by
 intro pins s σ H xs us Q I r h
 obtain ⟨p,ys,rfl,hq,q⟩:=h
 obtain ⟨u,rfl,rx⟩:=vals1 r
 cases rx
 have hn:=line63
 rcases hq with hq |hq
 ·obtain ⟨its,r',pl,hz⟩:=I.list hq
  have hlen:=r'.length
  exact Calls.call_len_list pl.isList (by simp only[List.size_toArray] <;> omega) ⟨.int ys.length,H,I.tok _,⟨s.toks+1,by rw[List.size_toArray,hlen]⟩,q⟩
 ·obtain ⟨its,r',pl,hz⟩:=I.tuple hq
  have hlen:=r'.length
  exact len_tuple pl (by simp only[List.size_toArray] <;> omega) ⟨.int ys.length,H,I.tok _,⟨s.toks+1,by rw[List.size_toArray,hlen]⟩,q⟩
theorem call_len_str:CallR X (.builtin "len") (fun xs H Q=>∃ z,xs=[.str z]/\z.length<=sizeLine/\Q (.int z.length) H):=by
 intro pins s σ H xs us Q I r h
 obtain ⟨z,rfl,hz,q⟩:=h
 obtain ⟨u,rfl,t,rfl⟩:=vals1 r
 have hn:=line63
 exact len_str (by omega) ⟨.int z.length,H,I.tok _,⟨_,rfl⟩,q⟩
theorem call_list_of:CallR X (.type "list") (fun xs H Q=>∃ p ys,xs=[.ref p]/\(SqL X.K H p ys ∨ SqT X.K H p ys)/\∀ l,H l=none->Q (.ref l) (upd H l (.lst ys))):=by
 intro pins s σ H xs us Q I r h
 obtain ⟨p,ys,rfl,hq,q⟩:=h
 obtain ⟨u,rfl,rx⟩:=vals1 r
 cases rx
 have fin:∀ (its:List Value),Vals ys its->ys.length<=sizeLine->∀ (h':Heap) (c':Nat),(∀ b o',s.heap.get? b=some o'->h'.get? b=some o') →
   h'.get? s.heap.objs.size=some { cls := .type "list",dict:=none,data := .seq its.toArray c',slots := #[] }->EP X pins σ Q (.ref s.heap.objs.size) { s with heap:=h' }:=fun its r' hz h' c' kp e=>
  ⟨.ref s.heap.objs.size,_,I.laid (t':=s.toks) kp (Nat.le_refl _) (show ObjOk X.prog X.w _ h' _ (.lst ys) from ⟨hz,its,c',r',e⟩),rfl,q _ (I.hok.fresh (Nat.le_refl _))⟩
 rcases hq with hq |hq
 ·obtain ⟨its,r',pl,hz⟩:=I.list hq
  have hlen:=r'.length
  obtain ⟨o,ho,hc,n,hd⟩:=pl.isList
  exact call_list_seq p (.inl rfl) ho hc hd (fun h' c' kp e=>fin its r' hz h' c' kp e) (by simp only[List.size_toArray] <;> omega)
 ·obtain ⟨its,r',pl,hz⟩:=I.tuple hq
  have hlen:=r'.length
  obtain ⟨o,ho,hc,n,hd⟩:=pl
  exact call_list_seq p (.inr rfl) ho hc hd (fun h' c' kp e=>fin its r' hz h' c' kp e) (by simp only[List.size_toArray] <;> omega)
def tyV (K:PySem.W.Frag) (T:String) (x:V) (H:Hp):Prop:=match x with
 | .str _=>T="str"
 | .int _=>T="int"
 | .ref p=>(T="list"/\∃ xs,SqL K H p xs) ∨ (T="tuple"/\∃ o,K.lookup p=some o/\o.cls = .type "tuple"/\o.dict=none) ∨
   (T="dict"/\((∃ kvs,H p=some (.dK kvs)) ∨ ∃ kvs,H p=some (.dT kvs))) ∨ (T="set"/\∃ S n,H p=some (.set S n))
 |_=>False
theorem tyV_is {pins:List (Addr×Obj)} {σ:St} {H:Hp} {s:Shared} {T:String} {x:V} {v:Value} (I:Inv X pins σ H s) (r:RelV x v) (ty:tyV X.K T x H):
  s.TypeIs v T/\∀ a,v = .ref a->∃ ob,s.heap.get? a=some ob/\ob.dict=none:=by
 cases x with
 |str z=>
  obtain ⟨t,rfl⟩:=r
  cases (show T="str" from ty)
  exact ⟨typeIs_str s z t,fun _ e=>nomatch e⟩
 |int i=>
  obtain ⟨t,rfl⟩:=r
  cases (show T="int" from ty)
  exact ⟨typeIs_int s i t,fun _ e=>nomatch e⟩
 |ref p=>
  cases r
  rcases ty with ⟨rfl,xs,hq⟩ |⟨rfl,o,hk,hc,hd⟩ |⟨rfl,hk⟩ |⟨rfl,S,n,hk⟩
  ·obtain ⟨its,_,pl,_⟩:=I.list hq
   refine ⟨pl.isList.typeIs,fun a e=>?_⟩
   cases e
   obtain ⟨o,n,e,c,hd,_⟩:=pl
   exact ⟨o,e,hd⟩
  ·refine ⟨⟨o,I.kIn p o hk,hc⟩,fun a e=>?_⟩
   cases e
   exact ⟨o,I.kIn _ o hk,hd⟩
  ·have z:∃ o,s.heap.get? p=some o/\o.ExactDict:=by
    rcases hk with ⟨kvs,hk⟩ |⟨kvs,hk⟩
    ·obtain ⟨_,_,_,_,o,_,_,e,ex,_⟩:=I.hok p _ hk
     exact ⟨o,e,ex⟩
    ·obtain ⟨_,_,_,_,o,_,_,e,ex,_⟩:=I.hok p _ hk
     exact ⟨o,e,ex⟩
   obtain ⟨o,e,ex⟩:=z
   refine ⟨⟨o,e,ex.1⟩,fun a e2=>?_⟩
   cases e2
   exact ⟨o,e,ex.2.1⟩
  ·obtain ⟨o,_,_,_,e,ex,_⟩:=I.hok p _ hk
   refine ⟨⟨o,e,ex.1⟩,fun a e2=>?_⟩
   cases e2
   exact ⟨o,e,ex.2.1⟩
 |_=>exact False.elim ty
def tBM0 (K:PySem.W.Frag) (T:String) (r:V->List V->Hp->VK->Prop) (to:TE):TE:=fun σ H Q=>to σ H fun x H1=>tyV K T x H1/\r x [] H1 Q
def tBM (K:PySem.W.Frag) (T:String) (r:V->List V->Hp->VK->Prop) (to:TE) (t:TA):TE:=fun σ H Q=>to σ H fun x H1=>tyV K T x H1/\t σ H1 fun xs H2=>r x xs H2 Q
variable {o e:Expr} {es:List Expr} {to:TE} {t:TA} {name:Str} {apos cpos:Pos} {T id:String} {r:V->List V->Hp->VK->Prop}
theorem pe_bm0 (pa:PlainAttrs T) (slot:Slot T name id) (hty:typeOf (.builtin id)=pure (.type "method_descriptor")) (hm:MtR X id r) (ho:PE X o to)
  (hbase:attributeBase o name X.env (eval o X.env)=eval o X.env:=by rfl) (hline:(apos.endLine==cpos.line)=true:=by rfl):PE X (.Call (.Attribute o name apos) [] [] cpos) (tBM0 X.K T r to):=by
 intro pins s σ H Q I h
 refine wpAny_Call_method0_late hbase hline (thn (ho pins s σ H _ I h) fun v s1 ⟨x,H1,I1,r1,ty,q1⟩=>?_)
 obtain ⟨h1,h2⟩:=tyV_is I1 r1 ty
 exact ⟨T,id,pa,slot,hty,h1,h2,Calls.callWith_builtin rfl (PySem.evalArgs_none (hm pins s1 σ H1 x [] v [] Q I1 r1 .nil q1))⟩
theorem pe_bm (pa:PlainAttrs T) (slot:Slot T name id) (hty:typeOf (.builtin id)=pure (.type "method_descriptor")) (hm:MtR X id r) (ho:PE X o to) (ha:PA X (e::es) t)
  (hbase:attributeBase o name X.env (eval o X.env)=eval o X.env:=by rfl)
  (hfew : ((backTo cpos (starEach (e::es) X.env)).all (fun x => !x.1)&&(backToKw cpos (keywordEach [] X.env)).all (fun x=>x.1.isSome)
   && decide ((e::es).length+([]:List Keyword).length+(if ([]:List Keyword).isEmpty then 0 else 1) < 30))=true:=by rfl)
  (hline:(apos.endLine==cpos.line)=true:=by rfl) (hs:starEach (e::es) X.env=(false,eval e X.env)::starEach es X.env:=by rfl) (hplain:(backTo cpos (starEach es X.env)).any (·.1)=false:=by rfl):
  PE X (.Call (.Attribute o name apos) (e::es) [] cpos) (tBM X.K T r to t):=by
 intro pins s σ H Q I h
 refine wpAny_Call_method_late hbase hfew hline rfl (thn (ho pins s σ H _ I h) fun v s1 ⟨x,H1,I1,r1,ty,q1⟩=>?_)
 obtain ⟨h1,h2⟩:=tyV_is I1 r1 ty
 refine ⟨T,id,pa,slot,hty,h1,h2,?_⟩
 have hA:=ha cpos pins s1 σ H1 _ I1 q1
 rw[hs] at hA ⊢
 refine Calls.callWith_builtin (by show (false||(backTo cpos (starEach es X.env)).any (·.1))=false;rw[hplain] <;> rfl) (Calls.evalArgs_plain ?_)
 exact thn hA fun us s2 ⟨vs,H2,I2,r2,q2⟩=>hm pins s2 σ H2 x vs v us Q I2 r1 r2 q2
end
end L2
namespace L2
open PySem PySem.Spec PyProof.Rows
def MtM (X:Cx) (id:String) (r:V->List V->Hp->VK->Prop):Prop:=
 ∀ (pins:List (Addr×Obj)) (s:Shared) (σ:St) (H:Hp) (x:V) (xs:List V) (v:Value) (us:List Value) (Q:VK),Inv X pins σ H s->RelV x v->Vals xs us->r x xs H Q →
  wpAny (model X.prog X.w) X.A (call (.builtin id) (v::us)) (EP X pins σ Q) X.xe s
theorem Vals.one:∀ {x:V} {us:List Value},Vals [x] us->∃ u,us=[u]/\RelV x u
 |_,_, .cons r .nil=>⟨_,rfl,r⟩
theorem Vals.two:∀ {x y:V} {us:List Value},Vals [x,y] us->∃ u v,us=[u,v]/\RelV x u/\RelV y v
 |_,_,_, .cons r (.cons q .nil)=>⟨_,_,rfl,r,q⟩
theorem Vals.zero:∀ {us:List Value},Vals [] us->us=[]
 |_, .nil=>rfl
theorem Vals.rep {xs:List V} {us:List Value} (h:Vals xs us):∀ k:Nat,Vals (List.replicate k xs).flatten (List.replicate k us).flatten
 |0 => .nil
 |k+1=>by
  rw[List.replicate_succ,List.replicate_succ,List.flatten_cons,List.flatten_cons]
  exact Vals.append h (Vals.rep h k)
theorem foldl_rep (its:List Value):∀ (k:Nat) (acc:List Value),
  List.foldl (fun x1 x2=>x1++x2) acc.toArray (List.replicate k its.toArray)=(acc++(List.replicate k its).flatten).toArray
 |0,acc=>by simp
 |k+1,acc=>by
  have e:acc.toArray++its.toArray=(acc++its).toArray:=by simp
  have e2:(acc++its)++(List.replicate k its).flatten=acc++(List.replicate (k+1) its).flatten:=by
   rw[List.replicate_succ,List.flatten_cons,List.append_assoc]
  rw[<- e2,<- foldl_rep its k (acc++its),<- e,List.replicate_succ,List.foldl_cons]
section
variable {X:Cx} {pins:List (Addr×Obj)} {σ:St} {H:Hp} {s:Shared} {l b:Addr} {xs ys zs:List V}
theorem Inv.lset {its its':List Value} {n:Nat} {f:Array Value->Array Value} {t':Nat} (I:Inv X pins σ H s) (hH:H l=some (.lst xs))
  (e:s.heap.get? l=some { cls := .type "list",data := .seq its.toArray n }) (hf:f its.toArray=its'.toArray) (hv:Vals ys its') (hz:ys.length<=sizeLine) (ht:0 < t':=by first |assumption |exact Nat.succ_pos _ |(apply Inv.tk;assumption)):
  Inv X pins σ (upd H l (.lst ys)) { s with heap:=s.heap.update l (Obj.mapSeq f),toks:=t' }:=by
 have q:=PySem.IsL.update e f
 rw[hf] at q
 refine I.write (x:=l) (e:=l) (by rw[hH];exact trivial) (.inl rfl) (fun b' u hb hu=>(Heap.get?_update_other s.heap (Obj.mapSeq f) (Ne.symm hb)).trans hu) ⟨_,q⟩ ?_
 exact ⟨hz,its',_,hv,q⟩
theorem Inv.lnew {its:List Value} {t':Nat} (I:Inv X pins σ H s) (hv:Vals ys its) (hz:ys.length<=sizeLine) (ht:0 < t':=by first |assumption |exact Nat.succ_pos _ |(apply Inv.tk;assumption)):
  Inv X pins σ (upd H s.heap.objs.size (.lst ys)) { s with heap:=s.heap.push { cls := .type "list",data := .seq its.toArray },toks:=t' }:=
 I.laid (fun _ _ q=>Heap.get?_push_of_some _ q) (Nat.le_refl _) ⟨hz,its,0,hv,Heap.get?_push_size _ rfl⟩
theorem Inv.fresh (I:Inv X pins σ H s):H s.heap.objs.size=none:=I.hok.fresh (Nat.le_refl _)
theorem Inv.lstM (I:Inv X pins σ H s) (hH:H l=some (.lst xs)):xs.length<=sizeLine/\∃ (its:List Value) (n:Nat),Vals xs its/\xs.length=its.length/\s.heap.get? l=some { cls := .type "list",data := .seq its.toArray n }:=by
 obtain ⟨z,its,n,r,e⟩:=I.hok l _ hH
 exact ⟨z,its,n,r,r.length,e⟩
theorem notLongL {n:Nat} (h:n<=sizeLine):Builtin.List.listTooLong n=false:=by
 unfold Builtin.List.listTooLong
 exact decide_eq_false (by omega)
end
section
variable {X:Cx}
def rAppend:V->List V->Hp->VK->Prop:=fun x vs H Q=>∃ l xs y,x = .ref l/\vs=[y]/\H l=some (.lst xs)/\xs.length < sizeLine/\Q .non (upd H l (.lst (xs++[y])))
theorem mt_append:MtM X "list.append" rAppend:=by
 intro pins s σ H x vs v us Q I rx rv h
 obtain ⟨l,xs,y,rfl,rfl,hH,hz,q⟩:=h
 cases rx
 obtain ⟨u,rfl,ru⟩:=rv.one
 obtain ⟨z,its,n,r,hl,e⟩:=I.lstM hH
 refine call_meets F.slot_list_append ⟨_,e,rfl⟩ F.entry_list_append (F.args_list_append_2 _ _) (PySem.list_append l its.toArray n u (by rw[List.size_toArray];omega)) ⟨e,?_⟩
 refine ⟨.non,_,I.lset (its':=its++[u]) hH e (by simp) (r.append (.cons ru .nil)) ?_,rfl,q⟩
 rw[List.length_append,List.length_singleton]
 omega
def rExtend:V->List V->Hp->VK->Prop:=fun x vs H Q=>∃ l b xs zs,x = .ref l/\vs=[.ref b]/\H l=some (.lst xs)/\H b=some (.lst zs)/\xs.length+zs.length<=sizeLine/\Q .non (upd H l (.lst (xs++zs)))
theorem mt_extend:MtM X "list.extend" rExtend:=by
 intro pins s σ H x vs v us Q I rx rv h
 obtain ⟨l,b,xs,zs,rfl,rfl,hH,hB,hz,q⟩:=h
 cases rx
 obtain ⟨u,rfl,ru⟩:=rv.one
 cases ru
 obtain ⟨z,its,n,r,hl,e⟩:=I.lstM hH
 obtain ⟨z2,its2,n2,r2,hl2,e2⟩:=I.lstM hB
 have hsz:its.toArray.size+its2.toArray.size<=sizeLine:=by rw[List.size_toArray,List.size_toArray];omega
 have hlong:¬ (!its.toArray.isEmpty&&Builtin.List.listTooLong (its.toArray.size+its2.toArray.size))=true:=by
  rw[notLongL hsz,Bool.and_false]
  exact Bool.false_ne_true
 refine call_meets F.slot_list_extend ⟨_,e,rfl⟩ F.entry_list_extend (F.args_list_extend_2 _ _)
  (AutoSeq1.list_extend_list_list_0 l its.toArray n b its2.toArray n2 hlong (by rw[List.size_toArray];omega) (by omega)) ⟨e,e2,?_⟩
 refine ⟨.non,_,I.lset (its':=its++its2) hH e (by simp) (r.append r2) ?_,rfl,q⟩
 rw[List.length_append]
 omega
def rCat:R2:=fun x y H Q=>∃ l b xs zs,x = .ref l/\y = .ref b/\H l=some (.lst xs)/\H b=some (.lst zs)/\xs.length+zs.length<=sizeLine/\∀ p,H p=none->Q (.ref p) (upd H p (.lst (xs++zs)))
theorem op_cat:OpR X (binaryOp .Add) rCat:=by
 intro pins s σ H x y v u Q I rx ry h
 obtain ⟨l,b,xs,zs,rfl,rfl,hH,hB,hz,q⟩:=h
 cases rx
 cases ry
 obtain ⟨z,its,n,r,hl,e⟩:=I.lstM hH
 obtain ⟨z2,its2,n2,r2,hl2,e2⟩:=I.lstM hB
 refine PySem.P.add_list e e2 ?_ (by rw[List.size_toArray,List.size_toArray];omega)
 have ea:its.toArray++its2.toArray=(its++its2).toArray:=by simp
 rw[ea]
 exact ⟨.ref _,_,I.lnew (t':=s.toks) (r.append r2) (by rw[List.length_append];omega),rfl,q _ I.fresh⟩
def rRep:R2:=fun x y H Q=>∃ l k xs,x = .ref l/\y = .int k/\H l=some (.lst xs) /\ -(2 ^ 63)<=k/\k < 2 ^ 63/\xs.length * k.toNat<=sizeLine ∧
 ∀ p,H p=none->Q (.ref p) (upd H p (.lst (List.replicate k.toNat xs).flatten))
theorem len_rep {α:Type} (xs:List α) (k:Nat):(List.replicate k xs).flatten.length=k * xs.length:=by
 induction k with
 |zero=>simp
 |succ k ih=>rw[List.replicate_succ,List.flatten_cons,List.length_append,ih,Nat.succ_mul,Nat.add_comm]
theorem op_rep:OpR X (binaryOp .Mult) rRep:=by
 intro pins s σ H x y v u Q I rx ry h
 obtain ⟨l,k,xs,rfl,rfl,hH,h1,h2,hz,q⟩:=h
 cases rx
 obtain ⟨t,rfl⟩:=ry
 obtain ⟨z,its,n,r,hl,e⟩:=I.lstM hH
 have hlen:its.toArray.size * k.toNat<=sizeLine:=by rw[List.size_toArray,<- hl];exact hz
 have hcap:¬ its.toArray.size * k.toNat > (2 ^ 63 - 1) / 8:=by
  have:(sizeLine:Nat)<=(2 ^ 63 - 1) / 8:=by decide
  omega
 have hfit:¬ (!Builtin.List.listFitsIndex k)=true:=by
  rw[fitsIndex_both h1 h2]
  exact Bool.false_ne_true
 have hlong:¬ Builtin.List.listTooLong (its.toArray.size * k.toNat)=true:=by
  rw[notLongL hlen]
  exact Bool.false_ne_true
 have hnew:List.foldl (fun x1 x2=>x1++x2) #[] (List.replicate (if its.toArray.isEmpty=true then 0 else k.toNat) its.toArray)=(List.replicate k.toNat its).flatten.toArray:=by
  have f0:∀ m:Nat,List.foldl (fun x1 x2=>x1++x2) #[] (List.replicate m its.toArray)=(List.replicate m its).flatten.toArray:=fun m=>by
   have:=foldl_rep its m []
   rw[List.nil_append] at this
   exact this
  rw[f0]
  cases its with
  |nil=>simp
  |cons a r'=>rw[if_neg (by simp)]
 refine wpAny_binaryOp_repeat_ref (T:="list") (U:="int") (by decide) ⟨_,e,rfl⟩ (fun s'=>typeIs_int s' k t) noFill_list_mul F.fills_int_mul F.slot_int_rmul repeat_list F.slot_int_index.lookup
  (call_meets F.slot_int_rmul (typeIs_int s k t) F.entry_int_rmul (F.args_int_rmul_2 _ _) (int___rmul___int_list k t l its.toArray n)
   ⟨e,rfl,⟨_,e,rfl⟩,call_meets F.slot_list_mul ⟨_,e,rfl⟩ F.entry_list_mul (F.args_list_mul_2 _ _) (AutoListH.list___mul___list_int_3 l its.toArray n k t hfit hcap hlong) ⟨e,?_⟩⟩)
 rw[hnew]
 exact ⟨.ref _,_,I.lnew (t':=s.toks) (r.rep k.toNat) (by rw[len_rep,Nat.mul_comm];exact hz),rfl,q _ I.fresh⟩
end
section
variable {prog:Program} {w:World} {A:Around} {E:Value->Shared->Prop} {s:Shared}
set_option maxRecDepth 100000 in
end
section
variable {X:Cx}
end
end L2
namespace Att
open PySem PySem.W PySem.Calls PyProof.Rows
section
variable {prog:Program} {w:World} {A:Around} {E:Value->Shared->Prop} {s:Shared} {K:Frag}
end
end Att
namespace L2
open PySem PySem.Spec PyProof.Rows
theorem vals_ints:∀ {vs:List Value} {ns:List Int},IntsAre vs ns->Vals (ns.map V.int) vs
 |_,_, .nil => .nil
 |_,_, .cons n t h => .cons ⟨t,rfl⟩ (vals_ints h)
end L2
namespace L2
open PySem PySem.Spec PyProof.Rows
abbrev KOf {K:PySem.W.Frag} {h:Heap} (_:K.In h):PySem.W.Frag:=K
end L2
namespace L2
open PySem PySem.Spec PyProof.Rows
def defArgs (s:Stmt):Arguments:=match s with
 | .FunctionDef _ a _ _ _ _ _ _ _ _=>a
 |_=>{ posonlyargs:=[],args:=[],vararg:=none,kwonlyargs:=[],kw_defaults:=[],kwarg:=none,defaults:=[] }
def defBody (s:Stmt):List Stmt:=match s with
 | .FunctionDef _ _ b _ _ _ _ _ _ _=>b
 |_=>[]
def defScope (s:Stmt):Scope:=match s with
 | .FunctionDef _ _ _ _ _ _ sc _ _ _=>sc
 |_=>{ kind := .function,names:=[],isGenerator:=false,isCoroutine:=false }
abbrev CX0:CXT:=fun _ _ _ _ _ _=>False
abbrev E0:XK:=fun _ _ _=>False
theorem pass0 {X:Cx}:Passes CX0 X E0:=fun _ _ _ _ _ _ _ h=>h.elim
structure Fun (K:PySem.W.Frag) (x qual:Str) (st:Stmt) (f:Addr) (fd:FuncData):Prop where
 ex:∃ (oc:Value) (od:Option Addr) (kV doc pm:Value) (an:Option Addr) (cdv ct:Value) (osl:Array (Option Value)),
  fd=PySem.W.fnOf x qual (defArgs st) (defBody st) (defScope st) .none kV doc pm an cdv ct/\K.lookup f=some ⟨oc,od, .func fd,osl⟩/\PySem.W.codeIn K cdv qual=true
 kp:PySem.W.keepIn K (.ref f)=true
section
variable {P:Program} {w:World} {K:PySem.W.Frag} {mg:Str->Option Value} {base:Heap}
theorem Fun.ok {x qual:Str} {st:Stmt} {f:Addr} {fd:FuncData} {N ps:List Str} {k:Nat} {sp:Sp} (F:Fun K x qual st f fd) (S:FnScope N ps (defScope st)) (len:∀ vs H Q E,sp vs H Q E->vs.length=ps.length)
  (hbody:∀ (cdv:Value) (A:Around) (outer:List Env) (s:Shared) (H:Hp) (vs:List V) (Q:VK) (E:XK),Room k (A.deeper (envOfC qual (defScope st) s.heap.objs.size f cdv))->sp vs H Q E →
   ∃ t,PSs (cxOf CX0 P w K mg base N qual (defScope st) f cdv A outer s H E).nox (defBody st) t/\t { nx:=fun _ H'=>Q .non H',rt:=Q } (start N vs) H):FnOk P w K mg base CX0 (k+1) f fd ps sp:=by
 obtain ⟨oc,od,kV,doc,pm,an,cdv,ct,osl,rfl,lk,hcd⟩:=F.ex
 refine fn_of lk hcd S len fun A outer s H vs Q E hr hsp=>?_
 obtain ⟨t,h,q⟩:=hbody cdv A outer s H vs Q E hr hsp
 exact ⟨t,h.nox,q⟩
theorem Fun.binds {x qual:Str} {st:Stmt} {f:Addr} {fd:FuncData} {ps:List Str} (F:Fun K x qual st f fd)
  (h:∀ (kV doc pm:Value) (an:Option Addr) (cdv ct:Value) (us:List Value),us.length=ps.length->bindArgs (PySem.W.fnOf x qual (defArgs st) (defBody st) (defScope st) .none kV doc pm an cdv ct) ⟨us,[]⟩=pure (ps.zip us)):Binds K fd ps []:=by
 obtain ⟨oc,od,kV,doc,pm,an,cdv,ct,osl,rfl,lk,hcd⟩:=F.ex
 exact .all (h kV doc pm an cdv ct)
theorem fun_mk {x qual:Str} {st:Stmt} {f:Addr} {oc:Value} {od an:Option Addr} {osl:Array (Option Value)} {kV doc pm cdv ct:Value} (l:K.lookup f=some ⟨oc,od, .func (PySem.W.fnOf x qual (defArgs st) (defBody st) (defScope st) .none kV doc pm an cdv ct),osl⟩)
  (c:PySem.W.codeIn K cdv qual=true) (k:PySem.W.keepIn K (.ref f)=true):Fun K x qual st f (PySem.W.fnOf x qual (defArgs st) (defBody st) (defScope st) .none kV doc pm an cdv ct):=⟨⟨oc,od,kV,doc,pm,an,cdv,ct,osl,rfl,l,c⟩,k⟩
end
section
variable {X:Cx}
theorem pv (i:Nat) {x:Str} {pos:Pos} (hN:X.N[i]? = some x:=by rfl) (hv:Vis X.env.scope x:=by first |exact Or.inl rfl |exact Or.inr (Or.inl rfl) |exact Or.inr (Or.inr rfl)) (hd:(x==("__debug__":Str))=false:=by decide)
  (hcd:(x==("__classdict__":Str))=false:=by decide):PE X (.Name x pos) (tVar i):=pe_var hN hv hd hcd
end
theorem iteF {A B:Prop} (h:B):if false=true then A else B:=by
 rw[if_neg Bool.false_ne_true]
 exact h
theorem iteT {A B:Prop} (h:A):if true=true then A else B:=by
 rw[if_pos rfl]
 exact h
theorem ite2 {c A B:Prop} [Decidable c] (h1:c->A) (h2:¬ c->B):if c then A else B:=by
 by_cases h:c
 ·rw[if_pos h]
  exact h1 h
 ·rw[if_neg h]
  exact h2 h
def Same (H H':Hp):Prop:=∀ b o,H b=some o->H' b=some o
theorem Same.refl (H:Hp):Same H H:=fun _ _ h=>h
theorem Same.trans {H H1 H2:Hp} (a:Same H H1) (b:Same H1 H2):Same H H2:=fun c o h=>b c o (a c o h)
theorem Same.free {H H':Hp} (e:Same H H') {l:Addr} (h:H' l=Option.none):H l=Option.none:=by
 cases q:H l with
 |none=>rfl
 |some o=>
  rw[e l o q] at h
  cases h
theorem Same.seq {K:PySem.W.Frag} {H H':Hp} {a:Addr} {xs:List V} (e:Same H H') (h:SqL K H a xs):SqL K H' a xs:=by
 rcases h with (h |⟨o,h⟩) |h
 ·exact .inl (.inl (e _ _ h))
 ·exact .inl (.inr ⟨o,e _ _ h⟩)
 ·exact .inr h
end L2
set_option Elab.async false
set_option linter.all false
set_option maxRecDepth 100000
namespace L2
open PySem PySem.Spec PyProof.Rows
def CellsIn (env:Env):List (Str×Addr)->Prop
 | []=>True
 |p::r=>env.cells.lookup p.1=some p.2/\CellsIn env r
theorem CellsIn.look {env:Env}:∀ {cl:List (Str×Addr)},CellsIn env cl->∀ x c,cl.lookup x=some c->env.cells.lookup x=some c
 | [],_,x,c,e=>by simp at e
 |p::r,h,x,c,e=>by
  obtain ⟨n,a⟩:=p
  rw[List.lookup_cons] at e
  cases q:x==n with
  |true=>
   rw[q] at e
   have q':x=n:=eq_of_beq q
   subst q'
   cases e
   exact h.1
  |false=>
   rw[q] at e
   exact h.2.look x c e
abbrev compX (X:Cx) (scope:Scope) (cl:List (Str×Addr)) (C:Addr) (N':List Str) (fp:List Addr) (s:Shared) (H:Hp):Cx:=
 { X with N:=N',s₀:=s,H₀:=H,env:=compEnvC scope cl C X.env,outer:=X.stack,ex:=fp,fn:=fun _=>false,pn:=[],xe:=fun _ _=>False }
def nfS (k:Nat) (fr:List Nat) (σ:St):St:=List.replicate k none++fr.map fun j=>(σ[j]?).join
structure CompN (X:Cx) (scope:Scope) (cl:List (Str×Addr)) (own:List Str) (fr:List Nat) (N':List Str):Prop where
 kind:scope.kind = .function
 cells:CellsIn X.env cl
 has:∀ x,((relabel scope X.env).names.lookup x=some .cell ∨ (relabel scope X.env).names.lookup x=some .free)->∃ c,cl.lookup x=some c
 nd:N'.Nodup
 len:N'.length=own.length+fr.length
 free:∀ (i:Nat) (j:Nat),fr[i]? = some j->∃ x,X.N[j]? = some x/\N'[own.length+i]? = some x/\(X.env.kindOf x=some .cell ∨ X.env.kindOf x=some .free) ∧
  ((relabel scope X.env).names.lookup x=some .cell ∨ (relabel scope X.env).names.lookup x=some .free)
section
variable {X:Cx} {pins:List (Addr×Obj)} {σ:St} {H:Hp} {s s4:Shared} {scope:Scope} {cl:List (Str×Addr)} {own:List Str} {fr:List Nat} {N':List Str} {fp:List Addr} {C:Addr} {H4:Hp}
theorem comp_ok (I:Inv X pins σ H s) (Z:CompN X scope cl own fr N') (hC:s.heap.objs.size<=C) (hf:∀ b∈fp,FpOk X pins H b) (ho:∀ b∈fp,∃ o,s.heap.get? b=some o/\∀ v,o.data ≠ .cell v):(compX X scope cl C N' fp s H).Ok where
 mod:=I.ok.mod
 kind:=Z.kind
 glob:=I.ok.glob
 blt:=I.ok.blt
 above:=hC
 inj:=fun x y c h1 h2=>I.ok.inj x y c (Z.cells.look x c h1) (Z.cells.look y c h2)
 has:=fun x h=>Z.has x h
 cab:=fun x c h _=>Bool.noConfusion h
 hd:=I.ok.hd
 frames:=I.ok.frames
 stk := .inl rfl
 exf:=fun b hb=>by
  obtain ⟨o,e,_⟩:=ho b hb
  refine ⟨Nat.ne_of_lt (Nat.lt_of_lt_of_le (Heap.lt_size e) hC),fun x c h=>?_⟩
  exact (hf b hb).2.2.2.2.1 x c (Z.cells.look x c h)
 bs:=I.bs
 bsz:=Nat.le_trans I.ok.bsz I.sz
 noex:=fun b o e hb=>by
  rcases (hf b hb).2.2.2.1 with z |z
  ·exact I.ok.noex b o e z
  ·exact absurd (Nat.lt_of_lt_of_le (Heap.lt_size e) (Nat.le_trans I.ok.bsz z)) (Nat.lt_irrefl _)
 exfs:=fun b hb z=>by
  rcases List.mem_cons.mp (I.stkSub b z) with e |e
  ·exact (hf b hb).2.1 e
  ·exact (hf b hb).2.2.1 e
 funs:=I.stack
 frf:=I.stkFree
theorem comp_inv (I:Inv X pins σ H s) (Z:CompN X scope cl own fr N') (hC:s.heap.objs.size<=C) (hf:∀ b∈fp,FpOk X pins H b) (ho:∀ b∈fp,∃ o,s.heap.get? b=some o/\∀ v,o.data ≠ .cell v)
  (os:s4.os=s.os) (bare:AllBare s4.gens) (un:Un (frs X.stack) fp H H4 s.heap s4.heap) (ns:∃ m,s4.heap.Ns C m) (kc:∀ x c v,X.env.cells.lookup x=some c->s.heap.IsCell c v->s4.heap.IsCell c v)
  (fr4:H4 C=none) (hok:HOk X.prog X.w H4 s4.heap) (tk:0 < s4.toks):Inv (compX X scope cl C N' fp s H) [] (nfS own.length fr σ) H4 s4 where
 ok:=comp_ok I Z hC hf ho
 os:=os
 bare:=bare
 base:=un
 loc:=by
  obtain ⟨m,hm⟩:=ns
  refine ⟨m,hm,fun i x v h1 h2 h3=>?_⟩
  unfold nfS at h2
  by_cases hi:i < own.length
  ·rw[List.getElem?_append_left (by simpa using hi),List.getElem?_replicate,if_pos hi] at h2
   cases h2
  ·rw[List.getElem?_append_right (by simpa using hi),List.length_replicate,List.getElem?_map] at h2
   cases q:fr[i - own.length]? with
   |none=>rw[q] at h2;cases h2
   |some j=>
    rw[q] at h2
    have h2':(σ[j]?).join=some v:=Option.some.inj h2
    obtain ⟨y,e1,e2,e3,e4⟩:=Z.free _ j q
    have ei:own.length+(i - own.length)=i:=by omega
    rw[ei] at e2
    have h1':N'[i]? = some x:=h1
    rw[e2] at h1'
    cases h1'
    have hs:σ[j]? = some (some v):=by
     cases r:σ[j]? with
     |none=>rw[r] at h2';cases h2'
     |some w=>rw[r] at h2';cases w with
      |none=>cases h2'
      |some w=>cases h2';rfl
    obtain ⟨m0,_,hl⟩:=I.loc
    have vis:Vis X.env.scope x:=e3.elim (fun z => .inr (.inl z)) fun z => .inr (.inr z)
    obtain ⟨u,ru,lk⟩:=hl j x v e1 hs vis
    refine ⟨u,ru,?_⟩
    rcases lk with ⟨k,_⟩ |⟨_,c,ec,hc⟩
    ·rcases e3 with z |z <;> (rw[k] at z;cases z)
    ·obtain ⟨c',ec'⟩:=Z.has x e4
     have:=Z.cells.look x c' ec'
     rw[ec] at this
     cases this
     exact .inr ⟨e4,c,ec',kc x c _ ec hc⟩
 cell:=fun x c e=>by
  have e':=Z.cells.look x c e
  obtain ⟨v,hv⟩:=I.cell x c e'
  exact ⟨v,kc x c v e' hv⟩
 free:=fr4
 freeC:=fun x c e=>by
  have e':=Z.cells.look x c e
  obtain ⟨v,o,hv,_⟩:=I.cell x c e'
  refine un.free c o hv (I.freeC x c e') fun hb=>?_
  exact (hf c hb).2.2.2.2.1 x c e' rfl
 pin:=fun p hp=>absurd (show p∈([]:List (Addr×Obj)) from hp) (by simp)
 hok:=hok
 len:=by
  show (nfS own.length fr σ).length=N'.length
  unfold nfS
  rw[List.length_append,List.length_replicate,List.length_map,Z.len]
 tk:=tk
theorem comp_out {σ':St} (I:Inv X pins σ H s) (hf:∀ b∈fp,FpOk X pins H b) {pins':List (Addr×Obj)} (J:Inv (compX X scope cl C N' fp s H) pins' σ' H4 s4):Inv X pins σ H4 s4:=
 I.call' J.os J.base J.hok J.bare (fun b hb=>⟨(hf b hb).2.2.2.1,(hf b hb).2.1,(hf b hb).2.2.2.2.1,(hf b hb).2.2.2.2.2⟩) J.tk
theorem comp_gone {C:Addr} {h':Heap} (I0:Inv X pins σ H s) (hC:s.heap.objs.size<=C) {σ':St} (I:Inv X pins σ' H4 s4) (fr4:H4 C=none) (hs:Heap.SameBut C s4.heap h'):Inv X pins σ' H4 { s4 with heap:=h' }:=by
 refine I.turned (t':=s4.toks) (it:=C) (fun b o hb e=>(hs.2 b hb).trans e) fr4 ?_ (.inr (Nat.le_trans I0.sz hC)) ?_ ?_
 ·exact Nat.ne_of_gt (Nat.lt_of_lt_of_le I0.lt hC)
 ·intro x c e z
  obtain ⟨v,q⟩:=I0.cell x c e
  exact absurd (Nat.lt_of_lt_of_le q.lt (by rw[z];exact hC)) (Nat.lt_irrefl _)
 ·intro p hp z
  exact absurd (Nat.lt_of_lt_of_le (Heap.lt_size (I0.pin p hp).1) (by rw[z];exact hC)) (Nat.lt_irrefl _)
end
def PTs (X:Cx) (ifs:List Expr) (t:TT):Prop:=
 ∀ (pins:List (Addr×Obj)) (s:Shared) (σ:St) (H:Hp) (Q:Bool->Hp->Prop),Inv X pins σ H s->t σ H Q →
  wpAny (model X.prog X.w) X.A (forIn ifs true fun c r=>if r=true then do let ok ← isTrue c X.env (eval c X.env);pure (ForInStep.yield ok) else pure (ForInStep.yield r)) (TP X pins σ Q) X.xe s
def tYes:TT:=fun _ H Q=>Q true H
theorem pts_nil {X:Cx}:PTs X [] tYes:=fun _ _ _ H _ I h=>wpAny_tests_nil ⟨H,I,h⟩
section
variable {prog:Program} {w:World} {A:Around} {R:Result->Shared->Prop} {s:Shared}
theorem compLoop_any {elt target iter:Expr} {ifs:List Expr} {scope:Scope} {pos:Pos} {it acc:Value} {env:Env} (I:Nat->Shared->Prop)
  (turn : ∀ n s, I n s -> wpAny (model prog w) A (pyNext it) (fun r s₁=>match r with
   |none=>R (.ok .next) s₁
   | some v => wpAny (model prog w) A (letOwnedTupleGo target it v) (fun _ s₂ => wpAny (model prog w) A (assign target env v) (fun _ s₂=>
     wpAny (model prog w) A (forIn ifs true fun c r => if r = true then do let ok ← isTrue c env (eval c env); pure (ForInStep.yield ok) else pure (ForInStep.yield r)) (fun ok s₃=>
      if ok = true then wpAny (model prog w) A (eval elt env) (fun x s₄=>
       wpAny (model prog w) A (call (.builtin "list.append") [acc,x]) (fun _ s₅=>∃ m,m < n/\I m s₅) (fun _ _=>False) s₄) (fun _ _=>False) s₃
      else ∃ m,m < n/\I m s₃) (fun _ _=>False) s₂) (fun _ _=>False) s₂) (fun _ _=>False) s₁) (fun _ _=>False) s)
  (n:Nat) (h:I n s):
  codeAny (model prog w) A (.compLoop (.ListComp elt [⟨target,iter,ifs,0⟩] scope pos) 0 it acc env) R s:=by
 have no:∀ {E:Value->Shared->Prop} (e:Value) (s':Shared),(fun _ _=>False:Value->Shared->Prop) e s'->E e s':=fun _ _ z=>False.elim z
 refine codeAny_loop rfl I (fun n s hI=>?_) n h
 show wpAny _ A ((compTurn (.ListComp elt [⟨target,iter,ifs,0⟩] scope pos) 0 it acc env).onRaise (fun x=>do noteFrame x env;theTreesLotGoes x)) _ _ s
 refine wpAny_noted ?_
 rw[compTurn_list]
 refine wpAny_bind (wpAny_standAt (wpAny_bind (wpAny_mono (turn n s hI) (fun r s₁ h₁=>?_) no)))
 cases r with
 |none=>exact wpAny_pure h₁
 |some v=>
  refine wpAny_bind (wpAny_mono h₁ (fun _ s₂ h₂=>?_) no)
  refine wpAny_bind (wpAny_mono h₂ (fun _ s₂ h₂=>wpAny_bind (wpAny_mono h₂ (fun ok s₃ h₃=>?_) no)) no)
  cases ok with
  |false=>exact wpAny_pure ⟨rfl,h₃⟩
  |true=>
   exact wpAny_bind (wpAny_bind (wpAny_mono h₃ (fun x s₄ h₄=>wpAny_bind (wpAny_mono h₄ (fun _ s₅ h₅=>wpAny_pure (wpAny_pure ⟨rfl,h₅⟩)) no)) no))
end
def nfLe (k:Nat) (fr:List Nat) (σ σ2:St):Prop:=σ2.length=(nfS k fr σ).length/\∀ (i:Nat) (v:V),(nfS k fr σ)[i]? = some (some v)->σ2[i]? = some (some v)
theorem nfLe.refl (k:Nat) (fr:List Nat) (σ:St):nfLe k fr σ (nfS k fr σ):=⟨rfl,fun _ _ h=>h⟩
theorem nfLe.set {k:Nat} {fr:List Nat} {σ σ2:St} {i:Nat} (h:nfLe k fr σ σ2) (hi:i < k) (x:Option V):nfLe k fr σ (σ2.set i x):=by
 refine ⟨by rw[List.length_set];exact h.1,fun j v e=>?_⟩
 by_cases hj:i=j
 ·subst hj
  unfold nfS at e
  rw[List.getElem?_append_left (by simpa using hi),List.getElem?_replicate,if_pos hi] at e
  cases e
 ·rw[List.getElem?_set_ne hj]
  exact h.2 j v e
def rLC (k:Nat) (fr:List Nat) (g:TG) (tt:TT) (te:TE) (σ:St) (J:It) (H1:Hp) (Q:Addr->Hp->Prop):Prop:=
 ∀ D,H1 D=none->∃ W:Nat->Nat->List V->Hp->Prop,(∃ m,W 0 m [] (upd H1 D (.lst [])))/\∀ i m acc H,W i m acc H->H D=some (.lst acc) ∧
  ((J.stop i H /\ Q D H) ∨ (J.go i H/\∀ x H',J.yld i H x H'->g x (nfS k fr σ) H' fun σ2 H2=>nfLe k fr σ σ2/\tt σ2 H2 fun b H3=>
   if b=true then te σ2 H3 fun y H4=>H4 D=some (.lst acc)/\acc.length < sizeLine/\∃ m',m' < m/\W (i+1) m' (acc++[y]) (upd H4 D (.lst (acc++[y])))
   else ∃ m',m' < m/\W (i+1) m' acc H3))
def tLC (wi:TI) (k:Nat) (fr:List Nat) (g:TG) (tt:TT) (te:TE):TE:=fun σ H Q=>wi σ H fun J H1=>rLC k fr g tt te σ J H1 fun D H'=>Q (.ref D) H'
section
variable {X:Cx} {scope:Scope} {cl:List (Str×Addr)} {own:List Str} {fr:List Nat} {N':List Str} {tg iter elt:Expr} {ifs:List Expr} {wi:TI} {g:TG} {tt:TT} {te:TE} {pos:Pos}
structure TurnP (Cm:Cx->Prop) (P:Program) (w:World) (K:PySem.W.Frag) (tg:Expr) (J:It) (fp:List Addr) (it:Addr) (tn:Nat->Heap->Prop):Prop where
 obj:∀ i h,tn i h->∀ b∈fp,∃ o,h.get? b=some o/\∀ v,o.data ≠ .cell v
 keep:∀ i h h',tn i h->(∀ b∈fp,∀ o,h.get? b=some o->h'.get? b=some o)->tn i h'
 item:∀ (X:Cx),X.prog=P->X.w=w->X.K=K->Cm X->∀ (i:Nat) (pins:List (Addr×Obj)) (s:Shared) (σ:St) (H:Hp) (E:Value->Shared->Prop),Inv X pins σ H s->(∀ b∈fp,FpOk X pins H b)->tn i s.heap->J.go i H →
  wpAny (model P w) X.A (pyNext (.ref it)) (fun r s1=>∃ u,r=some u ∧
   wpAny (model P w) X.A (letOwnedTupleGo tg (.ref it) u) (fun _ s2=>∃ x H',Inv X pins σ H' s2/\RelV x u/\J.yld i H x H'/\tn (i+1) s2.heap/\∀ b∈fp,H' b=none) E s1) E s
 done:∀ (X:Cx),X.prog=P->X.w=w->X.K=K->Cm X->∀ (i:Nat) (pins:List (Addr×Obj)) (s:Shared) (σ:St) (H:Hp) (E:Value->Shared->Prop),Inv X pins σ H s->(∀ b∈fp,FpOk X pins H b)->tn i s.heap->J.stop i H →
  wpAny (model P w) X.A (pyNext (.ref it)) (fun r s1=>r=none/\Inv X pins σ H s1) E s
 self:∀ (A:Around) (i:Nat) (s:Shared) (Q:Value->Shared->Prop) (E:Value->Shared->Prop),tn i s.heap->Q (.ref it) s->wpAny (model P w) A (pyIter (.ref it)) Q E s
theorem Turn.toP {P:Program} {w:World} {K:PySem.W.Frag} {tg:Expr} {J:It} {fp:List Addr} {it:Addr} {tn:Nat->Heap->Prop} (T:Turn P w K tg J fp it tn):TurnP (fun X=>X.calm=true) P w K tg J fp it tn:=⟨T.obj,T.keep,T.item,T.done,T.self⟩
theorem comp_block {pins:List (Addr×Obj)} {σ:St} {H:Hp} {s:Shared} {it:Addr} {fp:List Addr} {tn:Nat->Heap->Prop} {J:It} {Q:Addr->Hp->Prop} {RR:Value->Addr->Result->Shared->Prop} {E:Value->Shared->Prop}
  {Cm:Cx->Prop} (hc:∀ C,Cm (compX X scope cl C N' fp s H)) (Z:CompN X scope cl own fr N') (hcell:∀ y∈scope.names,y.2 ≠ .cell)
  (hg:∀ C,PG (compX X scope cl C N' fp s H) tg g) (ht:∀ C,PTs (compX X scope cl C N' fp s H) ifs tt) (he:∀ C,PE (compX X scope cl C N' fp s H) elt te)
  (I:Inv X pins σ H s) (T:TurnP Cm X.prog X.w X.K tg J fp it tn) (st:tn 0 s.heap) (hf:∀ b∈fp,FpOk X pins H b) (q:rLC own.length fr g tt te σ J H Q)
  (hRR:∀ D C s' H' ,s.heap.objs.size<=C->(∃ m,s'.heap.Ns C m)->H' C=none->Inv X pins σ H' s'->Q D H'->RR (.ref D) C (.ok .next) s'):
  wpAny (model X.prog X.w) X.A (newList []) (fun acc s₃ => wpAny (model X.prog X.w) X.A (newFunctionEnv scope X.env.globals cl [] X.env.qual none .none (some X.env)) (fun cenv s₄=>
   codeAny (model X.prog X.w) X.A (.compStart (.ListComp elt [⟨tg,iter,ifs,0⟩] scope pos) 0 (.ref it) acc { cenv with scope:=relabel scope X.env }) (RR acc cenv.locals) s₄) E s₃) E s:=by
 refine wpAny_newObj_type (wpAny_newFunctionEnv hcell (by intro y hy;simp at hy) (fun h₁ hns₁ hsb₁=>?_) Z.kind)
 dsimp only at hns₁ hsb₁ ⊢
 generalize hH2:s.heap.push { cls := .type "list",dict:=none,data := .seq ([]:List Value).toArray }=H2 at hns₁ hsb₁ ⊢
 have hC:H2.objs.size=s.heap.objs.size+1:=by rw[<- hH2,Heap.size_push]
 have hCle:s.heap.objs.size<=H2.objs.size:=by rw[hC];exact Nat.le_succ _
 have hDC:s.heap.objs.size≠H2.objs.size:=by rw[hC];exact Nat.ne_of_lt (Nat.lt_succ_self _)
 have old:∀ b o,s.heap.get? b=some o->h₁.get? b=some o:=fun b o e=>
  hsb₁.extBut b o (Nat.ne_of_lt (Nat.lt_of_lt_of_le (Heap.lt_size e) hCle)) (Heap.get?_push_of_some _ (hH2▸Heap.get?_push_of_some _ e))
 have hD:h₁.get? s.heap.objs.size=some { cls := .type "list",dict:=none,data := .seq ([]:List Value).toArray }:=
  hsb₁.extBut _ _ hDC (Heap.get?_push_of_some _ (hH2▸Heap.get?_push_size _ rfl))
 have ho:=T.obj _ _ st
 have frD:H s.heap.objs.size=none:=I.hok.fresh (Nat.le_refl _)
 have frC:H H2.objs.size=none:=I.hok.fresh hCle
 obtain ⟨W,⟨m0,w0⟩,turn⟩:=q s.heap.objs.size frD
 have hok1:HOk X.prog X.w (upd H s.heap.objs.size (.lst [])) h₁:=I.hok.laid old (Nat.le_refl _) ⟨Nat.zero_le _,[],0, .nil,hD⟩
 have un1:Un (frs X.stack) fp H (upd H s.heap.objs.size (.lst [])) s.heap h₁:=Un.laid old (Nat.le_refl _) frD
 have C1:upd H s.heap.objs.size (.lst []) H2.objs.size=none:=by rw[upd_ne (Ne.symm hDC)];exact frC
 have fpD:∀ b∈fp,b≠s.heap.objs.size:=fun b hb z=>by
  obtain ⟨o,e,_⟩:=ho b hb
  exact absurd (Heap.lt_size e) (by rw[z];exact Nat.lt_irrefl _)
 have J0:∀ t,0 < t->Inv (compX X scope cl H2.objs.size N' fp s H) [] (nfS own.length fr σ) (upd H s.heap.objs.size (.lst [])) { s with heap:=h₁,toks:=t }:=fun t ht=>
  comp_inv I Z hCle hf ho rfl I.bare un1 ⟨_,hns₁⟩ (fun x c v e ⟨o,e1,e2⟩=>⟨o,old c o e1,e2⟩) C1 hok1 ht
 have st1:tn 0 h₁:=T.keep _ _ _ st fun b _ o e=>old b o e
 have loop:∀ s₃:Shared,s₃={ s with heap:=h₁,toks:=s.toks+([]:List (Str×Value)).length } →
   codeAny (model X.prog X.w) X.A (.compLoop (.ListComp elt [⟨tg,iter,ifs,0⟩] scope pos) 0 (.ref it) (.ref s.heap.objs.size) (compEnvC scope cl H2.objs.size X.env)) (RR (.ref s.heap.objs.size) H2.objs.size) s₃:=by
  rintro s₃ rfl
  generalize hX:compX X scope cl H2.objs.size N' fp s H=X' at J0
  have hg':PG X' tg g:=by rw[<- hX];exact hg _
  have ht':PTs X' ifs tt:=by rw[<- hX];exact ht _
  have he':PE X' elt te:=by rw[<- hX];exact he _
  have eP:X'.prog=X.prog:=by rw[<- hX]
  have eW:X'.w=X.w:=by rw[<- hX]
  have eK:X'.K=X.K:=by rw[<- hX]
  have eA:X'.A=X.A:=by rw[<- hX]
  have eE:X'.env=compEnvC scope cl H2.objs.size X.env:=by rw[<- hX]
  have eX:X'.xe=fun _ _=>False:=by rw[<- hX]
  have eC:Cm X':=by rw[<- hX];exact hc _
  have fpX:∀ {H':Hp},(∀ b∈fp,H' b=none)->∀ b∈fp,FpOk X' [] H' b:=fun hn b hb=>by
   rw[<- hX]
   have ok:=comp_ok I Z hCle hf ho
   refine ⟨hn b hb,(ok.exf b hb).1,ok.exfs b hb, .inl hb,(ok.exf b hb).2,fun p hp=>absurd (show p∈([]:List (Addr×Obj)) from hp) (by simp)⟩
  refine compLoop_any (fun n s'=>∃ i acc H',Inv X' [] (nfS own.length fr σ) H' s'/\tn i s'.heap/\(∀ b∈fp,H' b=none)/\W i n acc H') ?_ m0 ⟨0,[],_,J0 _ (by have:=I.tk;omega),st1,fun b hb=>by rw[upd_ne (fpD b hb)];exact (hf b hb).1,w0⟩
  rintro n s3 ⟨i,acc,H3,I3,st3,fr3,w3⟩
  obtain ⟨hDa,turn3⟩:=turn i n acc H3 w3
  rcases turn3 with ⟨stop,qn⟩ |⟨go,step⟩
  ·have:=T.done X' eP eW eK eC i [] s3 _ H3 (fun _ _=>False) I3 (fpX fr3) st3 stop
   rw[eA] at this
   refine thn this fun r s4 ⟨hr,I4⟩=>?_
   subst hr
   show RR _ _ _ _
   have I4':Inv (compX X scope cl H2.objs.size N' fp s H) [] (nfS own.length fr σ) H3 s4:=by rw[hX];exact I4
   obtain ⟨m,hm,_⟩:=I4'.loc
   exact hRR _ _ s4 H3 hCle ⟨m,hm⟩ I4'.free (comp_out I hf I4') qn
  ·have:=T.item X' eP eW eK eC i [] s3 _ H3 (fun _ _=>False) I3 (fpX fr3) st3 go
   rw[eA] at this
   refine thn this fun r s4 ⟨u,hr,h4⟩=>?_
   subst hr
   show wpAny _ _ (letOwnedTupleGo tg (.ref it) u) _ _ s4
   refine thn h4 fun _ s5 ⟨x,H5,I5,r5,y5,st5,fr5⟩=>?_
   have I5':=I5.pinned (fpX fr5) (T.obj _ _ st5)
   have back:∀ {σ7:St} {H7:Hp} {s7:Shared},Inv X' ([]++pinsAt fp s5.heap) σ7 H7 s7->tn (i+1) s7.heap/\∀ b∈fp,H7 b=none:=fun {σ7 H7 s7} I7=>by
    refine ⟨T.keep _ _ _ st5 fun b hb o e=>(I7.pin (b,o) (List.mem_append_right _ (List.mem_append_right _ (mem_pinsAt hb e)))).1,fun b hb=>?_⟩
    obtain ⟨o,e,d⟩:=T.obj _ _ st5 b hb
    exact (I7.pin (b,o) (List.mem_append_right _ (List.mem_append_right _ (mem_pinsAt hb e)))).2.1
   have g5:=hg' _ s5 _ H5 x u _ I5' r5 (step x H5 y5)
   rw[eP,eW,eA,eE,eX] at g5
   refine thn g5 fun _ s6 ⟨σ6,H6,I6,nf6,q6⟩=>?_
   have t6:=ht' _ s6 σ6 H6 _ I6 q6
   rw[eP,eW,eA,eE,eX] at t6
   refine thn t6 fun ok s7 ⟨H7,I7,q7⟩=>?_
   have again:∀ {H8:Hp} {s8:Shared} {acc8:List V},Inv X' ([]++pinsAt fp s5.heap) σ6 H8 s8->(∃ m',m' < n/\W (i+1) m' acc8 H8) →
     ∃ m,m < n/\∃ i acc H',Inv X' [] (nfS own.length fr σ) H' s8/\tn i s8.heap/\(∀ b∈fp,H' b=none)/\W i m acc H':=fun {H8 s8 acc8} I8 ⟨m',hm,w8⟩=>
    ⟨m',hm,i+1,acc8,H8,I8.unpinned.weak nf6.1.symm nf6.2,(back I8).1,(back I8).2,w8⟩
   cases ok with
   |false=>
    have q7':∃ m',m' < n/\W (i+1) m' acc H7:=by rw[if_neg Bool.false_ne_true] at q7;exact q7
    show if false=true then _ else _
    rw[if_neg Bool.false_ne_true]
    exact again I7 q7'
   |true=>
    rw[if_pos rfl] at q7
    show if true=true then _ else _
    rw[if_pos rfl]
    have e7:=he' _ s7 σ6 H7 _ I7 q7
    rw[eP,eW,eA,eE,eX] at e7
    refine thn e7 fun yv s8 ⟨y,H8,I8,r8,hD8,hz8,m',hm,w8⟩=>?_
    have a8:=mt_append _ s8 σ6 H8 (.ref s.heap.objs.size) [y] (.ref s.heap.objs.size) [yv] (fun _ H9=>H9=upd H8 s.heap.objs.size (.lst (acc++[y]))) I8 rfl (.cons r8 .nil) ⟨_,acc,y,rfl,rfl,hD8,hz8,rfl⟩
    rw[eP,eW,eA,eX] at a8
    refine thn a8 fun _ s9 ⟨_,H9,I9,_,e9⟩=>?_
    subst e9
    exact again I9 ⟨m',hm,w8⟩
 exact codeAny_compStart_list (loop _ rfl) (T.self _ 0 _ _ _ st1 (loop _ rfl))
theorem pe_lc (hc:X.calm=true) (Z:CompN X scope cl own fr N') (hcell:∀ y∈scope.names,y.2 ≠ .cell) (hnames:∀ x∈scope.names,x.2 = .local->scope.names.lookup x.1=some .local) (hclos:closureFor scope X.env=pure cl)
  (hi:PI X tg iter wi) (hg:∀ C fp s H,PG (compX X scope cl C N' fp s H) tg g) (ht:∀ C fp s H,PTs (compX X scope cl C N' fp s H) ifs tt) (he:∀ C fp s H,PE (compX X scope cl C N' fp s H) elt te)
  (hs:∀ x,foldedSetIterable iter X.env x=pure x:=by intro _;rfl):PE X (.ListComp elt [⟨tg,iter,ifs,0⟩] scope pos) (tLC wi own.length fr g tt te):=by
 intro pins s σ H Q I h
 rw[eval_ListComp]
 refine wpAny_comprehension_free (use:=none) rfl hs hclos Z.kind hnames (thn (hi pins s σ H _ I h) fun v s1 h1=>thn h1 fun itv s2 h2=>?_)
 obtain ⟨it,fp,tn,J,H2,e,I2,T,st2,f2,q2⟩:=h2
 subst e
 refine comp_block (Cm:=fun X=>X.calm=true) (fun _=>hc) Z hcell (fun C=>hg C _ _ _) (fun C=>ht C _ _ _) (fun C=>he C _ _ _) I2 T.toP st2 f2 q2 (RR:=fun acc C=>compPost (model X.prog X.w) X.A X.xe none (EP X pins σ Q) acc C) fun D C s' H' hC ⟨m,hm⟩ fC I' q'=>?_
 exact ⟨m,hm,fun h' hs'=>⟨.ref D,H',comp_gone I2 hC I' fC hs',rfl,q'⟩⟩
def tSetLC (i:Nat) (wi:TI) (k:Nat) (fr:List Nat) (g:TG) (tt:TT) (te:TE):TS:=fun D σ H=>wi σ H fun J H1=>rLC k fr g tt te σ J H1 fun a H'=>D.nx (σ.set i (some (.ref a))) H'
theorem ps_setlc {i:Nat} {x:Str} {pos' spos:Pos} (hN:X.N.Nodup) (hix:X.N[i]? = some x) (hx:X.env.scope.names.lookup x=some .local) (hc:X.calm=true) (Z:CompN X scope cl own fr N') (hcell:∀ y∈scope.names,y.2 ≠ .cell)
  (hnames:∀ x∈scope.names,x.2 = .local->scope.names.lookup x.1=some .local) (hclos:closureFor scope X.env=pure cl)
  (hi:PI X tg iter wi) (hg:∀ C fp s H,PG (compX X scope cl C N' fp s H) tg g) (ht:∀ C fp s H,PTs (compX X scope cl C N' fp s H) ifs tt) (he:∀ C fp s H,PE (compX X scope cl C N' fp s H) elt te)
  (hs:∀ x,foldedSetIterable iter X.env x=pure x:=by intro _;rfl) (hsw:swapsWith (.ListComp elt [⟨tg,iter,ifs,0⟩] scope pos) (some (.Name x pos')) spos.line X.env=pure true:=by rfl):
  PS X (.Assign [.Name x pos'] (.ListComp elt [⟨tg,iter,ifs,0⟩] scope pos) spos) (tSetLC i wi own.length fr g tt te):=by
 intro pins s σ H D I h
 rw[exec_Assign_Name_used _ _ _ _ hsw]
 refine wpAny_bind (wpAny_standAt (wpAny_bind ?_))
 show wpAny _ X.A (do let _ ← comprehension (.ListComp elt [⟨tg,iter,ifs,0⟩] scope pos) scope X.env _ (newList []) false (eval iter X.env) (some (assign (.Name x pos') X.env))) _ _ s
 refine wpAny_bind (wpAny_mono (wpAny_comprehension_free (use:=some (assign (.Name x pos') X.env)) (Q:=fun _ s'=>SP X pins D .next s') rfl hs hclos Z.kind hnames
  (thn (hi pins s σ H _ I h) fun v s1 h1=>thn h1 fun itv s2 h2=>?_)) (fun _ s' hq=>wpAny_pure (wpAny_pure hq)) fun _ _ e=>e)
 obtain ⟨it,fp,tn,J,H2,e,I2,T,st2,f2,q2⟩:=h2
 subst e
 refine comp_block (Cm:=fun X=>X.calm=true) (fun _=>hc) Z hcell (fun C=>hg C _ _ _) (fun C=>ht C _ _ _) (fun C=>he C _ _ _) I2 T.toP st2 f2 q2 (RR:=fun acc C=>compPost (model X.prog X.w) X.A X.xe (some (assign (.Name x pos') X.env)) (fun _ s'=>SP X pins D .next s') acc C) fun a C s' H' hC ⟨m,hm⟩ fC I' q'=>?_
 show wpAny _ _ (assign (.Name x pos') X.env (.ref a)) _ _ s'
 have neC:∀ b,b=X.env.locals ∨ X.env.cells.lookup x=some b->C≠b:=fun b hb z=>by
  subst z
  rcases hb with e |e
  ·exact Nat.ne_of_gt (Nat.lt_of_lt_of_le I2.lt hC) e
  ·obtain ⟨v,q⟩:=I2.cell x C e
   exact absurd (Nat.lt_of_lt_of_le q.lt hC) (Nat.lt_irrefl _)
 refine wpAny_assign_Name (store_ok2 I' hN hix (.inl hx) (v := .ref a) rfl (fun s'' I'' ⟨b,sb,eb⟩=>?_) (.inr hx))
 refine ⟨m,hm.sameBut sb (neC b eb),fun h' hs'=>⟨_,H',comp_gone I2 hC I'' fC hs',q'⟩⟩
end
end L2
set_option Elab.async false
set_option linter.all false
set_option maxRecDepth 100000
namespace L2
open PySem PySem.Spec PyProof.Rows
open Builtin Builtin.Str
section
variable {X:Cx}
theorem vals_str:∀ {ys:List Str} {us:List Value},Vals (ys.map V.str) us->∃ l:List (Str×Tok),us=strValues l/\l.map (·.1)=ys
 | [],us,r=>by
  rw[List.map_nil] at r
  cases r
  exact ⟨[],rfl,rfl⟩
 |y::ys,us,r=>by
  rw[List.map_cons] at r
  cases r with
  |cons r1 r2=>
   obtain ⟨t,e⟩:=r1
   obtain ⟨l,e1,e2⟩:=vals_str r2
   subst e
   subst e1
   exact ⟨(y,t)::l,rfl,by rw[List.map_cons,e2]⟩
def rJoin (K:PySem.W.Frag):V->List V->Hp->VK->Prop:=fun x vs H Q=>∃ z a ys,x = .str z/\vs=[.ref a]/\SqL K H a (ys.map V.str)/\(ys.map (·.length)).sum+ys.length * z.length<=sizeLine/\Q (.str (Txt.join z ys)) H
theorem join_fold (z:Str):∀ (ys:List Str) (n:Nat),ys.foldl (fun (n:Nat) (s:Str)=>n+s.length+z.length) n=n+((ys.map (·.length)).sum+ys.length * z.length)
 | [],n=>by simp
 |y::ys,n=>by
  rw[List.foldl_cons,join_fold z ys,List.map_cons,List.sum_cons,List.length_cons,Nat.succ_mul]
  omega
theorem mt_join:MtR X "str.join" (rJoin X.K):=by
 intro pins s σ H x vs v us Q I rx rv h
 obtain ⟨z,a,ys,rfl,rfl,hq,hz,q⟩:=h
 obtain ⟨t,rfl⟩:=rx
 obtain ⟨u,rfl,ru⟩:=rv.one
 cases ru
 obtain ⟨its,r,pl,hn⟩:=I.list hq
 obtain ⟨l,rfl,e⟩:=vals_str r
 refine wpAny_with_toks (n:=1) I.tk (SC.join (texts:=ys) pl.isList e ?_ fun t' k htk=>⟨.str (Txt.join z ys),H,I.tok _ htk,⟨_,rfl⟩,q⟩)
 unfold JoinOk tooLong
 rw[<- Array.foldl_toList,List.toList_toArray,join_fold,Nat.zero_add]
 simpa using hz
def rS2 (f:Str->Str->V):V->List V->Hp->VK->Prop:=fun x vs H Q=>∃ z y,x = .str z/\vs=[.str y]/\z.length<=sizeLine/\Q (f z y) H
theorem mt_rstrip:MtR X "str.rstrip" (rS2 fun z y => .str (Txt.rstripChars z y)):=by
 intro pins s σ H x vs v us Q I rx rv h
 obtain ⟨z,y,rfl,rfl,hz,q⟩:=h
 obtain ⟨t,rfl⟩:=rx
 obtain ⟨u,rfl,t2,rfl⟩:=rv.one
 exact wpAny_with_toks (n:=1) I.tk (SC.rstripChars (fun t' k htk=>⟨.str _,H,I.tok _ htk,⟨_,rfl⟩,q⟩) hz)
theorem mt_lstrip:MtR X "str.lstrip" (rS2 fun z y => .str (Txt.lstripChars z y)):=by
 intro pins s σ H x vs v us Q I rx rv h
 obtain ⟨z,y,rfl,rfl,hz,q⟩:=h
 obtain ⟨t,rfl⟩:=rx
 obtain ⟨u,rfl,t2,rfl⟩:=rv.one
 exact wpAny_with_toks (n:=1) I.tk (SC.lstripChars (fun t' k htk=>⟨.str _,H,I.tok _ htk,⟨_,rfl⟩,q⟩) hz)
theorem mt_startswith:MtR X "str.startswith" (rS2 fun z y => .bl (Txt.startswith z y)):=by
 intro pins s σ H x vs v us Q I rx rv h
 obtain ⟨z,y,rfl,rfl,hz,q⟩:=h
 obtain ⟨t,rfl⟩:=rx
 obtain ⟨u,rfl,t2,rfl⟩:=rv.one
 exact SC.startswith ⟨.bl _,H,I,rfl,q⟩
theorem mt_endswith:MtR X "str.endswith" (rS2 fun z y => .bl (Txt.endswith z y)):=by
 intro pins s σ H x vs v us Q I rx rv h
 obtain ⟨z,y,rfl,rfl,hz,q⟩:=h
 obtain ⟨t,rfl⟩:=rx
 obtain ⟨u,rfl,t2,rfl⟩:=rv.one
 exact SC.endswith ⟨.bl _,H,I,rfl,q⟩
theorem mt_lower:MtR X "str.lower" (fun x vs H Q=>∃ z,x = .str z/\vs=[]/\z.length<=1000000/\Q (.str (Txt.lower z)) H):=by
 intro pins s σ H x vs v us Q I rx rv h
 obtain ⟨z,rfl,rfl,hz,q⟩:=h
 obtain ⟨t,rfl⟩:=rx
 cases rv.zero
 exact SCL.lower (by omega) fun _=>⟨.str _,H,I.tok _,⟨_,rfl⟩,q⟩
theorem pe_replace {o:Expr} {to:TE} {y z:Str} {jy jz:Nat} {py pz apos cpos:Pos} (ho:PE X o to) (hyz:(y==z)=false) (hzl:z.length<=14)
  (hbase:attributeBase o "replace" X.env (eval o X.env)=eval o X.env:=by rfl) (hline:(apos.endLine==cpos.line)=true:=by rfl):
  PE X (.Call (.Attribute o "replace" apos) [.Constant (.str y) jy py, .Constant (.str z) jz pz] [] cpos) (fun σ H Q=>to σ H fun x H1=>∃ w,x = .str w/\w.length<=1000000/\Q (.str (Txt.replace w y z)) H1):=by
 intro pins s σ H Q I h
 refine wpAny_Call_method_late hbase (by rfl) hline rfl (thn (ho pins s σ H _ I h) fun v s1 ⟨x,H1,I1,r1,q1⟩=>?_)
 obtain ⟨w,rfl,hw,q⟩:=q1
 obtain ⟨t,rfl⟩:=r1
 refine ⟨"str","str.replace",PySem.F.plainAttrs_str,F.slot_str_replace,F.type_str_replace,typeIs_str _ _ _,(fun _ e=>nomatch e),?_⟩
 refine Calls.callWith_builtin (by rfl) (Calls.evalArgs_plain ?_)
 refine Calls.spliced_cons (Calls.Constant_str (k:=jy) (pos:=py) ?_)
 refine Calls.spliced_cons (Calls.Constant_str (k:=jz) (pos:=pz) ?_)
 refine Calls.spliced_nil ?_
 have h0:=I1.tk
 refine wpAny_with_toks (n:=1) (by show 1<=s1.toks+1+1;omega) (SC.replaceW (Nat.pos_iff_ne_zero.mp h0) (Nat.succ_ne_zero _) (Nat.ne_of_lt (Nat.lt_succ_self _)) hyz (by omega) hzl fun t' k htk=>?_)
 exact ⟨.str (Txt.replace w y z),H1,(I1.tok _ htk),⟨_,rfl⟩,q⟩
def rSlS:V->Option Int->Option Int->Hp->VK->Prop:=fun x lo hi H Q=>∃ z,x = .str z/\z.length<=sizeLine/\Q (.str (Txt.slice z lo hi)) H
theorem sl_str:SlR X rSlS:=by
 intro pins s σ H x v vl vu lo hi sl Q I rx hs pl pu h
 obtain ⟨z,rfl,hz,q⟩:=h
 obtain ⟨t,rfl⟩:=rx
 refine ⟨"str",_,F.slot_str_getitem.lookup,typeIs_str _ _ _,?_⟩
 have fin:∀ (l u:Option (Int×Tok)),l.map (·.1)=lo->u.map (·.1)=hi->(sliceMade z t l u none).post (EP X pins σ Q) s:=by
  intro l u el eu
  subst el eu
  unfold sliceMade
  unfold Txt.slice at q
  have e:slicePicked z l u none=strSliceIndices (l.map (·.1)) (u.map (·.1)) 1 z.length:=rfl
  rw[e]
  show (if ((1:Int)==1&&(strSliceIndices (l.map (·.1)) (u.map (·.1)) 1 z.length).length==z.length)=true then Made.val (.str z t) else Made.str ⟨((strSliceIndices (l.map (·.1)) (u.map (·.1)) 1 z.length).filterMap (z.cps[·]?)).toArray⟩).post (EP X pins σ Q) s
  by_cases c:(((1:Int)==1&&(strSliceIndices (l.map (·.1)) (u.map (·.1)) 1 z.length).length==z.length))=true
  ·rw[if_pos c]
   rw[if_pos c] at q
   exact ⟨.str z,H,I,⟨_,rfl⟩,q⟩
  ·rw[if_neg c]
   rw[if_neg c] at q
   have hl:=Txt.slice_le z (l.map (·.1)) (u.map (·.1))
   unfold Txt.slice at hl
   rw[if_neg c] at hl
   exact ⟨Nat.le_trans hl hz, .str _,H,I.tok _,⟨_,rfl⟩,q⟩
 have go:∀ (l u:Option (Int×Tok)),vl=partValue l->vu=partValue u->l.map (·.1)=lo->u.map (·.1)=hi->wpAny (model X.prog X.w) X.A (getItem (.str z t) (.ref sl)) (EP X pins σ Q) X.xe s:=by
  intro l u e1 e2 e3 e4
  subst e1 e2
  exact wpAny_getItem_str_slice (l:=l) (u:=u) (st:=none) hs rfl (fin l u e3 e4)
 cases pl with
 |none=>cases pu with
  |none=>exact go none none rfl rfl rfl rfl
  |int j tj=>exact go none (some (j,tj)) rfl rfl rfl rfl
 |int i ti=>cases pu with
  |none=>exact go (some (i,ti)) none rfl rfl rfl rfl
  |int j tj=>exact go (some (i,ti)) (some (j,tj)) rfl rfl rfl rfl
def Its (z:Str):It:=⟨fun i _=>i < z.length,fun i H x H'=>H'=H/\∃ c,z.cps[i]? = some c/\x = .str ⟨#[c]⟩,fun i _=>z.length<=i⟩
def iStr (tl:TE):TI:=fun σ H R=>tl σ H fun x H1=>∃ z,x = .str z/\R (Its z) H1
theorem turn_str {P:Program} {w:World} {K:PySem.W.Frag} {x:Str} {px:Pos} (z:Str) (it:Addr) (ty:String) (t:Tok) (hty:ty="str_ascii_iterator" ∨ ty="str_iterator"):
  Turn P w K (.Name x px) (Its z) [it] it (fun i h=>h.IsStrIter it ty z t i) where
 mem:=by simp
 obj:=fun i h st b hb=>by
  have e:b=it:=by simpa using hb
  subst e
  obtain ⟨o,ho,_,hd⟩:=st
  exact ⟨o,ho,fun v z=>by rw[hd] at z;cases z⟩
 keep:=fun i h h' st k=>by
  obtain ⟨o,ho,r⟩:=st
  exact ⟨o,k it (by simp) o ho,r⟩
 item:=by
  intro X hP hw hK hc i pins s σ H E I hf st hg
  subst hP hw hK
  obtain ⟨f0,f1,f2,f3,f4,f5⟩:=hf it (by simp)
  have hi:i < z.cps.size:=hg
  have hx:z.cps[i]? = some z.cps[i]:=by simp[hi]
  have fin:∀ h',h'.IsStrIter it ty z t (i+1)->Heap.SameBut it s.heap h'->∃ u,(some (Value.str ⟨#[z.cps[i]]⟩ s.toks):Option Value)=some u ∧
    wpAny (model X.prog X.w) X.A (letOwnedTupleGo (.Name x px) (.ref it) u) (fun _ s2=>∃ x H',Inv X pins σ H' s2/\RelV x u/\(Its z).yld i H x H'/\s2.heap.IsStrIter it ty z t (i+1)/\∀ b∈[it],H' b=none) E { s with heap:=h',toks:=s.toks+1 }:=
   fun h' st' sb=>⟨_,rfl,wpAny_pure ⟨.str ⟨#[z.cps[i]]⟩,H,I.turned (fun b o hb e=>(sb.2 b hb).trans e) f0 f1 f3 f4 f5,⟨_,rfl⟩,⟨rfl,_,hx,rfl⟩,st',fun b hb=>(hf b hb).1⟩⟩
  rcases hty with rfl |rfl
  ·exact wpAny_pyNext_ascii_item st hx fin
  ·exact wpAny_pyNext_wide_item st hx fin
 done:=by
  intro X hP hw hK hc i pins s σ H E I hf st hg
  subst hP hw hK
  obtain ⟨f0,f1,f2,f3,f4,f5⟩:=hf it (by simp)
  have hx:z.cps[i]? = none:=by
   have:z.cps.size<=i:=hg
   simp[this]
  rcases hty with rfl |rfl
  ·exact wpAny_pyNext_ascii_end (I.ok.hd hc) st hx fun h' eb=>⟨rfl,I.turned (t':=s.toks) (fun b o hb e=>eb b o hb e) f0 f1 f3 f4 f5⟩
  ·exact wpAny_pyNext_wide_end (I.ok.hd hc) st hx fun h' eb=>⟨rfl,I.turned (t':=s.toks) (fun b o hb e=>eb b o hb e) f0 f1 f3 f4 f5⟩
 self:=by
  intro A i s Q E st h
  rcases hty with rfl |rfl
  ·exact wpAny_pyIter_striter_ascii st h
  ·exact wpAny_pyIter_striter_wide st h
theorem pi_str {l:Expr} {tl:TE} {x:Str} {px:Pos} (hl:PE X l tl):PI X (.Name x px) l (iStr tl):=by
 intro pins s σ H R I h
 refine thn (hl pins s σ H _ I h) fun v s1 ⟨y,H1,I1,r1,q1⟩=>?_
 obtain ⟨z,rfl,q⟩:=q1
 obtain ⟨t,rfl⟩:=r1
 have fin:∀ ty,(ty="str_ascii_iterator" ∨ ty="str_iterator")->PIE X pins σ (.Name x px) R (.ref s1.heap.objs.size) { s1 with heap:=s1.heap.push { cls := .type ty,data := .fields #[.str z t, .int 0 0] } }:=fun ty hty=>by
  refine ⟨s1.heap.objs.size,[s1.heap.objs.size],_,_,H1,rfl,I1.kept (t':=s1.toks) fun b o e=>Heap.get?_push_of_some _ e,turn_str z _ ty t hty,⟨_,Heap.get?_push_size _ rfl,rfl,rfl⟩,fun b hb=>?_,q⟩
  have e:b=s1.heap.objs.size:=by simpa using hb
  subst e
  exact I1.fpOk (Nat.le_refl _) (I1.hok.fresh (Nat.le_refl _))
 cases ha:z.cps.all (· < 128)
 ·exact wpAny_pyIter_wide ha (fin _ (.inr rfl))
 ·exact wpAny_pyIter_ascii ha (fin _ (.inl rfl))
theorem vals_bl_get:∀ {bs:List Bool} {us:List Value} {i:Nat} {v:Value},Vals (bs.map V.bl) us->us[i]? = some v->∃ b,bs[i]? = some b/\v = .bool b
 | [],_,_,_,r,e=>by
  rw[List.map_nil] at r
  cases r
  simp at e
 |b::bs,us,i,v,r,e=>by
  rw[List.map_cons] at r
  cases r with
  |cons r1 r2=>
   cases i with
   |zero=>
    simp at e
    subst e
    exact ⟨b,rfl,r1⟩
   |succ i=>
    obtain ⟨c,h1,h2⟩:=vals_bl_get (i:=i) r2 (by simpa using e)
    exact ⟨c,by simpa using h1,h2⟩
theorem all_range (bs:List Bool):((List.range bs.length).all fun i=>bs.getD i true)=bs.all id:=by
 rw[Bool.eq_iff_iff,List.all_eq_true,List.all_eq_true]
 constructor
 ·intro h b hb
  obtain ⟨i,hi,rfl⟩:=List.getElem_of_mem hb
  have:=h i (List.mem_range.mpr hi)
  rw[List.getD_eq_getElem?_getD,List.getElem?_eq_getElem hi] at this
  exact this
 ·intro h i hi
  have hi':=List.mem_range.mp hi
  rw[List.getD_eq_getElem?_getD,List.getElem?_eq_getElem hi']
  exact h _ (List.getElem_mem hi')
theorem call_all (hc:X.calm=true):CallR X (.builtin "all") (fun xs H Q=>∃ (a:Addr) (bs:List Bool),xs=[.ref a]/\SqL X.K H a (bs.map V.bl)/\Q (.bl (bs.all id)) H):=by
 intro pins s σ H xs us Q I r h
 obtain ⟨a,bs,rfl,hq,q⟩:=h
 obtain ⟨u,rfl,rx⟩:=vals1 r
 cases rx
 obtain ⟨its,r',pl,hz⟩:=I.list hq
 have hlen:its.toArray.size=bs.length:=by
  have:=r'.length
  rw[List.length_map] at this
  rw[List.size_toArray,this]
 have lt:a < s.heap.objs.size:=by
  obtain ⟨o,n,e,_⟩:=pl
  exact Heap.lt_size e
 refine wpAny_with_toks (n:=1) I.tk (call_all_walk ?_)
 refine wpAny_pyIter_list pl.isList ?_
 refine ⟨s.heap.objs.size,_,_,_,_,_,fun i=>bs.getD i true,rfl,Walks.list (A:=X.A.in1) (I.ok.hd hc) s.heap.objs.size a (Nat.ne_of_lt lt) its.toArray,⟨⟨_,Heap.get?_push_size _ rfl,rfl,rfl⟩,?_⟩,?_,fun h' tk kp htk=>?_⟩
 ·obtain ⟨o,n,e,c,_,d⟩:=pl
  exact ⟨o,Heap.get?_push_of_some _ e,c,n,d⟩
 ·intro i v s' Q' E' hP hQ
  have hP':its[i]? = some v:=by simpa using hP
  obtain ⟨b,hb,rfl⟩:=vals_bl_get r' hP'
  have hQ':Q' (bs.getD i true) s':=hQ
  rw[List.getD_eq_getElem?_getD,hb] at hQ'
  exact wpAny_truthy_bool hQ'
 ·rw[hlen,all_range]
  refine ⟨.bl _,H,I.kept (fun b o e=>kp b o ?_ (Heap.get?_push_of_some _ e)) htk,rfl,q⟩
  simp only[List.mem_singleton]
  exact Nat.ne_of_lt (Heap.lt_size e)
end
mutual
inductive Den (K:PySem.W.Frag) (H:Hp):V->PyData->Prop where
 |non:Den K H .non .none
 |bl (b:Bool):Den K H (.bl b) (.bool b)
 |int (i:Int):Den K H (.int i) (.int i)
 |str (x:Str) (h:PyData.strOk x=true):Den K H (.str x) (.str x)
 |lst {a:Addr} {xs:List V} {ds:List PyData}:SqL K H a xs->DenAll K H xs ds->Den K H (.ref a) (.list ds)
 |tup {a:Addr} {xs:List V} {ds:List PyData}:SqT K H a xs->DenAll K H xs ds->Den K H (.ref a) (.tuple ds)
inductive DenAll (K:PySem.W.Frag) (H:Hp):List V->List PyData->Prop where
 |nil:DenAll K H [] []
 |cons {x:V} {xs:List V} {d:PyData} {ds:List PyData}:Den K H x d->DenAll K H xs ds->DenAll K H (x::xs) (d::ds)
end
section
variable {X:Cx} {pins:List (Addr×Obj)} {σ:St} {H:Hp} {s:Shared}
mutual
theorem Den.reads (I:Inv X pins σ H s):∀ {x:V} {d:PyData} {u:Value},Den X.K H x d->RelV x u->∃ as,Reads s.heap u d as
 |_,_,_, .non,r=>by cases r;exact ⟨_, .none⟩
 |_,_,_, .bl b,r=>by cases r;exact ⟨_, .bool b⟩
 |_,_,_, .int i,r=>by obtain ⟨t,rfl⟩:=r;exact ⟨_, .int i t⟩
 |_,_,_, .str x _,r=>by obtain ⟨t,rfl⟩:=r;exact ⟨_, .str x t⟩
 |_,_,_, .lst hq hd,r=>by
  cases r
  obtain ⟨its,rv,⟨o,n,e,c,_,d⟩,_⟩:=I.list hq
  obtain ⟨as,ra⟩:=DenAll.reads I hd rv
  exact ⟨_, .list e c d (by simpa using ra)⟩
 |_,_,_, .tup hq hd,r=>by
  cases r
  obtain ⟨its,rv,⟨o,e,c,n,d⟩,_⟩:=I.tuple hq
  obtain ⟨as,ra⟩:=DenAll.reads I hd rv
  exact ⟨_, .tuple e c d (by simpa using ra)⟩
theorem DenAll.reads (I:Inv X pins σ H s):∀ {xs:List V} {ds:List PyData} {us:List Value},DenAll X.K H xs ds->Vals xs us->∃ as,ReadsAll s.heap us ds as
 |_,_,_, .nil,r=>by cases r;exact ⟨_, .nil⟩
 |_,_,_, .cons h hs,r=>by
  cases r with
  |cons r1 r2=>
   obtain ⟨as,a⟩:=Den.reads I h r1
   obtain ⟨bs,b⟩:=DenAll.reads I hs r2
   exact ⟨_, .cons a b⟩
end
end
mutual
theorem eqv_refl:∀ d:PyData,d.canLay0=true->PyData.eqv d d=true
 | .none,_=>rfl
 | .bool b,_=>by simp[PyData.eqv]
 | .int i,_=>by simp[PyData.eqv]
 | .str x,_=>by simp[PyData.eqv]
 | .list xs,h=>by simp only[PyData.eqv];exact eqvAll_refl xs (by simpa[PyData.canLay0] using h)
 | .tuple xs,h=>by simp only[PyData.eqv];exact eqvAll_refl xs (by simpa[PyData.canLay0] using h)
 | .dict _,h=>by simp[PyData.canLay0] at h
theorem eqvAll_refl:∀ ds:List PyData,PyData.canLayAll0 ds=true->PyData.eqvAll ds ds=true
 | [],_=>rfl
 |d::ds,h=>by
  simp only[PyData.canLayAll0,Bool.and_eq_true] at h
  simp only[PyData.eqvAll,Bool.and_eq_true]
  exact ⟨eqv_refl d h.1,eqvAll_refl ds h.2⟩
end
mutual
theorem Den.lay {K:PySem.W.Frag} {H:Hp}:∀ {x:V} {d:PyData},Den K H x d->d.canLay0=true
 |_,_, .non=>rfl
 |_,_, .bl _=>rfl
 |_,_, .int _=>rfl
 |_,_, .str _ h=>h
 |_,_, .lst _ h=>by simp only[PyData.canLay0];exact h.lay
 |_,_, .tup _ h=>by simp only[PyData.canLay0];exact h.lay
theorem DenAll.lay {K:PySem.W.Frag} {H:Hp}:∀ {xs:List V} {ds:List PyData},DenAll K H xs ds->PyData.canLayAll0 ds=true
 |_,_, .nil=>rfl
 |_,_, .cons h hs=>by simp only[PyData.canLayAll0,Bool.and_eq_true];exact ⟨h.lay,hs.lay⟩
end
section
variable {X:Cx}
end
theorem same_new {H:Hp} {p:Addr} (h:H p=none) (o:HO):Same H (upd H p o):=fun b u q=>by rw[upd_ne (ne_of_none q h)];exact q
theorem same_grow {H H':Hp} {D:Addr} {o:HO} (hD:H D=none) (e:Same H H'):Same H (upd H' D o):=fun b u q=>by
 rw[upd_ne (ne_of_none q hD)]
 exact e b u q
theorem lc_seq {J:It} {xs:List V} {k:Nat} {fr:List Nat} {g:TG} {tt:TT} {te:TE} {σ:St} {H0:Hp} {Q:Addr->Hp->Prop} (p:V->Bool) (f:V->V) (hl:xs.length<=sizeLine)
  (hgo:∀ i H,Same H0 H->i < xs.length->J.go i H) (hyl:∀ i H x H',i < xs.length->Same H0 H->J.yld i H x H'->H'=H/\xs[i]? = some x) (hst:∀ i H,Same H0 H->xs.length<=i->J.stop i H)
  (ht:∀ x∈xs,∀ H',Same H0 H'->∀ (C:V->Hp->Prop) (N:Hp->Prop),(∀ H4,Same H' H4->p x=true->C (f x) H4)->(∀ H3,Same H' H3->p x=false->N H3) →
   g x (nfS k fr σ) H' fun σ2 H2=>nfLe k fr σ σ2/\tt σ2 H2 fun b H3=>if b=true then te σ2 H3 C else N H3)
  (hq:∀ D H',H0 D=none->Same H0 H'->H' D=some (.lst ((xs.filter p).map f))->Q D H'):rLC k fr g tt te σ J H0 Q:=by
 intro D hD
 refine ⟨fun i m acc H=>m=xs.length - i/\i<=xs.length/\acc=((xs.take i).filter p).map f/\H D=some (.lst acc)/\Same H0 H,⟨xs.length,by simp,Nat.zero_le _,by simp,upd_same,same_new hD _⟩,?_⟩
 rintro i m acc H ⟨rfl,hi,rfl,hDa,sm⟩
 refine ⟨hDa,?_⟩
 by_cases hlt:i < xs.length
 ·refine .inr ⟨hgo i H sm hlt,fun x H' y=>?_⟩
  obtain ⟨e,hxi⟩:=hyl i H x H' hlt sm y
  subst e
  have hmem:x∈xs:=List.mem_of_getElem? hxi
  have htk:=take_succ_filter p xs i x hxi
  refine ht x hmem H' sm _ _ (fun H4 s4 hp=>?_) (fun H3 s3 hp=>?_)
  ·refine ⟨s4 _ _ hDa,?_,xs.length - (i+1),by omega,rfl,hlt,?_,upd_same,?_⟩
   ·rw[List.length_map]
    have:=List.length_filter_le p (xs.take i)
    rw[List.length_take] at this
    omega
   ·rw[htk,hp];simp
   ·exact same_grow hD (sm.trans s4)
  ·refine ⟨xs.length - (i+1),by omega,rfl,hlt,?_,s3 _ _ hDa,sm.trans s3⟩
   rw[htk,hp];simp
 ·have e:i=xs.length:=by omega
  subst e
  rw[List.take_length] at hDa ⊢
  exact .inl ⟨hst _ H sm (Nat.le_refl _),hq D H hD sm hDa⟩
theorem lc_str {z:Str} {k:Nat} {fr:List Nat} {g:TG} {tt:TT} {te:TE} {σ:St} {H0:Hp} {Q:Addr->Hp->Prop} (p:V->Bool) (f:V->V) (hl:z.length<=sizeLine)
  (ht:∀ c∈z.cps.toList,∀ H',Same H0 H'->∀ (C:V->Hp->Prop) (N:Hp->Prop),(∀ H4,Same H' H4->p (.str ⟨#[c]⟩)=true->C (f (.str ⟨#[c]⟩)) H4)->(∀ H3,Same H' H3->p (.str ⟨#[c]⟩)=false->N H3) →
   g (.str ⟨#[c]⟩) (nfS k fr σ) H' fun σ2 H2=>nfLe k fr σ σ2/\tt σ2 H2 fun b H3=>if b=true then te σ2 H3 C else N H3)
  (hq:∀ D H',H0 D=none->Same H0 H'->H' D=some (.lst (((z.cps.toList.map fun c=>V.str ⟨#[c]⟩).filter p).map f))->Q D H'):rLC k fr g tt te σ (Its z) H0 Q:=by
 have hz:(z.cps.toList.map fun c=>V.str ⟨#[c]⟩).length=z.length:=by rw[List.length_map];simp[Str.length]
 refine lc_seq p f (by rw[hz];exact hl) (fun i H sm hi=>by rw[hz] at hi;exact hi) (fun i H x H' hi sm y=>?_) (fun i H sm hi=>by rw[hz] at hi;exact hi) (fun x hx=>?_) hq
 ·obtain ⟨e,c,h1,h2⟩:=y
  refine ⟨e,?_⟩
  rw[List.getElem?_map,h2]
  have:z.cps.toList[i]? = some c:=by simpa using h1
  rw[this];rfl
 ·obtain ⟨c,hc,rfl⟩:=List.mem_map.mp hx
  exact ht c hc
def FreeOk (X:Cx) (scope:Scope) (N':List Str):Nat->List Nat->List Str->Prop
 |_,[],[]=>True
 |k,j::fr,x::xs=>X.N[j]? = some x/\N'[k]? = some x/\(X.env.kindOf x=some .cell ∨ X.env.kindOf x=some .free) ∧
   ((relabel scope X.env).names.lookup x=some .cell ∨ (relabel scope X.env).names.lookup x=some .free)/\FreeOk X scope N' (k+1) fr xs
 |_,_,_=>False
theorem FreeOk.get {X:Cx} {scope:Scope} {N':List Str}:∀ {k:Nat} {fr:List Nat} {xs:List Str},FreeOk X scope N' k fr xs->∀ (i j:Nat),fr[i]? = some j->∃ x,X.N[j]? = some x/\N'[k+i]? = some x ∧
  (X.env.kindOf x=some .cell ∨ X.env.kindOf x=some .free)/\((relabel scope X.env).names.lookup x=some .cell ∨ (relabel scope X.env).names.lookup x=some .free)
 |_,[],[],_,i,j,e=>by simp at e
 |_,[],_::_,h,_,_,_=>h.elim
 |_,_::_,[],h,_,_,_=>h.elim
 |k,j0::fr,x::xs,h,i,j,e=>by
  obtain ⟨h1,h2,h3,h4,h5⟩:=h
  cases i with
  |zero=>
   simp at e
   subst e
   exact ⟨x,h1,h2,h3,h4⟩
  |succ i=>
   have:=h5.get i j (by simpa using e)
   have e2:k+1+i=k+(i+1):=by omega
   rw[e2] at this
   exact this
theorem compN {X:Cx} {scope:Scope} {cl:List (Str×Addr)} {own:List Str} {fr:List Nat} {xs N':List Str} (cells:CellsIn X.env cl) (free:FreeOk X scope N' own.length fr xs)
  (nd:N'.Nodup) (all:((relabel scope X.env).names.all fun y=>y.2 == .local||y.2 == .globalImplicit||(cl.lookup y.1).isSome)=true:=by rfl)
  (kind:scope.kind = .function:=by rfl) (len:N'.length=own.length+fr.length:=by rfl):CompN X scope cl own fr N':=by
 refine ⟨kind,cells,fun x hx=>?_,nd,len,fun i j e=>free.get i j e⟩
 have key:∀ k,(relabel scope X.env).names.lookup x=some k->(k = .cell ∨ k = .free)->∃ c,cl.lookup x=some c:=fun k e hk=>by
  have hm:=PySem.mem_of_lookup e
  have:=List.all_eq_true.mp all _ hm
  rcases hk with rfl |rfl
  ·simp only[Bool.or_eq_true] at this
   rcases this with (z |z) |z
   ·exact absurd z (by decide)
   ·exact absurd z (by decide)
   ·exact Option.isSome_iff_exists.mp z
  ·simp only[Bool.or_eq_true] at this
   rcases this with (z |z) |z
   ·exact absurd z (by decide)
   ·exact absurd z (by decide)
   ·exact Option.isSome_iff_exists.mp z
 rcases hx with e |e
 ·exact key _ e (.inl rfl)
 ·exact key _ e (.inr rfl)
end L2
namespace L2
open PySem PySem.Spec PyProof.Rows
structure Def (P:Program) (w:World) (K:PySem.W.Frag) (mg:Str->Option Value) (base:Heap) (k:Nat) (x:Str) (ps:List Str) (sp:Sp):Prop where
 ex:∃ f fd,FnOk P w K mg base CX0 k f fd ps sp/\mg x=some (.ref f)/\PySem.W.keepIn K (.ref f)=true/\Binds K fd ps []
section
variable {X:Cx} {k:Nat} {x:Str} {ps:List Str} {sp:Sp} {e:Expr} {es:List Expr} {te:TE} {t:TA} {p pos:Pos}
theorem pe_callD (D:Def X.prog X.w X.K X.mg X.base k x ps sp) (hr:Room k X.A) (ha:PA X (e::es) t) (hg:Gl X x:=by exact rfl) (hdb:(x==("__debug__":Str))=false:=by decide)
  (he:starEach (e::es) X.env=(false,eval e X.env)::starEach es X.env:=by rfl) (hpl:(backTo pos (starEach es X.env)).any (·.1)=false:=by rfl):
  PE X (.Call (.Name x p) (e::es) [] pos) (tCall sp [] E0 t):=by
 obtain ⟨f,fd,G,hm,hk,hb⟩:=D.ex
 exact pe_call G hr hg hm hk hb .nil pass0 ha hdb he hpl
def isStar:Expr->Bool
 | .Starred .. => true
 |_=>false
theorem star_cons {e:Expr} {es:List Expr} {env:Env} (h:isStar e=false):starEach (e::es) env=(false,eval e env)::starEach es env:=by
 cases e <;> first |rfl |cases h
def noStars:List Expr->Bool
 | []=>true
 |e::es => !isStar e&&noStars es
theorem stars_any {pos:Pos} {env:Env}:∀ {es:List Expr},noStars es=true->(backTo pos (starEach es env)).any (·.1)=false
 | [],_=>rfl
 |e::es,h=>by
  unfold noStars at h
  rw[Bool.and_eq_true,Bool.not_eq_true'] at h
  rw[star_cons h.1]
  exact (show (false||(backTo pos (starEach es env)).any (·.1))=false by rw[stars_any h.2];rfl)
theorem stars_all {pos:Pos} {env:Env}:∀ {es:List Expr},noStars es=true->(backTo pos (starEach es env)).all (fun x => !x.1)=true
 | [],_=>rfl
 |e::es,h=>by
  unfold noStars at h
  rw[Bool.and_eq_true,Bool.not_eq_true'] at h
  rw[star_cons h.1]
  exact (show (true&&(backTo pos (starEach es env)).all (fun x => !x.1))=true by rw[stars_all h.2];rfl)
theorem pa (ha:PE X e te) (hr:PA X es t) (h:isStar e=false:=by rfl):PA X (e::es) (tCons te t):=pa_cons ha hr (star_cons h)
theorem few {cpos:Pos} {env:Env} {es:List Expr} (h:noStars es=true) (hl:decide (es.length+([]:List Keyword).length+(if ([]:List Keyword).isEmpty then 0 else 1) < 30)=true):
  ((backTo cpos (starEach es env)).all (fun x => !x.1)&&(backToKw cpos (keywordEach [] env)).all (fun x=>x.1.isSome)
   && decide (es.length+([]:List Keyword).length+(if ([]:List Keyword).isEmpty then 0 else 1) < 30))=true:=by
 rw[stars_all h,hl]
 rfl
theorem pm {o e:Expr} {es:List Expr} {to:TE} {t:TA} {name:Str} {apos cpos:Pos} {T id:String} {r:V->List V->Hp->VK->Prop} (pa:PlainAttrs T) (slot:Slot T name id) (hty:typeOf (.builtin id)=pure (.type "method_descriptor")) (hm:MtR X id r) (ho:PE X o to) (ha:PA X (e::es) t)
  (hbase:attributeBase o name X.env (eval o X.env)=eval o X.env) (hst:noStars (e::es)=true:=by rfl) (hl:decide ((e::es).length+([]:List Keyword).length+(if ([]:List Keyword).isEmpty then 0 else 1) < 30)=true:=by rfl)
  (hline:(apos.endLine==cpos.line)=true:=by rfl):PE X (.Call (.Attribute o name apos) (e::es) [] cpos) (tBM X.K T r to t):=by
 have h2:noStars es=true:=by
  unfold noStars at hst
  rw[Bool.and_eq_true] at hst
  exact hst.2
 have h1:isStar e=false:=by
  unfold noStars at hst
  rw[Bool.and_eq_true,Bool.not_eq_true'] at hst
  exact hst.1
 exact pe_bm pa slot hty hm ho ha hbase (few hst hl) hline (star_cons h1) (stars_any h2)
def plainBase:Expr->Bool
 | .Call (.Name x _) [] [] _=>x != Str.ofString "super"
 |_=>true
theorem base_of {o:Expr} {name:Str} {env:Env} {w:Sem Value} (h:plainBase o=true):attributeBase o name env w=w:=by
 unfold attributeBase
 split
 ·rename_i id _ _
  have h:(id != Str.ofString "super")=true:=h
  rw[h]
  rfl
 ·rfl
theorem cD {k:Nat} {x:Str} {ps:List Str} {sp:Sp} (D:Def X.prog X.w X.K X.mg X.base k x ps sp) (hr:Room k X.A) (ha:PA X (e::es) t) (hg:Gl X x:=by exact rfl) (hdb:(x==("__debug__":Str))=false:=by decide)
  (hst:noStars (e::es)=true:=by rfl):PE X (.Call (.Name x p) (e::es) [] pos) (tCall sp [] E0 t):=by
 have h2:noStars es=true:=by
  unfold noStars at hst
  rw[Bool.and_eq_true] at hst
  exact hst.2
 have h1:isStar e=false:=by
  unfold noStars at hst
  rw[Bool.and_eq_true,Bool.not_eq_true'] at hst
  exact hst.1
 exact pe_callD D hr ha hg hdb (star_cons h1) (stars_any h2)
theorem cB {id:String} {r:List V->Hp->VK->Prop} (hc:CallR X (.builtin id) r) (hg:Gl X x) (hm:X.mg x=none) (hv:bootBuiltins x=some (.builtin id)) (ha:PA X (e::es) t) (hn:x≠"__name__":=by decide) (hdb:(x==("__debug__":Str))=false:=by decide)
  (hst:noStars (e::es)=true:=by rfl):PE X (.Call (.Name x p) (e::es) [] pos) (tCB r t):=by
 have h2:noStars es=true:=by
  unfold noStars at hst
  rw[Bool.and_eq_true] at hst
  exact hst.2
 have h1:isStar e=false:=by
  unfold noStars at hst
  rw[Bool.and_eq_true,Bool.not_eq_true'] at hst
  exact hst.1
 exact pe_callB hc hg hm hv ha hn hdb (star_cons h1) (stars_any h2)
def rIsT (K:PySem.W.Frag):List V->Hp->VK->Prop:=fun xs H Q=>∃ x t T b,xs=[x, .ty T]/\TyOf K H x t/\PySem.W.kitOne K t (.type T)=some b/\Q (.bl b) H
theorem call_isT:CallR X (.builtin "isinstance") (rIsT X.K):=by
 intro pins s σ H xs us Q I r h
 obtain ⟨x,t,T,b,rfl,ty,e,q⟩:=h
 obtain ⟨u,v,rfl,rx,rv⟩:=r.two
 cases rv
 exact wpAny_with_toks (n:=1) I.tk (isinst_ok I rx ty e fun tk htk=>⟨.bl b,H,I.tok _ htk,rfl,q⟩)
theorem kit_same (K:PySem.W.Frag) (t:Value):PySem.W.kitOne K t t=some true:=by
 unfold PySem.W.kitOne
 rw[if_pos (beq_self_eq_true t)]
theorem pe_globS {x y:Str} {pos:Pos} (h:∃ t,X.mg x=some (.str y t)) (hg:Gl X x:=by exact rfl) (hd:(x==("__debug__":Str))=false:=by decide):PE X (.Name x pos) (tC (.str y)):=by
 obtain ⟨t,e⟩:=h
 exact pe_glob hg e ⟨t,rfl⟩ hd
theorem pe_globI {x:Str} {y:Int} {pos:Pos} (h:∃ t,X.mg x=some (.int y t)) (hg:Gl X x:=by exact rfl) (hd:(x==("__debug__":Str))=false:=by decide):PE X (.Name x pos) (tC (.int y)):=by
 obtain ⟨t,e⟩:=h
 exact pe_glob hg e ⟨t,rfl⟩ hd
end
end L2
set_option Elab.async false
set_option linter.all false
set_option maxRecDepth 100000
namespace L2
open PySem PySem.Spec PyProof.Rows
structure XE (X:Cx) (e:Expr) (t:TE):Prop where
 h:PE X e t
structure XT (X:Cx) (e:Expr) (t:TT):Prop where
 h:PT X e t
structure XW (X:Cx) (e:Expr) (t:TT):Prop where
 h:PW X e t
structure XA (X:Cx) (e:List Expr) (t:TA):Prop where
 h:PA X e t
structure XS (X:Cx) (st:Stmt) (t:TS):Prop where
 h:PS X st t
structure XB (X:Cx) (st:List Stmt) (t:TS):Prop where
 h:PSs X st t
structure XG (X:Cx) (e:Expr) (t:TG):Prop where
 h:PG X e t
structure XI (X:Cx) (tg it:Expr) (t:TI):Prop where
 h:PI X tg it t
structure XO (X:Cx) (e:Option Expr) (t:TO):Prop where
 h:PO X e t
structure XQ (X:Cx) (ifs:List Expr) (t:TT):Prop where
 h:PTs X ifs t
theorem of_XB {X:Cx} {st:List Stmt} {t:TS} {D:Ends} {σ:St} {H:Hp} (h:XB X st t) (q:t D σ H):∃ t,PSs X st t/\t D σ H:=⟨t,h.h,q⟩
section
variable {X:Cx} {a b c o e:Expr} {ta tb tc te to:TE} {tA tB':TT} {es:List Expr} {t:TA} {pos p p2 apos cpos:Pos} {x:Str}
theorem xb0:XB X [] tNext:=⟨pss_nil⟩
theorem xb1 {st:Stmt} {u:TS} (h:XS X st u):XB X [st] u:=⟨pss_one h.h⟩
theorem xbc {st:Stmt} {sts:List Stmt} {u v:TS} (h:XS X st u) (r:XB X sts v):XB X (st::sts) (tSeq u v):=⟨pss_cons h.h r.h⟩
theorem xret (h:XE X e te):XS X (.Return (some e) pos) (tRet te):=⟨ps_ret h.h⟩
theorem xif {f g:List Stmt} {tf tg:TS} (h:XT X c tA) (h1:XB X f tf) (h2:XB X g tg):XS X (.If c f g pos) (tIfS tA tf tg):=⟨ps_if h.h h1.h h2.h⟩
theorem xnever {st:Stmt}:XS X st tNever:=⟨ps_never⟩
theorem xexpr (h:XE X e te) (hs:swapsWith e none pos.line X.env=pure false:=by rfl):XS X (.Expr e pos) (tDrop te):=⟨ps_expr h.h hs⟩
theorem xset {i:Nat} {pos':Pos} (hN:X.N.Nodup) (hi:X.N[i]? = some x) (hx:Loc X.env.scope x) (he:XE X e te) (hs:swapsWith e (some (.Name x pos')) pos.line X.env=pure false:=by rfl) (hf:X.fn x=true ∨ X.env.scope.names.lookup x=some .local:=by first |exact .inl rfl |exact .inr rfl):
  XS X (.Assign [.Name x pos'] e pos) (tAsg te (gName i)):=⟨ps_set hN hi hx he.h hs hf⟩
theorem xgn {i:Nat} (hN:X.N.Nodup) (hi:X.N[i]? = some x) (hx:Loc X.env.scope x) (hf:X.fn x=true ∨ X.env.scope.names.lookup x=some .local:=by first |exact .inl rfl |exact .inr rfl):XG X (.Name x pos) (gName i):=⟨pg_name hN hi hx hf⟩
theorem xasg {tg:Expr} {g:TG} (he:XE X e te) (hg:XG X tg g) (hs:swapsWithSole [tg] e pos.line X.env=pure false:=by rfl) (hw:swappedStores [tg] e X.env=pure none:=by rfl)
  (h1:(assignEach [tg] X.env).map (·.2)=[assign tg X.env]:=by rfl):XS X (.Assign [tg] e pos) (tAsg te g):=⟨ps_asg he.h hg.h hs hw h1⟩
theorem xfor {tg it:Expr} {body:List Stmt} {wi:TI} {g:TG} {tb:TS} (hp:PassesOwn (model X.prog X.w) X.A X.env X.xe) (hc:X.calm=true) (hi:XI X tg it wi) (hg:XG X tg g) (hb:XB X body tb)
  (hs:∀ x,foldedSetIterable it X.env x=pure x:=by intro _;rfl):XS X (.For tg it body [] pos) (tFor wi g tb):=⟨ps_for hp hc hi.h hg.h hb.h hs⟩
theorem xwhile {body:List Stmt} {tb:TS} (hp:PassesOwn (model X.prog X.w) X.A X.env X.xe) (hc:XT X c tA) (hb:XB X body tb):XS X (.While c body [] pos) (tWhile tA tb):=⟨ps_while hp hc.h hb.h⟩
theorem xgsub {i:Expr} {ti:TE} {t:TSet} (ho:XE X o to) (hi:XE X i ti) (hs:PSet X t)
  (ha : ∀ v, assign (.Subscript o i pos) X.env v = (do
   let ov ← holding [v] (eval o X.env)
   let iv ← holding [v,ov] (eval i X.env)
   standAt pos
   holding [v,ov,iv] (setItem ov iv v)
   release [v,ov,iv] []):=by intro _;rfl):XG X (.Subscript o i pos) (gSub to ti t):=⟨pg_sub ho.h hi.h hs ha⟩
theorem xir1 {tg:Expr} (hg:Gl X "range") (hm:X.mg "range"=none) (ha:XA X [a] t) (h:isStar a=false:=by rfl):XI X tg (.Call (.Name "range" p) [a] [] pos) (iRng1 t):=⟨pi_range1 hg hm ha.h (star_cons h)⟩
theorem xil {tg l:Expr} {tl:TE} (h:XE X l tl):XI X tg l (iList X.K tl):=⟨pi_list h.h⟩
theorem xis {l:Expr} {tl:TE} {px:Pos} (h:XE X l tl):XI X (.Name x px) l (iStr tl):=⟨pi_str h.h⟩
theorem xcmpT {op:CmpOp} {r:R2} (ho:OpR X (compareOp op) r) (ha:XE X a ta) (hb:XE X b tb) (hm:behindInMarks op b=false):XT X (.Compare a [op] [b] pos) (tTest (tOp r ta tb)):=⟨pt_cmpR ho ha.h hb.h hm⟩
theorem xnotT (h:XT X a tA):XT X (.UnaryOp .Not a pos) (tNot tA):=⟨pt_not h.h⟩
theorem xvalT (h:XE X e te) (he:∀ whole,isTrue e X.env whole=(do let v ← whole;standAt e.pos;holding [v] (truthy v)):=by intro _;rfl):XT X e (tB te):=⟨pt_val h.h he⟩
theorem xand1 (h:XT X a tA):XW X (.BoolOp .And [a] pos) tA:=⟨pw_and1 h.h⟩
theorem xor1 (h:XT X a tA):XW X (.BoolOp .Or [a] pos) tA:=⟨pw_or1 h.h⟩
theorem xand {rest:List Expr} (h:XT X a tA) (h2:XW X (.BoolOp .And (b::rest) pos) tB'):XW X (.BoolOp .And (a::b::rest) pos) (tAnd tA tB'):=⟨pw_and h.h h2.h⟩
theorem xor {rest:List Expr} (h:XT X a tA) (h2:XW X (.BoolOp .Or (b::rest) pos) tB'):XW X (.BoolOp .Or (a::b::rest) pos) (tOr tA tB'):=⟨pw_or h.h h2.h⟩
theorem XW.xt (h:XW X e tA):XT X e tA:=⟨h.h.pt⟩
theorem xnon {j:Nat}:XE X (.Constant .none j pos) (tC .non):=⟨pe_non⟩
theorem xbl {k:Bool} {j:Nat}:XE X (.Constant (.bool k) j pos) (tC (.bl k)):=⟨pe_bl⟩
theorem xint {i:Int} {j:Nat}:XE X (.Constant (.int i) j pos) (tC (.int i)):=⟨pe_int⟩
theorem xstr {y:Str} {j:Nat}:XE X (.Constant (.str y) j pos) (tC (.str y)):=⟨pe_str⟩
theorem xv (i:Nat) (hN:X.N[i]? = some x:=by rfl) (hv:Vis X.env.scope x:=by first |exact Or.inl rfl |exact Or.inr (Or.inl rfl) |exact Or.inr (Or.inr rfl)) (hd:(x==("__debug__":Str))=false:=by decide)
  (hcd:(x==("__classdict__":Str))=false:=by decide):XE X (.Name x pos) (tVar i):=⟨pv i hN hv hd hcd⟩
theorem xgS {y:Str} (h:∃ t,X.mg x=some (.str y t)) (hg:Gl X x:=by exact rfl) (hd:(x==("__debug__":Str))=false:=by decide):XE X (.Name x pos) (tC (.str y)):=⟨pe_globS h hg hd⟩
theorem xgI {y:Int} (h:∃ t,X.mg x=some (.int y t)) (hg:Gl X x:=by exact rfl) (hd:(x==("__debug__":Str))=false:=by decide):XE X (.Name x pos) (tC (.int y)):=⟨pe_globI h hg hd⟩
theorem xty {T:String} (hm:X.mg x=none) (hv:bootBuiltins x=some (.type T)) (hg:Gl X x:=by exact rfl) (hn:x≠"__name__":=by decide) (hd:(x==("__debug__":Str))=false:=by decide):XE X (.Name x pos) (tC (.ty T)):=⟨pe_bltn hg hm hv rfl hn hd⟩
theorem xop {op:Operator} {r:R2} (ho:OpR X (binaryOp op) r) (ha:XE X a ta) (hb:XE X b tb):XE X (.BinOp a op b pos) (tOp r ta tb):=⟨pe_op ho ha.h hb.h⟩
theorem xun {op:UnaryOp} {r:V->Hp->VK->Prop} (ho:UnR X (unaryOp op) r) (ha:XE X a ta):XE X (.UnaryOp op a pos) (tUn r ta):=⟨pe_un ho ha.h⟩
theorem xcmp {op:CmpOp} {r:R2} (ho:OpR X (compareOp op) r) (ha:XE X a ta) (hb:XE X b tb) (hm:behindInMarks op b=false):XE X (.Compare a [op] [b] pos) (tOp r ta tb):=⟨pe_cmpR ho ha.h hb.h hm⟩
theorem xone {op} (h:XE X a ta):XE X (.BoolOp op [a] pos) ta:=⟨pe_one h.h⟩
theorem xandV {rest:List Expr} (h:XE X a ta) (h2:XE X (.BoolOp .And (b::rest) pos) tb):XE X (.BoolOp .And (a::b::rest) pos) (tAndV ta tb):=⟨pe_and h.h h2.h⟩
theorem xifE (h:XT X c tA) (ha:XE X a ta) (hb:XE X b tb):XE X (.IfExp c a b pos) (tIf tA ta tb):=⟨pe_ifExp h.h ha.h hb.h⟩
theorem xo1 (h:XE X e te):XO X (some e) (tPart te):=⟨po_some h.h⟩
theorem xsl {r:V->Option Int->Option Int->Hp->VK->Prop} {lo hi:Option Expr} {tl th:TO} (hr:SlR X r) (he:XE X e te) (hl:XO X lo tl) (hu:XO X hi th):XE X (.Subscript e (.Slice lo hi none p2) pos) (tSl r te tl th):=⟨pe_slice hr he.h hl.h hu.h⟩
theorem xix {r:R2} (hr:IxR X r) (ha:XE X a ta) (hb:XE X b tb) (hs:PlainIx b):XE X (.Subscript a b pos) (tOp r ta tb):=⟨pe_ix hr ha.h hb.h hs⟩
theorem xa0:XA X [] tNil:=⟨pa_nil⟩
theorem xac (ha:XE X e te) (hr:XA X es t) (h:isStar e=false:=by rfl):XA X (e::es) (tCons te t):=⟨pa ha.h hr.h h⟩
theorem xlst (h:XA X es t):XE X (.List es pos) (tLst t):=⟨pe_lst h.h⟩
theorem xtup {k} (h:XA X es t):XE X (.Tuple es k pos) (tTup t):=⟨pe_tup h.h⟩
theorem xcD {k:Nat} {ps:List Str} {sp:Sp} (D:Def X.prog X.w X.K X.mg X.base k x ps sp) (hr:Room k X.A) (ha:XA X (e::es) t) (hg:Gl X x:=by exact rfl) (hdb:(x==("__debug__":Str))=false:=by decide) (hst:noStars (e::es)=true:=by rfl):
  XE X (.Call (.Name x p) (e::es) [] pos) (tCall sp [] E0 t):=⟨cD D hr ha.h hg hdb hst⟩
theorem xcB {id:String} {r:List V->Hp->VK->Prop} (hc:CallR X (.builtin id) r) (hm:X.mg x=none) (hv:bootBuiltins x=some (.builtin id)) (ha:XA X (e::es) t) (hg:Gl X x:=by exact rfl) (hn:x≠"__name__":=by decide) (hdb:(x==("__debug__":Str))=false:=by decide)
  (hst:noStars (e::es)=true:=by rfl):XE X (.Call (.Name x p) (e::es) [] pos) (tCB r t):=⟨cB hc hg hm hv ha.h hn hdb hst⟩
theorem xcTy {T:String} {r:List V->Hp->VK->Prop} (hc:CallR X (.type T) r) (hm:X.mg x=none) (hv:bootBuiltins x=some (.type T)) (ha:XA X (e::es) t) (hg:Gl X x:=by exact rfl) (hn:x≠"__name__":=by decide) (hdb:(x==("__debug__":Str))=false:=by decide)
  (hst:noStars (e::es)=true:=by rfl):XE X (.Call (.Name x p) (e::es) [] pos) (tCB r t):=by
 have h1:isStar e=false:=by
  have:=hst
  unfold noStars at this
  rw[Bool.and_eq_true,Bool.not_eq_true'] at this
  exact this.1
 have h2:noStars es=true:=by
  have:=hst
  unfold noStars at this
  rw[Bool.and_eq_true] at this
  exact this.2
 exact ⟨pe_callTy hc hg hm hv ha.h hn hdb (star_cons h1) (stars_any h2)⟩
theorem xm {name:Str} {T id:String} {r:V->List V->Hp->VK->Prop} (pa:PlainAttrs T) (slot:Slot T name id) (hty:typeOf (.builtin id)=pure (.type "method_descriptor")) (hm:MtR X id r) (ho:XE X o to) (ha:XA X (e::es) t)
  (hb:plainBase o=true:=by rfl) (hst:noStars (e::es)=true:=by rfl) (hl:decide ((e::es).length+([]:List Keyword).length+(if ([]:List Keyword).isEmpty then 0 else 1) < 30)=true:=by rfl)
  (hline:(apos.endLine==cpos.line)=true:=by rfl):XE X (.Call (.Attribute o name apos) (e::es) [] cpos) (tBM X.K T r to t):=⟨pm pa slot hty hm ho.h ha.h (base_of hb) hst hl hline⟩
theorem xm0 {name:Str} {T id:String} {r:V->List V->Hp->VK->Prop} (pa:PlainAttrs T) (slot:Slot T name id) (hty:typeOf (.builtin id)=pure (.type "method_descriptor")) (hm:MtR X id r) (ho:XE X o to)
  (hb:plainBase o=true:=by rfl) (hline:(apos.endLine==cpos.line)=true:=by rfl):XE X (.Call (.Attribute o name apos) [] [] cpos) (tBM0 X.K T r to):=⟨pe_bm0 pa slot hty hm ho.h (base_of hb) hline⟩
theorem xrepl {y z:Str} {jy jz:Nat} {py pz:Pos} (ho:XE X o to) (hyz:(y==z)=false) (hzl:z.length<=14) (hb:plainBase o=true:=by rfl) (hline:(apos.endLine==cpos.line)=true:=by rfl):
  XE X (.Call (.Attribute o "replace" apos) [.Constant (.str y) jy py, .Constant (.str z) jz pz] [] cpos) (fun σ H Q=>to σ H fun x H1=>∃ w,x = .str w/\w.length<=1000000/\Q (.str (Txt.replace w y z)) H1):=⟨pe_replace ho.h hyz hzl (base_of hb) hline⟩
theorem xq0:XQ X [] tYes:=⟨pts_nil⟩
section
variable {scope:Scope} {cl:List (Str×Addr)} {own:List Str} {fr:List Nat} {N':List Str} {tg iter elt:Expr} {ifs:List Expr} {wi:TI} {g:TG} {tt:TT}
theorem xlc (hc:X.calm=true) (Z:CompN X scope cl own fr N') (hcell:∀ y∈scope.names,y.2 ≠ .cell) (hnames:∀ x∈scope.names,x.2 = .local->scope.names.lookup x.1=some .local) (hclos:closureFor scope X.env=pure cl)
  (hi:XI X tg iter wi) (hg:∀ C fp s H,XG (compX X scope cl C N' fp s H) tg g) (ht:∀ C fp s H,XQ (compX X scope cl C N' fp s H) ifs tt) (he:∀ C fp s H,XE (compX X scope cl C N' fp s H) elt te)
  (hs:∀ x,foldedSetIterable iter X.env x=pure x:=by intro _;rfl):XE X (.ListComp elt [⟨tg,iter,ifs,0⟩] scope pos) (tLC wi own.length fr g tt te):=
 ⟨pe_lc hc Z hcell hnames hclos hi.h (fun C fp s H=>(hg C fp s H).h) (fun C fp s H=>(ht C fp s H).h) (fun C fp s H=>(he C fp s H).h) hs⟩
theorem xslc {i:Nat} {pos' spos:Pos} (hN:X.N.Nodup) (hix:X.N[i]? = some x) (hx:X.env.scope.names.lookup x=some .local) (hc:X.calm=true) (Z:CompN X scope cl own fr N') (hcell:∀ y∈scope.names,y.2 ≠ .cell)
  (hnames:∀ x∈scope.names,x.2 = .local->scope.names.lookup x.1=some .local) (hclos:closureFor scope X.env=pure cl)
  (hi:XI X tg iter wi) (hg:∀ C fp s H,XG (compX X scope cl C N' fp s H) tg g) (ht:∀ C fp s H,XQ (compX X scope cl C N' fp s H) ifs tt) (he:∀ C fp s H,XE (compX X scope cl C N' fp s H) elt te)
  (hs:∀ x,foldedSetIterable iter X.env x=pure x:=by intro _;rfl) (hsw:swapsWith (.ListComp elt [⟨tg,iter,ifs,0⟩] scope pos) (some (.Name x pos')) spos.line X.env=pure true:=by rfl):
  XS X (.Assign [.Name x pos'] (.ListComp elt [⟨tg,iter,ifs,0⟩] scope pos) spos) (tSetLC i wi own.length fr g tt te):=
 ⟨ps_setlc hN hix hx hc Z hcell hnames hclos hi.h (fun C fp s H=>(hg C fp s H).h) (fun C fp s H=>(ht C fp s H).h) (fun C fp s H=>(he C fp s H).h) hs hsw⟩
end
end
end L2
set_option Elab.async false
set_option linter.all false
set_option maxRecDepth 100000
namespace L2
open PySem PySem.Spec PyProof.Rows
section
variable {X:Cx} {CX:CXT} {k:Nat} {f C:Addr} {fd:FuncData} {ps:List Str} {sp:Sp} {dvs:List V} {ds:List Value} {E:XK} {x m:Str} {p pos apos:Pos} {e o:Expr} {es:List Expr} {ta:TE} {t:TA}
end
section
variable {P:Program} {w:World} {K:PySem.W.Frag} {mg:Str->Option Value} {base:Heap}
end
section
variable {X:Cx} {k:Nat} {x:Str} {ps:List Str} {sp:Sp} {e:Expr} {es:List Expr} {te:TE} {t:TA} {p pos:Pos}
end
end L2
set_option Elab.async false
set_option linter.all false
set_option maxRecDepth 100000
namespace L2
open PySem PySem.Spec PyProof.Rows
section
variable {X:Cx} {pins:List (Addr×Obj)} {σ:St} {H:Hp} {s:Shared} {h':Heap}
end
section
variable {X:Cx} {e l:Expr} {te:TE} {t:TA} {pos p p1 p2 p3:Pos}
section
variable {scope:Scope} {cl:List (Str×Addr)} {C:Addr} {N':List Str} {fp:List Addr} {s:Shared} {H:Hp}
end
end
end L2
set_option Elab.async false
set_option linter.all false
set_option maxRecDepth 100000
namespace L2
open PySem PySem.Spec PyProof.Rows
section
variable {X:Cx} {pins:List (Addr×Obj)} {σ:St} {H:Hp} {s:Shared} {h':Heap}
end
end L2
set_option Elab.async false
set_option linter.all false
set_option maxRecDepth 100000
namespace L2
open PySem PySem.Spec PyProof.Rows
def TrL (h B:Heap) (e:Addr) (cls a0 fl:Value):Prop:=
 ∃ (oe:Obj) (vs:Array Value) (T:Addr) (oT:Obj) (ts:Array Value),h.get? e=some oe/\oe.cls=cls/\vs[0]? = some a0/\oe.data = .fields vs/\vs[1]? = some (.ref T)/\vs[2]? = some .none/\B.get? T=none/\T≠e/\h.get? T=some oT/\oT.data = .fields ts/\ts[3]? = some fl
structure FlyL (B:Heap) (l:List Env) (e:Addr) (cls a0 fl:Value) (h:Heap):Prop where
 st:B.StaysIn h
 ne:B.get? e=none
 ff:h.FunFrames B l
 tr:TrL h B e cls a0 fl
section
variable {M:Model} {A:Around} {E:Value->Shared->Prop} {s:Shared} {B:Heap} {env:Env} {outer:List Env} {L e:Addr} {cls a0 fl:Value} {Q:Unit->Shared->Prop}
theorem put_one {h:Heap} {e:Addr} {oe ot:Obj} {vs:Array Value} (he:h.get? e=some oe) (hd:oe.data = .fields vs) (hn:ot.isFreed=false) (f:Obj->Obj) (hf:(f oe).isFreed=false):
  ((h.push ot).update e f).get? e=some (f oe)/\((h.push ot).update e f).get? h.objs.size=some ot/\∀ b o,b≠e->h.get? b=some o->((h.push ot).update e f).get? b=some o:=by
 have hlt:e≠h.objs.size:=Nat.ne_of_lt (Heap.lt_size he)
 refine ⟨Heap.get?_update_self f (Heap.get?_push_of_some ot he) hf,?_,fun b o hb q=>?_⟩
 ·rw[Heap.get?_update_other _ f hlt];exact Heap.get?_push_size h hn
 ·rw[Heap.get?_update_other _ f (Ne.symm hb)];exact Heap.get?_push_of_some ot q
theorem entryL {oe:Obj} {vs:Array Value} {hv:Value} {nx:Bool} (hA:A.frames=some (env::outer)) (ff:s.heap.FunFrames B (env::outer)) (hL:env.frame=some L) (he:s.heap.get? e=some oe) (hB:B.StaysIn s.heap) (hn:B.get? e=none) (hd:oe.data = .fields vs)
  (h1:1 < vs.size) (h0:vs[0]? = some a0) (h2:vs[2]? = some .none) (k:∀ h',FlyL B (env::outer) e oe.cls a0 (rawInt L) h'->s.heap.UpToSlots h'->Q () { s with heap:=h' }):
  wpAny M A (do let a ← frameOf env;let pl ← entryPlaceOf L nx;let b ← EntryCells.newEntry hv a .none (rawInt L) .none pl;setField (.ref e) 1 b) Q E s:=by
 have notF:e∉(env::outer).filterMap (·.frame):=fun m=>let ⟨_,o,q,z⟩:=ff.mem m;z vs (by rw[he] at q;cases q;exact hd)
 refine wpAny_bind (wpAny_frameOf_fun hA ff hL fun g hg=>wpAny_bind (wpAny_entryPlaceOf fun pl hpl=>?_))
 obtain ⟨_,g1,g2⟩:=hg
 have ge:g.get? e=some oe:=(g1 e notF).trans he
 have gB:B.StaysIn g:=fun b o q=>(g1 b fun m=>by have:=(ff.mem m).1;rw[q] at this;cases this).trans (hB b o q)
 unfold EntryCells.newEntry newFields
 refine wpAny_bind (wpAny_newObj_type (wpAny_setField (Heap.get?_push_of_some _ ge) hd h1 (k _ ?_ ?_)) (hpl.sizeOk5 _ _ _ _ _))
 all_goals
  obtain ⟨p1,p2,p3⟩:=put_one (ot:={ cls := .type "traceback",dict:=none,data := .fields ([hv, .ref L, .none,rawInt L, .none]++(if pl.isEmpty then List.replicate 6 Value.none else pl)).toArray }) ge hd rfl (Obj.mapFields (·.setIfInBounds 1 (Value.ref g.objs.size))) (Obj.isFreed_of_fields (Obj.data_mapFields hd _))
  have ne':∀ b o,s.heap.get? b=some o->(∀ ws,o.data ≠ .fields ws)->b≠e:=fun b o q z y=>by subst y;rw[he] at q;cases q;exact z vs hd
 ·refine ⟨fun b o q=>p3 b o (fun y=>by rw[y,hn] at q;cases q) (gB b o q),hn,ff.of_keeps fun b o q z=>?_,?_⟩
  ·obtain ⟨sl,y⟩:=g2 b o q
   exact ⟨_,p3 b _ (ne' b o q z) y,rfl⟩
  ·refine ⟨_,_,g.objs.size,_,_,p1,Obj.cls_mapFields _ _,?_,Obj.data_mapFields hd _,?_,?_,gB.fresh,Nat.ne_of_gt (Heap.lt_size ge),p2,rfl,?_⟩
   ·rw[Array.getElem?_setIfInBounds_ne (by decide)];exact h0
   ·simp[h1]
   ·rw[Array.getElem?_setIfInBounds_ne (by decide)];exact h2
   ·first |(simp;done) |(rcases hpl with rfl |⟨_,_,_,_,_,_,_,rfl⟩ <;> simp)
 ·intro b o q z
  obtain ⟨sl,y⟩:=g2 b o q
  exact ⟨sl,p3 b _ (ne' b o q z) y⟩
theorem unmarkT {h:Heap} {l:List Env} {x:Value} {oT:Obj} {T:Addr} {ts:Array Value} (F:h.FunFrames B l) (st:B.StaysIn h) (nT:B.get? T=none) (hT:h.get? T=some oT) (dT:oT.data = .fields ts):
  (∀ b,b≠T->(h.update T (Obj.mapFields (·.setIfInBounds 3 x))).get? b=h.get? b)/\B.StaysIn (h.update T (Obj.mapFields (·.setIfInBounds 3 x)))/\(h.update T (Obj.mapFields (·.setIfInBounds 3 x))).FunFrames B l/\h.UpToSlots (h.update T (Obj.mapFields (·.setIfInBounds 3 x))):=by
 have oth:∀ b,b≠T->(h.update T (Obj.mapFields (·.setIfInBounds 3 x))).get? b=h.get? b:=fun b q=>Heap.get?_update_other h _ (Ne.symm q)
 have ne':∀ b o,h.get? b=some o->(∀ ws,o.data ≠ .fields ws)->b≠T:=fun b o q z y=>by subst y;rw[hT] at q;cases q;exact z ts dT
 refine ⟨oth,fun b o q=>(oth b fun y=>by rw[y,nT] at q;cases q).trans (st b o q),F.of_keeps fun b o q z=>⟨o,(oth b (ne' b o q z)).trans q,rfl⟩,fun b o q z=>⟨o.slots,(oth b (ne' b o q z)).trans q⟩⟩
theorem noteL (hA:A.frames=some (env::outer)) (hL:env.frame=some L) (F:FlyL B (env::outer) e cls a0 .none s.heap) (k:∀ h',FlyL B (env::outer) e cls a0 (rawInt L) h'->s.heap.UpToSlots h'->Q () { s with heap:=h' }):wpAny M A (noteFrame (.ref e) env) Q E s:=by
 obtain ⟨st,hn,ff,oe,vs,T,oT,ts,xe0,rfl,h0,xd0,h1,h2,nT,ne,hT,dT,h3⟩:=F
 obtain ⟨u1,u2,u3,u4⟩:=unmarkT (x := .none) ff st nT hT dT
 unfold noteFrame
 simp only[hL]
 refine wpAny_bind (wpAny_field xe0 xd0 h1 ?_)
 rw[if_pos (by simp)]
 refine wpAny_bind (wpAny_field hT dT h3 ?_)
 rw[if_neg (by simp[rawInt])]
 refine wpAny_bind (wpAny_setField hT dT (Array.getElem?_eq_some_iff.mp h3).1 ?_)
 exact entryL hA u3 hL ((u1 e (Ne.symm ne)).trans xe0) u2 hn xd0 (Array.getElem?_eq_some_iff.mp h1).1 h0 h2 fun h' x y=>k h' x (u4.trans y)
theorem note0L {oe:Obj} {vs:Array Value} (hA:A.frames=some (env::outer)) (ff:s.heap.FunFrames B (env::outer)) (hL:env.frame=some L) (xe0:s.heap.get? e=some oe) (hB:B.StaysIn s.heap) (hn:B.get? e=none) (xd0:oe.data = .fields vs) (h1:vs[1]? = some .none)
  (h0:vs[0]? = some a0) (h2:vs[2]? = some .none) (k:∀ h',FlyL B (env::outer) e oe.cls a0 (rawInt L) h'->s.heap.UpToSlots h'->Q () { s with heap:=h' }):wpAny M A (noteFrame (.ref e) env) Q E s:=by
 unfold noteFrame
 simp only[hL]
 refine wpAny_bind (wpAny_field xe0 xd0 h1 ?_)
 rw[if_neg (by decide)]
 exact entryL hA ff hL xe0 hB hn xd0 (Array.getElem?_eq_some_iff.mp h1).1 h0 h2 k
theorem landL {l:List Env} (F:FlyL B l e cls a0 fl s.heap) (k:∀ h',FlyL B l e cls a0 .none h'->s.heap.UpToSlots h'->Q () { s with heap:=h' }):wpAny M A (setFlight (.ref e) none) Q E s:=by
 obtain ⟨st,hn,ff,oe,vs,T,oT,ts,xe0,hc,h0,xd0,h1,h2,nT,ne,hT,dT,h3⟩:=F
 have hz:=(Array.getElem?_eq_some_iff.mp h3).1
 obtain ⟨u1,u2,u3,u4⟩:=unmarkT (x:=(none:Option Addr).elim Value.none fun f=>rawInt f) ff st nT hT dT
 unfold setFlight
 refine wpAny_bind (wpAny_field xe0 xd0 h1 ?_)
 rw[if_pos (by simp)]
 refine wpAny_setField hT dT hz (k _ ⟨u2,hn,u3,oe,vs,T,_,_,(u1 e (Ne.symm ne)).trans xe0,hc,h0,xd0,h1,h2,nT,ne,Heap.get?_update_self _ hT (Obj.isFreed_of_fields (Obj.data_mapFields dT _)),Obj.data_mapFields dT _,by simp[hz]⟩ u4)
theorem leaveL (hA:A.frames=some (env::outer)) (hL:env.frame=some L) (F:FlyL B (env::outer) e cls a0 .none s.heap) (k:∀ h',FlyL B outer e cls a0 .none h'->s.heap.UpToSlots h'->Q () { s with heap:=h' }):wpAny M A (leaving env (.ref e)) Q E s:=by
 unfold leaving
 refine wpAny_bind (noteL hA hL F fun h' F' up=>landL F' fun h2 F2 up2=>k h2 ⟨F2.st,F2.ne,F2.ff.2.2,F2.tr⟩ (up.trans up2))
theorem leave0L {h:Heap} {args:List Value} (hA:A.frames=some (env::outer)) (hL:env.frame=some L) (hB:B.StaysIn h) (ff:h.FunFrames B (env::outer)) (hx:Heap.MadeExcOf h s.heap e cls args)
  (k:∀ h' t,FlyL B outer e cls (.ref t) .none h'->s.heap.UpToSlots h'->Q () { s with heap:=h' }):wpAny M A (leaving env (.ref e)) Q E s:=by
 obtain ⟨t,he,_,_⟩:=hx.there
 have hn:B.get? e=none:=by
  cases q:B.get? e with
  |none=>rfl
  |some o=>have:=hB e o q;rw[hx.new] at this;cases this
 unfold leaving
 refine wpAny_bind (note0L (a0 := .ref t) hA (ff.of_keeps fun b o q _=>⟨o,hx.keeps b o q,rfl⟩) hL he (fun b o q=>hx.keeps b o (hB b o q)) hn rfl rfl rfl rfl fun h' F' up=>landL F' fun h2 F2 up2=>k h2 t ⟨F2.st,F2.ne,F2.ff.2.2,F2.tr⟩ (up.trans up2))
end
end L2
set_option Elab.async false
set_option linter.all false
set_option maxRecDepth 100000
namespace L2
open PySem PySem.Spec PyProof.Rows
def Tr (h:Heap) (e T:Addr) (cls a0 fl:Value):Prop:=
 ∃ (oe:Obj) (vs:Array Value) (oT:Obj) (ts:Array Value),h.get? e=some oe/\(oe.cls=cls/\vs[0]? = some a0)/\oe.data = .fields vs/\vs[1]? = some (.ref T)/\T≠e/\h.get? T=some oT/\oT.data = .fields ts/\ts[3]? = some fl/\vs[2]? = some .none
section
variable {h h' B:Heap} {e T:Addr} {cls a0 fl:Value}
theorem Tr.traced (x:Tr h e T cls a0 fl) (hT:B.get? T=none):TrL h B e cls a0 fl:=
 let ⟨oe,vs,oT,ts,he,hc,hd,h1,hne,hT',hdT,h3,h2⟩:=x
 ⟨oe,vs,T,oT,ts,he,hc.1,hc.2,hd,h1,h2,hT,hne,hT',hdT,h3⟩
theorem Tr.of (x:TrL h B e cls a0 fl):∃ T,B.get? T=none/\Tr h e T cls a0 fl:=
 let ⟨oe,vs,T,oT,ts,he,hc,h0,hd,h1,h2,hT,hne,hT',hdT,h3⟩:=x
 ⟨T,hT,oe,vs,oT,ts,he,⟨hc,h0⟩,hd,h1,hne,hT',hdT,h3,h2⟩
theorem Tr.T_rec (x:Tr h e T cls a0 fl):T≠e/\∃ oT ts,h.get? T=some oT/\oT.data = .fields ts:=
 let ⟨_,_,oT,ts,_,_,_,_,hne,hT',hdT,_,_⟩:=x
 ⟨hne,oT,ts,hT',hdT⟩
end
theorem of_hid_none {h:Heap} {F:List Addr} {b:Addr} {o:Obj} (n:(PySem.W.hideAll h F).get? b=none) (e:h.get? b=some o):b∈F:=
 Classical.byContradiction fun q=>by rw[PySem.W.hideAll_get F e q] at n;cases n
theorem ObjOk.get {P:Program} {w:World} {H:Hp} {h:Heap} {a:Addr} {o:HO} (x:ObjOk P w H h a o):∃ ob,h.get? a=some ob:=by
 cases o with
 |lst xs=>obtain ⟨_,_,_,_,e⟩:=x;exact ⟨_,e⟩
 |tup xs=>obtain ⟨_,_,_,_,e,_⟩:=x;exact ⟨_,e⟩
 |dK kvs=>obtain ⟨_,_,_,_,o,_,_,e,_⟩:=x;exact ⟨_,e⟩
 |dT kvs=>obtain ⟨_,_,_,_,o,_,_,e,_⟩:=x;exact ⟨_,e⟩
 |set S n=>obtain ⟨o,_,_,_,e,_⟩:=x;exact ⟨_,e⟩
 |ins C dx fs=>obtain ⟨_,_,_,e,_⟩:=x;exact ⟨_,e⟩
 |own y=>exact x
 |xd fs=>obtain ⟨_,⟨_,_,_,e,_⟩,_⟩:=x;exact ⟨_,e⟩
 |rng lo hi=>obtain ⟨_,_,_,e⟩:=x;exact ⟨_,e⟩
 |frz ob u=>obtain ⟨e,_⟩:=x;exact ⟨_,e⟩
 |tbl ps=>exact ⟨_,show h.get? a=some _ from x⟩
 |met f y=>exact ⟨_,show h.get? a=some _ from x⟩
 |ext φ=>obtain ⟨_,e,_⟩:=x;exact e
theorem HOk.none_of {P:Program} {w:World} {H:Hp} {h:Heap} {a:Addr} (ok:HOk P w H h) (n:h.get? a=none):H a=none:=by
 cases q:H a with
 |none=>rfl
 |some o=>
  obtain ⟨ob,e⟩:=(ok a o q).get
  rw[n] at e;cases e
theorem HOk.fly {P:Program} {w:World} {H:Hp} {h h':Heap} {F:List Addr} (ok:HOk P w H h) (hF:∀ b∈F,H b=none) (st:(PySem.W.hideAll h F).StaysIn h'):HOk P w H h':=fun a o e=>
 (ok a o e).stay (fun b u hb q => st b u (PySem.W.hideAll_get F q fun m=>by
  rcases hb with z |z
  ·rw[<- z,hF b m] at e;cases e
  ·rw[hF b m] at z;cases z)) (fun _ q=>q) fun _ _ q=>q
theorem Un.fly {fs F:List Addr} {H₀ H:Hp} {h₀ h h':Heap} (u:Un fs [] H₀ H h₀ h) (st:(PySem.W.hideAll h F).StaysIn h') (hin:∀ b o,h₀.get? b=some o->b∈F->b∈fs)
  (hsl:∀ b∈fs,∀ o,h.get? b=some o->∃ sl,h'.get? b=some { o with slots:=sl }):Un fs [] H₀ H h₀ h' where
 keep:=fun b o e n hb hx=>st b o (PySem.W.hideAll_get F (u.keep b o e n hb hx) fun m=>hb (hin b o e m))
 slot:=fun b o e n hb hx=>by
  obtain ⟨sl,q⟩:=u.slot b o e n hb hx
  obtain ⟨sl',q'⟩:=hsl b hb _ q
  exact ⟨sl',q'⟩
 free:=u.free
 there:=fun b o e hx=>by
  obtain ⟨o',q⟩:=u.there b o e hx
  by_cases m:b∈F
  ·obtain ⟨sl,q'⟩:=hsl b (hin b o e m) o' q
   exact ⟨_,q'⟩
  ·exact ⟨o',st b o' (PySem.W.hideAll_get F q m)⟩
 tups:=u.tups
 frzs:=u.frzs
 tbls:=u.tbls
theorem rec_new {h h' base:Heap} {stack:List Env} {ex:List Addr} {T:Addr} {oT:Obj} {ts:Array Value} (ff:h.FunFrames base stack) (up:h.UpToSlots h') (n:(PySem.W.hideAll h (frs stack++ex)).get? T=none)
  (hT:h'.get? T=some oT) (hd:oT.data = .fields ts):h.get? T=none ∨ T∈ex:=by
 cases q:h.get? T with
 |none=>exact .inl rfl
 |some o=>
  rcases List.mem_append.mp (of_hid_none n q) with m |m
  ·obtain ⟨_,o',ho',hnf⟩:=ff.mem m
   obtain ⟨sl,e'⟩:=up T o' ho' hnf
   rw[hT] at e'
   have z:oT={ o' with slots:=sl }:=Option.some.inj e'
   subst z
   exact absurd hd (hnf ts)
  ·exact .inr m
theorem ff_hide {h base:Heap} {stack:List Env} {ex:List Addr} (ff:h.FunFrames base stack):h.FunFrames (PySem.W.hideAll h (frs stack++ex)) stack:=
 PySem.W.funFrames_hide ff fun env he a q=>List.mem_append_left _ (List.mem_filterMap.mpr ⟨env,he,q⟩)
theorem ff_slot {h h' base:Heap} {stack:List Env} (ff:h.FunFrames base stack) (up:h.UpToSlots h'):∀ b∈frs stack,∀ o,h.get? b=some o->∃ sl,h'.get? b=some { o with slots:=sl }:=fun b hb o e=>by
 obtain ⟨_,o',ho',hnf⟩:=ff.mem hb
 rw[e] at ho';cases ho'
 exact up b o e hnf
theorem Un.no {fs:List Addr} {H₀ H:Hp} {h₀ h:Heap} {b:Addr} (u:Un fs [] H₀ H h₀ h) (n:h.get? b=none):h₀.get? b=none:=by
 cases q:h₀.get? b with
 |none=>rfl
 |some o=>
  obtain ⟨o',e⟩:=u.there b o q (by simp)
  rw[n] at e;cases e
structure Flew (P:Program) (w:World) (outer:List Env) (H:Hp) (s:Shared) (H':Hp) (e T:Addr) (cls a0:Value) (s':Shared):Prop where
 os:s'.os=s.os
 bare:AllBare s'.gens
 tk:0 < s'.toks
 un:Un (frs outer) [] H H' s.heap s'.heap
 hok:HOk P w H' s'.heap
 ne:s.heap.get? e=none
 nT:s.heap.get? T=none
 fe:H' e=none
 fT:H' T=none
 tr:Tr s'.heap e T cls a0 .none
def CXr (P:Program) (w:World):CXT:=fun outer H s E ev s'=>∃ e T cls a0 H',ev = .ref e/\E cls none H'/\Flew P w outer H s H' e T cls a0 s'
theorem passR {P:Program} {w:World} {X:Cx}:Passes (CXr P w) X E0:=fun _ _ _ _ _ _ _ ⟨_,_,_,_,_,_,h,_⟩=>h.elim
structure NewA (X:Cx) (pins:List (Addr×Obj)) (b:Addr):Prop where
 s0:X.s₀.heap.get? b=none
 loc:b≠X.env.locals
 cell:∀ x c,X.env.cells.lookup x=some c->c≠b
 pin:∀ p∈X.pn++pins,p.1≠b
theorem NewA.of {X:Cx} {pins:List (Addr×Obj)} {σ:St} {H:Hp} {s:Shared} {b:Addr} (I:Inv X pins σ H s) (hex:X.ex=[]) (n:s.heap.get? b=none):NewA X pins b where
 s0:=by
  have u:=I.base
  rw[hex] at u
  exact u.no n
 loc:=fun z=>by
  obtain ⟨m,⟨o,_,_,ho,_⟩,_⟩:=I.loc
  rw[<- z,n] at ho;cases ho
 cell:=fun x c e z=>by
  obtain ⟨v,o,ho,_⟩:=I.cell x c e
  rw[z,n] at ho;cases ho
 pin:=fun p hp z=>by
  obtain ⟨e,_⟩:=I.pin p hp
  rw[z,n] at e;cases e
theorem Inv.fly {X:Cx} {pins:List (Addr×Obj)} {σ:St} {H:Hp} {s:Shared} {h':Heap} {ex:List Addr} (I:Inv X pins σ H s) (hex:X.ex=[]) (st:(PySem.W.hideAll s.heap (frs X.stack++ex)).StaysIn h')
  (hn:∀ b∈ex,NewA X pins b/\H b=none) (up:s.heap.UpToSlots h'):Inv X pins σ H { s with heap:=h' }:=by
 have ff:=I.stack
 have hF:∀ b∈frs X.stack++ex,H b=none:=fun b hb=>(List.mem_append.mp hb).elim (I.stkFree b) fun z=>(hn b z).2
 have neL:∀ b o,X.s₀.heap.get? b=some o->b≠X.env.locals:=fun b o e=>Nat.ne_of_lt (Nat.lt_of_lt_of_le (Heap.lt_size e) I.ok.above)
 have cellK:∀ c v,s.heap.IsCell c v->h'.IsCell c v:=fun c v ⟨o,ho,hd⟩=>by
  obtain ⟨sl,q⟩:=up c o ho fun vs z=>by rw[hd] at z;cases z
  exact ⟨_,q,hd⟩
 have fsub:∀ b∈X.fs,b∈frs X.stack:=fun b hb=>by
  rcases I.ok.stk with e |⟨e,_⟩
  ·rw[e];exact hb
  ·rw[e]
   obtain ⟨env,he,q⟩:=List.mem_filterMap.mp (show b∈X.outer.filterMap (·.frame) from hb)
   exact List.mem_filterMap.mpr ⟨env,List.mem_cons_of_mem _ he,q⟩
 refine ⟨I.ok,I.os,I.bare,?_,?_,fun x c e=>?_,I.free,I.freeC,fun p hp=>?_,I.hok.fly hF st,I.len,I.tk⟩
 ·have u:=I.base
  rw[hex] at u ⊢
  refine u.fly st (fun b o e m=>?_) fun b hb=>ff_slot ff up b (fsub b hb)
  rcases List.mem_append.mp m with m |m
  ·exact (List.mem_cons.mp (I.stkSub b m)).elim (fun z=>absurd z (neL b o e)) fun z=>z
  ·rw[(hn b m).1.s0] at e;cases e
 ·obtain ⟨m,hm,hl⟩:=I.loc
  refine ⟨m,up.ns hm,fun i x v e1 e2 e3=>?_⟩
  obtain ⟨u,r,l⟩:=hl i x v e1 e2 e3
  refine ⟨u,r,?_⟩
  rcases l with l |⟨k,c,e,z⟩
  ·exact .inl l
  ·exact .inr ⟨k,c,e,cellK c _ z⟩
 ·obtain ⟨v,z⟩:=I.cell x c e
  exact ⟨v,cellK c v z⟩
 ·obtain ⟨e,n,ne,nf,d⟩:=I.pin p hp
  refine ⟨st _ _ (PySem.W.hideAll_get _ e fun m=>?_),n,ne,nf,d⟩
  rcases List.mem_append.mp m with m |m
  ·exact (List.mem_cons.mp (I.stkSub p.1 m)).elim ne nf
  ·exact (hn p.1 m).1.pin p hp rfl
structure Fl (X:Cx) (pins:List (Addr×Obj)) (σ:St) (H:Hp) (e T:Addr) (cls a0 fl:Value) (s:Shared):Prop where
 inv:Inv X pins σ H s
 tr:Tr s.heap e T cls a0 fl
 fe:H e=none
 fT:H T=none
 ne:NewA X pins e
 nT:NewA X pins T
section
variable {X:Cx} {pins:List (Addr×Obj)} {σ:St} {H H':Hp} {e T:Addr} {cls a0 fl fl':Value} {s s':Shared} {h':Heap}
theorem Fl.of_call (I:Inv X pins σ H s) (hex:X.ex=[]) (F:Flew X.prog X.w X.stack H s H' e T cls a0 s'):Fl X pins σ H' e T cls a0 .none s':=
 ⟨I.call' (ch:=[]) F.os F.un F.hok F.bare (fun b z=>absurd z (by simp)) F.tk,F.tr,F.fe,F.fT,NewA.of I hex F.ne,NewA.of I hex F.nT⟩
theorem Fl.moved (F:Fl X pins σ H e T cls a0 fl s) (hex:X.ex=[]) (st:(PySem.W.hideAll s.heap (frs X.stack++[e,T])).StaysIn h') (tr:TrL h' (PySem.W.hideAll s.heap (frs X.stack++[e,T])) e cls a0 fl') (up:s.heap.UpToSlots h'):
  ∃ T',Fl X pins σ H e T' cls a0 fl' { s with heap:=h' }:=by
 obtain ⟨T',hn,tr'⟩:=Tr.of tr
 obtain ⟨hne,oT,ts,hT,hd⟩:=tr'.T_rec
 have J := F.inv.fly hex st (fun b hb=>by
  rcases List.mem_cons.mp hb with z |z
  ·rw[z];exact ⟨F.ne,F.fe⟩
  ·rw[List.mem_singleton.mp z];exact ⟨F.nT,F.fT⟩) up
 have k:H T'=none/\NewA X pins T':=by
  rcases rec_new F.inv.stack up hn hT hd with z |z
  ·exact ⟨F.inv.hok.none_of z,NewA.of F.inv hex z⟩
  ·rcases List.mem_cons.mp z with z |z
   ·exact absurd z hne
   ·rw[List.mem_singleton.mp z];exact ⟨F.fT,F.nT⟩
 exact ⟨T',J,tr',F.fe,k.1,F.ne,k.2⟩
theorem Fl.held (F:Fl X pins σ H e T cls a0 fl s):FlyL (PySem.W.hideAll s.heap (frs X.stack++[e,T])) X.stack e cls a0 fl s.heap:=
 ⟨fun b o q=>PySem.W.of_hideAll _ q,PySem.W.hideAll_none _ (List.mem_append_right _ (List.mem_cons_self)),ff_hide F.inv.stack,F.tr.traced (PySem.W.hideAll_none _ (List.mem_append_right _ (List.mem_cons_of_mem _ (List.mem_cons_self))))⟩
variable {M:Model} {A:Around} {E:Value->Shared->Prop} {Q:Unit->Shared->Prop}
end
end L2
set_option Elab.async false
set_option linter.all false
set_option maxRecDepth 100000
namespace L2
open PySem PySem.Spec PyProof.Rows
section
variable {P:Program} {w:World} {K:PySem.W.Frag} {mg:Str->Option Value} {base:Heap} {N:List Str} {qual:Str} {scope:Scope} {f:Addr} {cd:Value} {A:Around} {outer:List Env} {s₀:Shared} {H₀:Hp} {E:XK}
theorem frs_tail {env:Env} {outer:List Env} {b:Addr} (h:b∈frs outer):b∈frs (env::outer):=by
 obtain ⟨x,hx,q⟩:=List.mem_filterMap.mp (show b∈outer.filterMap (·.frame) from h)
 exact List.mem_filterMap.mpr ⟨x,List.mem_cons_of_mem _ hx,q⟩
theorem leave_made {pins:List (Addr×Obj)} {σ:St} {H:Hp} {s:Shared} {h':Heap} {e:Addr} {cls:Value} {args:List Value} (I:Inv (cxOf (CXr P w) P w K mg base N qual scope f cd A outer s₀ H₀ E) pins σ H s)
  (hx:Heap.MadeExcOf s.heap h' e cls args) (hE:E cls none H):(cxOf (CXr P w) P w K mg base N qual scope f cd A outer s₀ H₀ E).xe (.ref e) { s with heap:=h' }:=by
 have ff:s.heap.FunFrames base (envOfC qual scope s₀.heap.objs.size f cd::outer):=I.stack
 have hB:=ff_hide (ex:=[]) ff
 show wpAny (model P w) (A.deeper (envOfC qual scope s₀.heap.objs.size f cd)) (leaving (envOfC qual scope s₀.heap.objs.size f cd) (.ref e)) _ _ _
 refine leave0L (B:=PySem.W.hideAll s.heap (frs (envOfC qual scope s₀.heap.objs.size f cd::outer)++[])) (h:=s.heap) (outer:=outer) (L:=s₀.heap.objs.size) (show (A.deeper (envOfC qual scope s₀.heap.objs.size f cd)).frames=_ from I.ok.frames) rfl
  (fun b o q=>PySem.W.of_hideAll _ q) hB hx fun h2 t fl up=>?_
 obtain ⟨st,hen,ffo,tr⟩:=fl
 have up':s.heap.UpToSlots h2:=(Heap.UpToSlots.of_keeps hx.keeps).trans up
 obtain ⟨T,hn,tr'⟩:=Tr.of tr
 obtain ⟨hne,oT,ts,hT,hd⟩:=tr'.T_rec
 have nT:s.heap.get? T=none:=by
  rcases rec_new ff up' hn hT hd with z |z
  ·exact z
  ·cases z
 have u:Un (frs outer) [] H₀ H s₀.heap s.heap:=I.base
 have neL:∀ b o,s₀.heap.get? b=some o->b≠s₀.heap.objs.size:=fun b o e=>Nat.ne_of_lt (Heap.lt_size e)
 refine ⟨e,T,cls, .ref t,H,rfl,hE,I.os,I.bare,I.tk,?_,?_,u.no hx.new,u.no nT,I.hok.none_of hx.new,I.hok.none_of nT,tr'⟩
 ·refine u.fly st (fun b o q m=>?_) fun b hb=>ff_slot ff up' b (frs_tail hb)
  rw[List.append_nil] at m
  exact (List.mem_cons.mp (I.stkSub b m)).elim (fun z=>absurd z (neL b o q)) fun z=>z
 ·refine I.hok.fly (fun b m=>?_) st
  rw[List.append_nil] at m
  exact I.stkFree b m
theorem pass_on {E':XK} (h:∀ cls H,E' cls none H->E cls none H):Passes (CXr P w) (cxOf (CXr P w) P w K mg base N qual scope f cd A outer s₀ H₀ E) E':=by
 intro pins σ H s ev s' I hq
 obtain ⟨e,T,cls,a0,H',rfl,hE,F0⟩:=hq
 have F:Fl (cxOf (CXr P w) P w K mg base N qual scope f cd A outer s₀ H₀ E) pins σ H' e T cls a0 .none s':=Fl.of_call I rfl F0
 have J:=F.inv
 have ff:s'.heap.FunFrames base (envOfC qual scope s₀.heap.objs.size f cd::outer):=J.stack
 show wpAny (model P w) (A.deeper (envOfC qual scope s₀.heap.objs.size f cd)) (leaving (envOfC qual scope s₀.heap.objs.size f cd) (.ref e)) _ _ _
 refine leaveL (B:=PySem.W.hideAll s'.heap (frs (envOfC qual scope s₀.heap.objs.size f cd::outer)++[e,T])) (outer:=outer) (L:=s₀.heap.objs.size) (cls:=cls) (a0:=a0) (show (A.deeper (envOfC qual scope s₀.heap.objs.size f cd)).frames=_ from J.ok.frames) rfl F.held fun h2 fl up=>?_
 obtain ⟨T2,F2⟩:=F.moved rfl fl.st fl.tr up
 have J2:=F2.inv
 exact ⟨e,T2,cls,a0,H',rfl,h _ _ hE,J2.os,J2.bare,J2.tk,J2.base,J2.hok,F2.ne.s0,F2.nT.s0,F2.fe,F2.fT,F2.tr⟩
end
structure OwnX (K:PySem.W.Frag) (C:Addr):Prop where
 ex:∃ (bmB:List Value) (newId initId B:String),PySem.W.excIn K C bmB newId=true/\ExcBaseFacts B newId initId bmB
def Raises (X:Cx) (E:XK):Prop:=∀ (pins:List (Addr×Obj)) (σ:St) (H:Hp) (s:Shared) (h':Heap) (e:Addr) (cls:Value) (vs:List Value),Inv X pins σ H s->Heap.MadeExcOf s.heap h' e cls vs->E cls none H->X.xe (.ref e) { s with heap:=h' }
def tRaise (C:Addr) (E:XK) (ta:TA):TS:=fun _ σ H=>ta σ H fun vs H1=>vs.length<=sizeLine/\E (.ref C) none H1
section
variable {X:Cx} {C:Addr} {E:XK} {x:Str} {e0:Expr} {rest:List Expr} {ta:TA} {np cpos pos:Pos}
theorem ps_raise (O:OwnX X.K C) (hm:X.mg x=some (.ref C)) (hc:X.calm=true) (hE:Raises X E) (ha:PA X (e0::rest) ta) (hg:Gl X x:=by exact rfl) (hdb:(x==("__debug__":Str))=false:=by decide)
  (he:starEach (e0::rest) X.env=(false,eval e0 X.env)::starEach rest X.env:=by rfl) (hpl:(backTo cpos (starEach rest X.env)).any (·.1)=false:=by rfl):
  PS X (.Raise (some (.Call (.Name x np) (e0::rest) [] cpos)) none pos) (tRaise C E ta):=by
 intro pins s σ H D I h
 obtain ⟨bmB,newId,initId,B,q,FB⟩:=O.ex
 have hK:X.K.In X.base:=I.ok.mod.kin
 unfold PySem.W.excIn at q
 split at q
 case h_2=>cases q
 rename_i d1 c1 l1 hC
 split at q
 case h_2=>cases q
 rename_i C1 tl j0 j1 j2 j3 id1 j5 hmro hslots
 rw[Bool.and_eq_true,Bool.and_eq_true,Bool.and_eq_true,Bool.and_eq_true,Bool.and_eq_true] at q
 obtain ⟨⟨⟨⟨⟨q1,q2⟩,q3⟩,q4⟩,q5⟩,q6⟩:=q
 cases beq_iff_eq.mp q1
 cases beq_iff_eq.mp q2
 have q3:c1.hasDel=false:=by simpa using q3
 obtain ⟨n1,b1,m1,a1,w1,g1,y1,u1,v1,z1,x1⟩:=c1
 cases hmro
 cases q3
 obtain ⟨l1⟩:=l1
 cases hslots
 have hget:=hK _ _ hC
 have hns:X.base.Ns a1 (X.base.nsMap a1) := .of_isNs (PySem.W.isNs_of_in hK q5)
 have hno:X.base.nsMap a1 "__init__"=none:=PySem.W.nsMap_none_of_in hK q5 (beq_iff_eq.mp q6)
 have htl:=PySem.W.tail_of_in hK q4
 refine wpAny_Raise_call_subT (nm:=n1) (q:=w1) (C:=C) (N:=a1)
  (bs:=b1) (bm:=tl) (hdct:=g1) (sn:=y1) (sub:=u1) (ab:=v1) (col:=z1) (dd:=d1)
  (k0:=j0) (k1:=j1) (k2:=j2) (k3:=j3) (k5:=j5) FB (htl.hasType FB.hasBase) (I.ok.hd hc) ?_ hno (ld_glob I hg hm ⟨rfl,?_⟩ hdb)
 ·rw[he]
  show (false||(backTo cpos (starEach rest X.env)).any (·.1))=false
  rw[hpl];rfl
 ·have h2:=ha cpos pins s σ H _ I h
  rw[he] at h2 ⊢
  refine Calls.evalArgs_plain (wpAny_mono h2 (fun us s2 r2=>?_) fun _ _ y=>y)
  obtain ⟨vs,H1,I2,rv,hz,hw⟩:=r2
  exact ⟨rfl,by rw[<- rv.length];exact hz,I2.bk _ _ hget,hns.keeps I2.bk,htl.keeps I2.bk,fun h' e hx=>hE pins σ H1 s2 h' e _ _ I2 hx hw⟩
end
theorem raises_cx {P:Program} {w:World} {K:PySem.W.Frag} {mg:Str->Option Value} {base:Heap} {N:List Str} {qual:Str} {scope:Scope} {f:Addr} {cd:Value} {A:Around} {outer:List Env} {s₀:Shared} {H₀:Hp} {E:XK}:
  Raises (cxOf (CXr P w) P w K mg base N qual scope f cd A outer s₀ H₀ E) E:=fun _ _ _ _ _ _ _ _ I hx hE=>leave_made I hx hE
structure DefR (P:Program) (w:World) (K:PySem.W.Frag) (mg:Str->Option Value) (base:Heap) (k:Nat) (x:Str) (ps:List Str) (sp:Sp):Prop where
 ex:∃ f fd,FnOk P w K mg base (CXr P w) k f fd ps sp/\mg x=some (.ref f)/\PySem.W.keepIn K (.ref f)=true/\Binds K fd ps []
theorem Fun.okR {P:Program} {w:World} {K:PySem.W.Frag} {mg:Str->Option Value} {base:Heap} {x qual:Str} {st:Stmt} {f:Addr} {fd:FuncData} {N ps:List Str} {k:Nat} {sp:Sp} (F:Fun K x qual st f fd) (S:FnScope N ps (defScope st)) (len:∀ vs H Q E,sp vs H Q E->vs.length=ps.length)
  (hbody:∀ (cdv:Value) (A:Around) (outer:List Env) (s:Shared) (H:Hp) (vs:List V) (Q:VK) (E:XK),Room k (A.deeper (envOfC qual (defScope st) s.heap.objs.size f cdv))->sp vs H Q E →
   ∃ t,PSs (cxOf (CXr P w) P w K mg base N qual (defScope st) f cdv A outer s H E) (defBody st) t/\t { nx:=fun _ H'=>Q .non H',rt:=Q } (start N vs) H):FnOk P w K mg base (CXr P w) (k+1) f fd ps sp:=by
 obtain ⟨oc,od,kV,doc,pm,an,cdv,ct,osl,rfl,lk,hcd⟩:=F.ex
 exact fn_of lk hcd S len fun A outer s H vs Q E hr hsp=>hbody cdv A outer s H vs Q E hr hsp
section
variable {X:Cx} {k:Nat} {x:Str} {ps:List Str} {sp:Sp} {e:Expr} {es:List Expr} {te:TE} {t:TA} {p pos:Pos}
theorem stars2 (hst:noStars (e::es)=true):isStar e=false/\noStars es=true:=by
 unfold noStars at hst
 rw[Bool.and_eq_true,Bool.not_eq_true'] at hst
 exact hst
theorem xcR (D:DefR X.prog X.w X.K X.mg X.base k x ps sp) (hr:Room k X.A) (ha:XA X (e::es) t) (hg:Gl X x:=by exact rfl) (hdb:(x==("__debug__":Str))=false:=by decide) (hst:noStars (e::es)=true:=by rfl):
  XE X (.Call (.Name x p) (e::es) [] pos) (tCall sp [] E0 t):=by
 obtain ⟨f,fd,G,hm,hk,hb⟩:=D.ex
 obtain ⟨h1,h2⟩:=stars2 hst
 exact ⟨pe_call G hr hg hm hk hb .nil passR ha.h hdb (star_cons h1) (stars_any h2)⟩
end
section
variable {X:Cx} {x n:Str} {C:Addr} {i:Nat} {body suite:List Stmt} {b₀:Stmt} {np hpos pos:Pos} {tb:TSx} {th:TS}
end
end L2
set_option Elab.async false
set_option linter.all false
set_option maxRecDepth 100000
namespace L2
open PySem PySem.Spec PySem.Calls PyProof.Rows PySem.W PySem.Builtin PySem.Builtin.Str PySem.Builtin.ObjectAttr PySem.Builtin.Getset_descriptor
section
variable {prog:Program} {w:World} {A:Around} {E:Value->Shared->Prop} {s:Shared} {K:PySem.W.Frag} {e C:Addr}
end
section
variable {X:Cx} {x:Str} {pos p:Pos}
theorem xgC {C:Addr} (hm:X.mg x=some (.ref C)) (hg:Gl X x:=by exact rfl) (hd:(x==("__debug__":Str))=false:=by decide):XE X (.Name x pos) (tC (.ref C)):=⟨pe_glob hg hm rfl hd⟩
theorem xraise {C:Addr} {E:XK} {e0:Expr} {rest:List Expr} {ta:TA} {np cpos:Pos} (O:OwnX X.K C) (hm:X.mg x=some (.ref C)) (hc:X.calm=true) (hE:Raises X E) (ha:XA X (e0::rest) ta) (hg:Gl X x:=by exact rfl) (hdb:(x==("__debug__":Str))=false:=by decide)
  (hst:noStars (e0::rest)=true:=by rfl):XS X (.Raise (some (.Call (.Name x np) (e0::rest) [] cpos)) none pos) (tRaise C E ta):=by
 obtain ⟨h1,h2⟩:=stars2 hst
 exact ⟨ps_raise O hm hc hE ha.h hg hdb (star_cons h1) (stars_any h2)⟩
theorem op_mulS:OpR X (binaryOp .Mult) (fun x y H Q=>∃ z n,x = .str z/\y = .int n/\z.length<=1000/\0<=n/\n<=1000/\Q (.str (Txt.mul z n)) H):=by
 intro pins s σ H x y v u Q I rx ry h
 obtain ⟨z,n,rfl,rfl,hz,h0,h1,q⟩:=h
 obtain ⟨t,rfl⟩:=rx
 obtain ⟨t',rfl⟩:=ry
 refine wpAny_with_toks (n:=1) I.tk (SB.mul ?_ fun t' k htk=>⟨.str (Txt.mul z n),H,I.tok _ htk,⟨_,rfl⟩,q⟩)
 have hs:sizeLine=16777216:=sizeLine_eq
 have hm:(z.length:Int) * n<=1000 * 1000:=Int.mul_le_mul (by omega) h1 h0 (by omega)
 have hm2:z.length * n.toNat<=1000 * 1000:=Nat.mul_le_mul hz (by omega)
 refine ⟨?_,fun _ _=>?_,fun _ _=>?_⟩
 ·have e1:decide (n < -(2 ^ 63:Int))=false:=decide_eq_false (by omega)
  have e2:decide (n ≥ 2 ^ 63)=false:=decide_eq_false (by omega)
  rw[e1,e2];rfl
 ·intro q
  rename_i a _
  have hp:0 < n:=by omega
  have h9:(z.length:Int)<=(2 ^ 63 - 1:Int) / n:=(Int.le_ediv_iff_mul_le hp).mpr (by omega)
  omega
 ·unfold tooLong
  exact decide_eq_false (by omega)
end
end L2
set_option Elab.async false
set_option linter.all false
set_option maxRecDepth 100000
namespace L2
open PySem PySem.Spec PyProof.Rows
section
variable {X:Cx} {scope:Scope} {cl:List (Str×Addr)} {C:Addr} {N':List Str} {fp:List Addr} {s:Shared} {H:Hp} {o e:Expr} {es:List Expr} {to:TE} {t:TA} {apos cpos:Pos}
end
end L2
set_option Elab.async false
set_option linter.all false
set_option maxRecDepth 100000
namespace L2
open PySem PySem.Spec PyProof.Rows
structure CloScope (N ps fr:List Str) (sc:Scope):Prop where
 kind:sc.kind = .function
 co:sc.isCoroutine=false
 gen:sc.isGenerator=false
 nd:N.Nodup
 pre:N.take (ps.length+fr.length)=ps++fr
 par:∀ x∈ps,sc.names.lookup x=some .local
 nocell:∀ y∈sc.names,y.2 ≠ .cell
structure CloCells (base:Heap) (cl:List (Str×Addr)) (sc:Scope) (fr:List Str) (fvs:List V):Prop where
 cell:∀ x c,cl.lookup x=some c->∃ v,base.IsCell c v
 inj:∀ x y c,cl.lookup x=some c->cl.lookup y=some c->x=y
 has:∀ x,sc.names.lookup x=some .free->∃ c,cl.lookup x=some c
 len:fvs.length=fr.length
 val:∀ (i:Nat) x v,fr[i]? = some x->fvs[i]? = some v->sc.names.lookup x=some .free/\∃ u c,RelV v u/\cl.lookup x=some c/\base.IsCell c (some u)
def cxC (CX:CXT) (P:Program) (w:World) (K:PySem.W.Frag) (mg:Str->Option Value) (base:Heap) (N:List Str) (qual:Str) (scope:Scope) (f:Addr) (cd:Value) (cl:List (Str×Addr)) (A:Around) (outer:List Env) (s:Shared) (H:Hp) (E:XK):Cx where
 prog:=P
 w:=w
 K:=K
 mg:=mg
 base:=base
 A:=A.deeper (PySem.W.envX qual scope s.heap.objs.size f cd cl)
 N:=N
 s₀:=s
 H₀:=H
 env:=PySem.W.envX qual scope s.heap.objs.size f cd cl
 outer:=outer
 stack:=PySem.W.envX qual scope s.heap.objs.size f cd cl::outer
 ex:=[]
 calm:=true
 fn:=fun _=>false
 pn:=[]
 xe:=fun e s'=>wpAny (model P w) (A.deeper (PySem.W.envX qual scope s.heap.objs.size f cd cl)) (leaving (PySem.W.envX qual scope s.heap.objs.size f cd cl) e) (fun _ s''=>CX outer H s E e s'') (fun e' s''=>CX outer H s E e' s'') s'
theorem rev_lookup_zip {x:Str} {u:Value}:∀ {ps:List Str} {us:List Value} {i:Nat},ps.Nodup->ps[i]? = some x->us[i]? = some u->(ps.zip us).reverse.lookup x=some u:=by
 have out:∀ (l:List (Str×Value)) (r:List (Str×Value)),(∀ v,(x,v)∉l)->(l++r).lookup x=r.lookup x:=by
  intro l
  induction l with
  |nil=>intro r _;rfl
  |cons a l ih=>
   intro r h
   obtain ⟨y,v⟩:=a
   have hy:(x==y)=false:=by
    apply Bool.eq_false_iff.mpr
    intro z
    have z':=eq_of_beq z
    subst z'
    exact h v List.mem_cons_self
   rw[List.cons_append,List.lookup_cons,hy]
   exact ih r fun v hv=>h v (List.mem_cons_of_mem _ hv)
 intro ps
 induction ps with
 |nil=>intro us i _ h;simp at h
 |cons p ps ih=>
  intro us i nd h1 h2
  cases us with
  |nil=>simp at h2
  |cons w us=>
   rw[List.zip_cons_cons,List.reverse_cons]
   cases i with
   |zero=>
    simp at h1 h2
    subst h1;subst h2
    rw[out _ _ fun v hv=>(List.nodup_cons.mp nd).1 (List.of_mem_zip (List.mem_reverse.mp hv)).1]
    rw[List.lookup_cons];simp
   |succ i=>
    have q:=ih (us:=us) (i:=i) (List.nodup_cons.mp nd).2 (by simpa using h1) (by simpa using h2)
    have app:∀ (l r:List (Str×Value)) (v:Value),l.lookup x=some v->(l++r).lookup x=some v:=by
     intro l
     induction l with
     |nil=>intro r v h;cases h
     |cons a l ih=>
      intro r v h
      obtain ⟨y,z⟩:=a
      rw[List.cons_append,List.lookup_cons] at *
      cases hb:x==y with
      |true=>rw[hb] at h;exact h
      |false=>rw[hb] at h;exact ih r v h
    exact app _ _ _ q
theorem inv_startC {CX:CXT} {P:Program} {w:World} {K:PySem.W.Frag} {mg:Str->Option Value} {base:Heap} {N ps fr:List Str} {qual:Str} {scope:Scope} {f:Addr} {cd:Value} {cl:List (Str×Addr)} {A:Around} {outer:List Env} {s:Shared} {h₁:Heap} {tk:Nat} {H:Hp} {E:XK} {us:List Value} {vs fvs:List V}
  (S:CloScope N ps fr scope) (C:CloCells base cl scope fr fvs) (hd:A.handled=none) (e0:Env0 P w K mg base A outer s H) (hl:vs.length=ps.length) (r:Vals vs us) (htk:0 < tk)
  (hns:h₁.Ns s.heap.objs.size (fun x=>(ps.zip us).reverse.lookup x)) (hk:∀ b o,s.heap.get? b=some o->h₁.get? b=some o):
  Inv (cxC CX P w K mg base N qual scope f cd cl A outer s H E) [] (start N (vs++fvs)) H { s with heap:=h₁,toks:=tk }:=by
 have hpl:ps.length+fr.length<=N.length:=by have:=congrArg List.length S.pre;rw[List.length_take,List.length_append] at this;omega
 have noA:∀ b:Addr,b∉(cxC CX P w K mg base N qual scope f cd cl A outer s H E).ex:=fun b z=>absurd (show b∈([]:List Addr) from z) (by simp)
 have hkb:∀ b o,base.get? b=some o->h₁.get? b=some o:=fun b o e=>hk b o (e0.bs b o e).1
 refine ⟨⟨e0.mod,S.kind,rfl,rfl,Nat.le_refl _,C.inj,fun y hy=>?_,fun y c z _=>absurd (show false=true from z) Bool.false_ne_true,fun _=>hd,Around.frames_deeper e0.frames, .inr ⟨rfl,rfl⟩,fun b z=>absurd z (noA b),e0.bs,e0.bsz,fun b _ _=>noA b,fun b z=>absurd z (noA b),e0.funs,e0.frf⟩,
  rfl,e0.bare,Un.kept hk,⟨_,hns,fun i y v h1 h2 h3=>?_⟩,fun y c h=>?_,e0.hok.fresh (Nat.le_refl _),fun y c h=>?_,fun p hp=>absurd (show p∈([]:List (Addr×Obj)) from hp) (by simp),e0.hok.kept hk,?_,htk⟩
 ·have hy:scope.names.lookup y=some .cell ∨ scope.names.lookup y=some .free:=hy
  rcases hy with hy |hy
  ·exact absurd rfl (S.nocell _ (PySem.mem_of_lookup hy))
  ·exact C.has y hy
 ·have hi:i < (vs++fvs).length:=by
   unfold start at h2
   by_cases hi:i < (vs++fvs).length
   ·exact hi
   ·rw[List.getElem?_append_right (by simpa using hi)] at h2
    rw[List.getElem?_replicate] at h2
    split at h2 <;> cases h2
  have ha:(vs++fvs)[i]? = some v:=by
   unfold start at h2
   rw[List.getElem?_append_left (by simpa using hi),List.getElem?_map] at h2
   cases e:(vs++fvs)[i]? with
   |none=>rw[e] at h2;cases h2
   |some a=>rw[e] at h2;cases h2;rfl
  have hlen:(vs++fvs).length=ps.length+fr.length:=by rw[List.length_append,hl,C.len]
  have hp:(ps++fr)[i]? = some y:=by
   rw[<- S.pre,List.getElem?_take_of_lt (by omega)];exact h1
  have ndP:(ps++fr).Nodup:=by rw[<- S.pre];exact S.nd.sublist (List.take_sublist _ _)
  by_cases hip:i < ps.length
  ·rw[List.getElem?_append_left hip] at hp
   rw[List.getElem?_append_left (by omega)] at ha
   obtain ⟨u,hu,rv⟩:=r.get ha
   exact ⟨u,rv, .inl ⟨S.par y (List.mem_of_getElem? hp),rev_lookup_zip (List.nodup_append.mp ndP).1 hp hu⟩⟩
  ·rw[List.getElem?_append_right (by omega)] at hp
   rw[List.getElem?_append_right (by omega),hl] at ha
   obtain ⟨hf,u,c,rv,hc,z⟩:=C.val _ y v hp ha
   exact ⟨u,rv, .inr ⟨.inr hf,c,hc,z.keeps hkb⟩⟩
 ·obtain ⟨v,z⟩:=C.cell y c h
  exact ⟨v,z.keeps hkb⟩
 ·obtain ⟨v,o,z,_⟩:=C.cell y c h
  exact (e0.bs _ _ z).2
 ·unfold start
  show _=N.length
  have hlen:(vs++fvs).length=ps.length+fr.length:=by rw[List.length_append,hl,C.len]
  rw[List.length_append,List.length_map,List.length_replicate]
  omega
theorem fn_ofC {CX:CXT} {P:Program} {w:World} {K:PySem.W.Frag} {mg:Str->Option Value} {base:Heap} {k:Nat} {f:Addr} {name qual:Str} {params:Arguments} {body:List Stmt} {scope:Scope} {cl:List (Str×Addr)} {dV kV doc pm cdv ct oc:Value} {an od:Option Addr}
  {osl:Array (Option Value)} {N ps fr:List Str} {fvs:List V} {sp:Sp} (lk:base.get? f=some ⟨oc,od, .func (PySem.W.fnX name qual params body scope cl dV kV doc pm an cdv ct),osl⟩) (hcd:base.CodeRec cdv qual) (S:CloScope N ps fr scope) (C:CloCells base cl scope fr fvs)
  (len:∀ vs H Q E,sp vs H Q E->vs.length=ps.length)
  (hbody:∀ (A:Around) (outer:List Env) (s:Shared) (H:Hp) (vs:List V) (Q:VK) (E:XK),Room k (A.deeper (PySem.W.envX qual scope s.heap.objs.size f cdv cl))->sp vs H Q E →
   ∃ t,PSs (cxC CX P w K mg base N qual scope f cdv cl A outer s H E) body t/\t { nx:=fun _ H'=>Q .non H',rt:=Q } (start N (vs++fvs)) H):
  FnOk P w K mg base CX (k+1) f (PySem.W.fnX name qual params body scope cl dV kV doc pm an cdv ct) ps sp:=by
 refine ⟨len,fun A outer s H args us vs Q E hr e0 hb r hsp=>?_⟩
 have hl:=len _ _ _ _ hsp
 have hkb:∀ b o,base.get? b=some o->s.heap.get? b=some o:=fun b o e=>(e0.bs b o e).1
 have lim:s.heap.NoLimit:=e0.mod.nolimit.keeps hkb
 refine codeAny_call_def (fd:=PySem.W.fnX name qual params body scope cl dV kV doc pm an cdv ct) (body:=body) (binds:=ps.zip us) hr.depth (hkb _ _ lk) rfl lim (hcd.keeps hkb) rfl hb S.nocell (fun x hx=>S.par _ (List.of_mem_zip hx).1) (fun h₁ hns hk₁=>?_) S.co S.gen S.kind
 obtain ⟨t,ht,hq⟩:=hbody A outer s H vs Q E (hr.deeper _) hsp
 have I:Inv (cxC CX P w K mg base N qual scope f cdv cl A outer s H E) [] (start N (vs++fvs)) H { s with heap:=h₁,toks:=s.toks+(ps.zip us).length }:=
  inv_startC S C hr.hd e0 hl r (Nat.lt_of_lt_of_le e0.tk (Nat.le_add_right _ _)) hns hk₁
 refine wpAny_mono (ht [] _ (start N (vs++fvs)) H _ I hq) (fun fl s' hs=>?_) fun e s' hs=>hs
 have fin:∀ {σ':St} {H':Hp} {v:V} {u:Value},Inv (cxC CX P w K mg base N qual scope f cdv cl A outer s H E) [] σ' H' s'->RelV v u->Q v H'->CE outer P w H s Q u s':=
  fun {σ' H' v u} J rv q=>⟨v,H',J.os,J.bare,J.base,J.hok,J.tk,rv,q⟩
 cases fl with
 |ret u=>
  obtain ⟨v,σ',H',J,rv,q⟩:=hs
  exact fin J rv q
 |next=>
  obtain ⟨σ',H',J,q⟩:=hs
  exact fin (v:=V.non) (u:=Value.none) J rfl q
 |brk=>
  obtain ⟨_,_,_,q⟩:=hs
  exact False.elim q
 |cont=>
  obtain ⟨_,_,_,q⟩:=hs
  exact False.elim q
end L2
set_option Elab.async false
set_option linter.all false
set_option maxRecDepth 100000
namespace L2
open PySem PySem.Spec PyProof.Rows
def closL (env:Env):List (Str×NameKind)->List (Str×Addr)->List (Str×Addr)
 | [],acc=>acc
 |(n,k)::r,acc=>if k == .free then (match env.cells.lookup n with |some c=>closL env r ((n,c)::acc) |none=>closL env r acc) else closL env r acc
theorem closureFor_of {env:Env} {sc:Scope} (h:∀ n,(n,NameKind.free)∈sc.names->∃ c,env.cells.lookup n=some c):closureFor sc env=pure (closL env sc.names []):=by
 have go:∀ (l:List (Str×NameKind)) (acc:List (Str×Addr)),(∀ n,(n,NameKind.free)∈l->∃ c,env.cells.lookup n=some c) →
   (forIn l acc fun (x:Str×NameKind) (cs:List (Str×Addr))=>(if (x.2 == .free)=true then do let __do_lift ← cellOf env x.1;pure (ForInStep.yield ((x.1,__do_lift)::cs)) else pure (ForInStep.yield cs):Sem (ForInStep (List (Str×Addr)))))=pure (closL env l acc):=by
  intro l
  induction l with
  |nil=>intro acc _;rfl
  |cons a l ih=>
   intro acc hl
   obtain ⟨n,k⟩:=a
   rw[List.forIn_cons]
   unfold closL
   by_cases hk:(k==NameKind.free)=true
   ·have hk':k=NameKind.free:=eq_of_beq hk
    subst hk'
    obtain ⟨c,hc⟩:=hl n List.mem_cons_self
    simp only[hk,if_true,cellOf,hc,pure_bind]
    exact ih _ fun m hm=>hl m (List.mem_cons_of_mem _ hm)
   ·simp only[hk,if_false,pure_bind,Bool.false_eq_true]
    exact ih _ fun m hm=>hl m (List.mem_cons_of_mem _ hm)
 unfold closureFor
 show (forIn sc.names [] _ >>= pure)=_
 rw[bind_pure]
 exact go sc.names [] h
abbrev codeExt (c:Addr) (q:Str):HO := .ext fun h=>h.CodeRec (.ref c) q
abbrev fnExt (g:Addr) (o:Obj):HO := .ext fun h=>h.get? g=some o
theorem codeExt_ok {P:Program} {w:World} {H:Hp} {h:Heap} {c:Addr} {q:Str} (x:h.CodeRec (.ref c) q):ObjOk P w H h c (codeExt c q):=by
 refine ⟨x,?_,fun h1 h2 y k=>?_⟩
 ·obtain ⟨c',o,vs,t,e,g,_⟩:=x
  cases e
  exact ⟨o,g⟩
 ·obtain ⟨c',o,vs,t,e,g,r⟩:=y
  cases e
  exact ⟨c,o,vs,t,rfl,k o g,r⟩
theorem fnExt_ok {P:Program} {w:World} {H:Hp} {h:Heap} {g:Addr} {o:Obj} (x:h.get? g=some o):ObjOk P w H h g (fnExt g o):=⟨x,⟨o,x⟩,fun h1 h2 y k=>k o y⟩
def Tab (P:Addr) (qs:List (Pos×Str)) (H:Hp):Prop:=
 ∃ ps,H P=some (.tbl ps)/\TriplesOk ps.toList/\∀ q∈qs,codeAmong q.1 ps.toList=none ∨ ∃ c,codeAmong q.1 ps.toList=some (.ref c)/\H c=some (codeExt c q.2)
theorem Tab.new {P:Addr} {qs:List (Pos×Str)} {H:Hp} (h:H P=some (.tbl #[])):Tab P qs H:=⟨#[],h,trivial,fun _ _ => .inl rfl⟩
theorem Tab.keep {P:Addr} {qs:List (Pos×Str)} {H H':Hp} (t:Tab P qs H) (k:∀ b o,H b=some o->H' b=some o):Tab P qs H':=by
 obtain ⟨ps,a,b,c⟩:=t
 refine ⟨ps,k _ _ a,b,fun q hq=>(c q hq).imp id fun ⟨d,e,f⟩=>⟨d,e,k _ _ f⟩⟩
theorem codeAmong_app {pos:Pos} {a b:Int} {c:Value} (l:List Value) (h:TriplesOk l):
  codeAmong pos (l++[rawInt a,rawInt b,c])=match codeAmong pos l with |some v=>some v |none=>if (a==pos.line&&b==pos.col)=true then some c else none:=by
 fun_induction TriplesOk l with
 |case1=>simp[codeAmong,rawInt]
 |case2 a' t b' u x rest ih=>
  simp only[List.cons_append,codeAmong]
  split
  ·rfl
  ·exact ih h
 |case3 l h1 h2=>exact h.elim
abbrev cellExt (c:Addr) (v:V):HO := .ext fun h=>∃ u,RelV v u/\h.IsCell c (some u)
structure Clo where
 g:Addr
 c:Addr
 obj:Obj
 qual:Str
 cs:List (Addr×V)
structure Made (P:Addr) (qs:List (Pos×Str)) (H H':Hp) (d:Clo):Prop where
 fn:H' d.g=some (fnExt d.g d.obj)
 cd:H' d.c=some (codeExt d.c d.qual)
 tab:Tab P qs H'
 new:H d.g=none
 ne:d.g≠d.c
 keep:∀ b o,b≠P->H b=some o->H' b=some o
 only:∀ b,H b=none->b≠d.g->b≠d.c->H' b=none
def tDef (P:Addr) (qs:List (Pos×Str)) (i:Nat) (mk:Clo->Prop):TS:=fun D σ H=>Tab P qs H/\∀ d H',Made P qs H H' d->mk d->D.nx (σ.set i (some (.ref d.g))) H'
structure DefAt (X:Cx) (c P:Addr):Prop where
 code:X.env.code = .ref c
 hd:PySem.W.CodeHd X.base c P
 bi:X.base.BuiltinsAt X.mg P
theorem BuiltinsAt.keeps' {h h':Heap} {mg:Str->Option Value} {P:Addr} (x:h.BuiltinsAt mg P) (k:∀ b o,h.get? b=some o->h'.get? b=some o):h'.BuiltinsAt mg P:=
 let ⟨bm,o,a1,a2,a3,a4,a5,r⟩:=x;⟨bm,o,a1,a2,a3,a4,k _ _ a5,r⟩
def FnMade (X:Cx) (name:Str) (params:Arguments) (body:List Stmt) (scope:Scope) (d:Clo):Prop:=
 ∃ doc ct,d.obj=PySem.W.fnMade name (qualnameIn X.env name name) params body scope (closL X.env scope.names []) doc ((X.mg "__name__").getD .none) d.c ct/\d.qual=qualnameIn X.env name name/\d.cs=[]
section
variable {X:Cx} {c P:Addr} {name:Str} {params:Arguments} {body:List Stmt} {scope:Scope} {pos:Pos} {qs:List (Pos×Str)} {i:Nat}
theorem ps_def (T:DefAt X c P) (hcl:∀ n,(n,NameKind.free)∈scope.names->∃ c,X.env.cells.lookup n=some c) (hq:(pos,qualnameIn X.env name name)∈qs) (hqs:∀ q∈qs,q.1.line=pos.line->q.1.col=pos.col->q.2=qualnameIn X.env name name)
  (hN:X.N.Nodup) (hi:X.N[i]? = some name) (hx:Loc X.env.scope name) (hf:X.fn name=true ∨ X.env.scope.names.lookup name=some .local)
  (hd0:params.defaults=[]) (hk0:params.kw_defaults=[]) (ha:annTrees params none X.env=[]):
  PS X (.FunctionDef name params body [] none [] scope none name pos) (tDef P qs i (FnMade X name params body scope)):=by
 intro pins s σ H D I hw
 obtain ⟨tab,hw⟩:=hw
 obtain ⟨ps,hP,hT,hC⟩:=id tab
 have tk0:=I.tk
 have ePs:s.heap.get? P=some (PySem.W.tabObj ps):=I.hok P _ hP
 have hgs:s.heap.Ns mainGlobals X.mg:=I.mod.glob.keeps I.bk
 have hgP:mainGlobals≠P:=by
  obtain ⟨o,es,ep,e,_⟩:=I.mod.glob
  exact fun z=>by have:=(I.bs _ _ e).2;rw[z,hP] at this;cases this
 have hhd:=T.hd.keeps I.bk
 have hbi:=BuiltinsAt.keeps' T.bi I.bk
 have big:∀ b o,H b=some o->b < s.heap.objs.size:=fun b o e=>I.hok.lt e
 refine PySem.W.nestDef_K hd0 hk0 ha ?_
 rcases hC _ hq with hnf |⟨c0,hf0,hc0⟩
 ·refine wpAny_with_toks (n:=1) tk0 ?_
  refine PySem.W.makeFunction_K (closureFor_of hcl) I.ok.glob hgs T.code hhd ePs hT hnf hgP hbi fun c' ctv doc h' tk hx' hge hlt hrec htb htk=>?_
  have hgt:s.heap.objs.size<=h'.objs.size:=Nat.le_trans hge (Nat.le_of_lt hlt)
  have cP:c'≠P:=Nat.ne_of_gt (Nat.lt_of_lt_of_le (big P _ hP) hge)
  have gP:h'.objs.size≠P:=Nat.ne_of_gt (Nat.lt_of_lt_of_le (big P _ hP) hgt)
  have gc:h'.objs.size≠c':=Nat.ne_of_gt hlt
  have old:∀ b o,H b=some o->b≠c'/\b≠h'.objs.size:=fun b o e=>⟨Nat.ne_of_lt (Nat.lt_of_lt_of_le (big b o e) hge),Nat.ne_of_lt (Nat.lt_of_lt_of_le (big b o e) hgt)⟩
  have H'g : ∀ b, (upd (upd (upd H P (.tbl (ps ++ #[rawInt pos.line,rawInt pos.col, .ref c']))) c' (codeExt c' (qualnameIn X.env name name))) h'.objs.size
   (fnExt h'.objs.size (PySem.W.fnMade name (qualnameIn X.env name name) params body scope (closL X.env scope.names []) doc ((X.mg "__name__").getD .none) c' ctv))) b=
   if b=h'.objs.size then some (fnExt h'.objs.size (PySem.W.fnMade name (qualnameIn X.env name name) params body scope (closL X.env scope.names []) doc ((X.mg "__name__").getD .none) c' ctv)) else
   if b=c' then some (codeExt c' (qualnameIn X.env name name)) else if b=P then some (.tbl (ps ++ #[rawInt pos.line,rawInt pos.col, .ref c'])) else H b:=fun b=>rfl
  generalize (upd (upd (upd H P (.tbl (ps ++ #[rawInt pos.line,rawInt pos.col, .ref c']))) c' (codeExt c' (qualnameIn X.env name name))) h'.objs.size
   (fnExt h'.objs.size (PySem.W.fnMade name (qualnameIn X.env name name) params body scope (closL X.env scope.names []) doc ((X.mg "__name__").getD .none) c' ctv)))=H' at H'g
  have kp:∀ b o,b≠P->H b=some o->H' b=some o:=fun b o nP e=>by
   rw[H'g,if_neg (old b o e).2,if_neg (old b o e).1,if_neg nP];exact e
  have none':∀ b,H b=none->b≠h'.objs.size->b≠c'->H' b=none:=fun b e n1 n2=>by
   rw[H'g,if_neg n1,if_neg n2,if_neg (fun z=>by rw[z,hP] at e;cases e)];exact e
  have kH:∀ b o,b≠P->s.heap.get? b=some o->(h'.push (PySem.W.fnMade name (qualnameIn X.env name name) params body scope (closL X.env scope.names []) doc ((X.mg "__name__").getD .none) c' ctv)).get? b=some o:=
   fun b o nP e=>Heap.get?_push_of_some _ (hx' b o nP e)
  have nP':∀ b,H b=none->b≠P:=fun b e z=>by rw[z,hP] at e;cases e
  have J:Inv X pins σ H' { s with heap:=h'.push (PySem.W.fnMade name (qualnameIn X.env name name) params body scope (closL X.env scope.names []) doc ((X.mg "__name__").getD .none) c' ctv),toks:=tk }:=by
   refine I.un ⟨fun b o e n _ _=>kH b o (nP' b n) e,fun b o e n _ _=>⟨o.slots,kH b o (nP' b n) e⟩,fun b o e n _=>?_,fun b o e _=>?_,fun b xs e=>?_,fun b o u e=>?_,fun b qs' e=>?_⟩ (fun b o e=>?_) htk
   ·have:=Heap.lt_size e
    exact none' b n (Nat.ne_of_lt (Nat.lt_of_lt_of_le this hgt)) (Nat.ne_of_lt (Nat.lt_of_lt_of_le this hge))
   ·by_cases z:b=P
    ·subst z;exact ⟨_,Heap.get?_push_of_some _ htb⟩
    ·exact ⟨o,kH b o z e⟩
   ·exact kp b _ (fun z=>by rw[z,hP] at e;cases e) e
   ·exact kp b _ (fun z=>by rw[z,hP] at e;cases e) e
   ·by_cases z:b=P
    ·subst z
     rw[hP] at e;cases e
     exact ⟨#[rawInt pos.line,rawInt pos.col, .ref c'],by rw[H'g,if_neg gP.symm,if_neg cP.symm,if_pos rfl]⟩
    ·exact ⟨#[],by rw[kp b _ z e];simp⟩
   ·rw[H'g] at e
    split at e
    ·rename_i z;cases e;subst z
     exact fnExt_ok (Heap.get?_push_size _ rfl)
    ·split at e
     ·rename_i z;cases e;subst z
      exact codeExt_ok (hrec.push _)
     ·split at e
      ·rename_i z;cases e;subst z
       exact Heap.get?_push_of_some _ htb
      ·rename_i z
       refine (I.hok b o e).stay (fun d u hd q=>kH d u ?_ q) (fun d q=>kp d _ (fun z=>by rw[z,hP] at q;cases q) q) fun d xs q=>kp d _ (fun z=>by rw[z,hP] at q;cases q) q
       rcases hd with hd |hd
       ·rw[hd];exact z
       ·exact fun z=>by rw[z,hP] at hd;cases hd
  refine store_ok J hN hi hx (v := .ref h'.objs.size) rfl (fun s2 J2=>?_) hf
  refine ⟨_,H',J2,hw ⟨h'.objs.size,c',PySem.W.fnMade name (qualnameIn X.env name name) params body scope (closL X.env scope.names []) doc ((X.mg "__name__").getD .none) c' ctv,qualnameIn X.env name name,[]⟩ H' ⟨?_,?_,⟨ps ++ #[rawInt pos.line,rawInt pos.col, .ref c'],?_,?_,fun q hq'=>?_⟩,I.hok.fresh hgt,gc,kp,none'⟩ ⟨doc,ctv,rfl,rfl,rfl⟩⟩
  ·rw[H'g,if_pos rfl]
  ·rw[H'g,if_neg gc.symm,if_pos rfl]
  ·rw[H'g,if_neg gP.symm,if_neg cP.symm,if_pos rfl]
  ·rw[Array.toList_append]
   exact TriplesOk_snoc _ _ _ _ hT
  ·rw[show (ps ++ #[rawInt pos.line,rawInt pos.col, .ref c']).toList=ps.toList++[rawInt pos.line,rawInt pos.col, .ref c'] from Array.toList_append]
   rw[codeAmong_app _ hT]
   rcases hC q hq' with z |⟨d,z,zd⟩
   ·rw[z]
    by_cases hb:((pos.line:Int)==(q.1.line:Int)&&(pos.col:Int)==(q.1.col:Int))=true
    ·refine .inr ⟨c',by simp only[hb,if_true],?_⟩
     rw[Bool.and_eq_true,beq_iff_eq,beq_iff_eq] at hb
     rw[hqs q hq' (by omega) (by omega),H'g,if_neg gc.symm,if_pos rfl]
    ·exact .inl (by simp only[hb,if_false,Bool.false_eq_true])
   ·rw[z]
    exact .inr ⟨d,rfl,kp d _ (fun y=>by rw[y,hP] at zd;cases zd) zd⟩
 ·refine wpAny_with_toks (n:=1) tk0 ?_
  refine PySem.W.makeFunction_hit (closureFor_of hcl) I.ok.glob hgs T.code hhd ePs hT hf0 hbi fun ctv doc h' tk hk hsz htk=>?_
  have J:=I.laid (a:=h'.objs.size) (o:=fnExt h'.objs.size (PySem.W.fnMade name (qualnameIn X.env name name) params body scope (closL X.env scope.names []) doc ((X.mg "__name__").getD .none) c0 ctv))
   (t':=tk) (h':=h'.push (PySem.W.fnMade name (qualnameIn X.env name name) params body scope (closL X.env scope.names []) doc ((X.mg "__name__").getD .none) c0 ctv))
   (fun b u e=>Heap.get?_push_of_some _ (hk b u e)) hsz (fnExt_ok (Heap.get?_push_size _ rfl)) htk
  have fr:H h'.objs.size=none:=I.hok.fresh hsz
  have kp:∀ b o,H b=some o->upd H h'.objs.size (fnExt h'.objs.size (PySem.W.fnMade name (qualnameIn X.env name name) params body scope (closL X.env scope.names []) doc ((X.mg "__name__").getD .none) c0 ctv)) b=some o:=fun b o e=>by
   rw[upd_ne (ne_of_none e fr)];exact e
  refine store_ok J hN hi hx (v := .ref h'.objs.size) rfl (fun s2 J2=>?_) hf
  exact ⟨_,_,J2,hw ⟨h'.objs.size,c0,PySem.W.fnMade name (qualnameIn X.env name name) params body scope (closL X.env scope.names []) doc ((X.mg "__name__").getD .none) c0 ctv,qualnameIn X.env name name,[]⟩ _ ⟨upd_same,kp _ _ hc0,tab.keep kp,fr,(ne_of_none hc0 fr).symm,fun b o _ e=>kp b o e,fun b e n1 _=>by rw[upd_ne n1];exact e⟩ ⟨doc,ctv,rfl,rfl,rfl⟩⟩
end
end L2
set_option Elab.async false
set_option linter.all false
set_option maxRecDepth 100000
namespace L2
open PySem PySem.Spec PyProof.Rows
def adrs (D:List Clo):List Addr:=D.flatMap fun d=>d.g::d.c::d.cs.map (·.1)
theorem mem_adrs {D:List Clo} {b:Addr}:b∈adrs D ↔ ∃ d∈D,b=d.g ∨ b=d.c ∨ b∈d.cs.map (·.1):=by
 unfold adrs
 rw[List.mem_flatMap]
 constructor
 ·rintro ⟨d,hd,hb⟩;exact ⟨d,hd,by simpa using hb⟩
 ·rintro ⟨d,hd,hb⟩;exact ⟨d,hd,by simpa using hb⟩
def drop (H:Hp) (D:List Clo):Hp:=fun b=>if b∈adrs D then none else H b
def back (H:Hp) (D:List Clo) (H2:Hp):Hp:=fun b=>if b∈adrs D then H b else H2 b
theorem drop_ne {H:Hp} {D:List Clo} {b:Addr} (h:b∉adrs D):drop H D b=H b:=if_neg h
theorem back_ne {H H2:Hp} {D:List Clo} {b:Addr} (h:b∉adrs D):back H D H2 b=H2 b:=if_neg h
theorem drop_in {H:Hp} {D:List Clo} {b:Addr} (h:b∈adrs D):drop H D b=none:=if_pos h
theorem back_in {H H2:Hp} {D:List Clo} {b:Addr} (h:b∈adrs D):back H D H2 b=H b:=if_pos h
def CloOk (H:Hp) (d:Clo):Prop:=H d.g=some (fnExt d.g d.obj)/\H d.c=some (codeExt d.c d.qual)/\∀ q∈d.cs,H q.1=some (cellExt q.1 q.2)
theorem clo_ext {H:Hp} {D:List Clo} (h:∀ d∈D,CloOk H d) {b:Addr} (hb:b∈adrs D):∃ φ,H b=some (.ext φ):=by
 obtain ⟨d,hd,e⟩:=mem_adrs.mp hb
 rcases e with e |e |e
 ·exact ⟨_,e▸(h d hd).1⟩
 ·exact ⟨_,e▸(h d hd).2.1⟩
 ·obtain ⟨q,hq,rfl⟩:=List.mem_map.mp e
  exact ⟨_,(h d hd).2.2 q hq⟩
theorem clo_out {H:Hp} {D:List Clo} (h:∀ d∈D,CloOk H d) {b:Addr} {o:HO} (e:H b=some o) (ho:∀ φ,o ≠ .ext φ):b∉adrs D:=fun z=>by
 obtain ⟨φ,q⟩:=clo_ext h z
 rw[e] at q;cases q;exact ho φ rfl
section
variable {X:Cx} {pins:List (Addr×Obj)} {σ:St} {H:Hp} {s:Shared} {D:List Clo}
theorem Inv.afterX {Q:VK} {u:Value} {s':Shared} (I:Inv X pins σ H s) (hD:∀ d∈D,CloOk H d) (h:CE X.stack X.prog X.w (drop H D) s (fun v H2=>(∀ b∈adrs D,H2 b=none)->Q v (back H D H2)) u s'):EP X pins σ Q u s':=by
 obtain ⟨v,H2,os,bare,un,hok,tk',r,q⟩:=h
 have dn:∀ b,H b=none->drop H D b=none:=fun b e=>by unfold drop;split;rfl;exact e
 have inD:∀ b,b∈adrs D->H2 b=none:=fun b hb=>by
  obtain ⟨φ,z⟩:=clo_ext hD hb
  obtain ⟨_,⟨o,e⟩,_⟩:=I.hok b _ z
  exact un.free b o e (drop_in hb) (by simp)
 refine I.after ⟨v,back H D H2,os,bare,⟨fun b o e n=>un.keep b o e (dn b n),fun b o e n=>un.slot b o e (dn b n),fun b o e n hx=>?_,un.there,fun b xs e=>?_,fun b o u e=>?_,fun b ps e=>?_⟩,fun b o e=>?_,tk',r,q inD⟩
 ·by_cases hb:b∈adrs D
  ·rw[back_in hb];exact n
  ·rw[back_ne hb];exact un.free b o e (dn b n) hx
 ·have hb:=clo_out hD e fun φ z=>by cases z
  rw[back_ne hb];exact un.tups b xs (by rw[drop_ne hb];exact e)
 ·have hb:=clo_out hD e fun φ z=>by cases z
  rw[back_ne hb];exact un.frzs b o u (by rw[drop_ne hb];exact e)
 ·have hb:=clo_out hD e fun φ z=>by cases z
  obtain ⟨more,z⟩:=un.tbls b ps (by rw[drop_ne hb];exact e)
  exact ⟨more,by rw[back_ne hb];exact z⟩
 ·by_cases hb:b∈adrs D
  ·rw[back_in hb] at e
   obtain ⟨φ,z⟩:=clo_ext hD hb
   rw[e] at z;cases z
   obtain ⟨p,⟨ob,eo⟩,st⟩:=I.hok b _ e
   have nf:b∉frs X.stack:=fun z=>by rw[I.stkFree b z] at e;cases e
   have k:∀ o,s.heap.get? b=some o->s'.heap.get? b=some o:=fun o e=>un.keep b o e (drop_in hb) nf (by simp)
   exact ⟨st _ _ p k,⟨ob,k ob eo⟩,st⟩
  ·rw[back_ne hb] at e
   refine (hok b o e).stay (fun _ _ _ q=>q) (fun c q=>?_) fun c xs q=>?_
   ·rw[back_ne fun z=>by rw[inD c z] at q;cases q];exact q
   ·rw[back_ne fun z=>by rw[inD c z] at q;cases q];exact q
end
section
variable {X:Cx} {k i:Nat} {x:Str} {ps:List Str} {sp:Sp} {e:Expr} {es:List Expr} {te:TE} {t:TA} {p pos:Pos}
structure FnV (P:Program) (w:World) (K:PySem.W.Frag) (mg:Str->Option Value) (base:Heap) (k:Nat) (g:Addr) (ps:List Str) (sp:Sp):Prop where
 ex:∃ fd,FnOk P w K mg base CX0 k g fd ps sp/\Binds K fd ps []/\PySem.W.FnAt g base
def tCallV (X:Cx) (k i:Nat) (t:TA):TE:=fun σ H Q=>∃ g ps sp,σ[i]? = some (some (.ref g))/\FnV X.prog X.w X.K X.mg X.base k g ps sp/\t σ H fun vs H1=>sp vs H1 Q E0
theorem FnAt.keeps' {h h':Heap} {q:Addr} (x:PySem.W.FnAt q h) (k:∀ b o,h.get? b=some o->h'.get? b=some o):PySem.W.FnAt q h':=let ⟨a,b,c,d,e⟩:=x;⟨a,b,c,d,k _ _ e⟩
theorem pe_callV (hN:X.N[i]? = some x) (hv:Vis X.env.scope x) (hr:Room k X.A) (ha:PA X (e::es) t) (hd:(x==("__debug__":Str))=false:=by decide) (hcd:(x==("__classdict__":Str))=false:=by decide)
  (he:starEach (e::es) X.env=(false,eval e X.env)::starEach es X.env:=by rfl) (hpl:(backTo pos (starEach es X.env)).any (·.1)=false:=by rfl):
  PE X (.Call (.Name x p) (e::es) [] pos) (tCallV X k i t):=by
 intro pins s σ H Q I h
 obtain ⟨g,ps,sp,hg,V,h⟩:=h
 obtain ⟨fd,F,hb,hat⟩:=V.ex
 refine wpAny_Call_Name_kw (thn (pe_var hN hv hd hcd pins s σ H (fun v H'=>v = .ref g/\H'=H) I ⟨_,hg,rfl,rfl⟩) fun u s1 ⟨v,H',I1,r,hv',hH⟩=>?_)
 subst hv';subst hH
 obtain rfl:u=Value.ref g:=r
 refine PySem.W.callWith_F (FnAt.keeps' hat I1.bk) (thn (ha pos pins s1 σ _ _ I1 h) fun us s2 ⟨vs,H2,I2,r2,q⟩=>⟨FnAt.keeps' hat I2.bk,?_⟩) he hpl
 exact run_fn (ds:=[]) (dvs:=[]) F hr hb .nil pass0 I2 r2 (by rw[List.append_nil];exact q)
end
end L2
set_option Elab.async false
set_option linter.all false
set_option maxRecDepth 100000
namespace L2
open PySem PySem.Spec PyProof.Rows
section
variable {P:Program} {w:World} {K:PySem.W.Frag} {mg:Str->Option Value} {base:Heap}
theorem Fun.okT {x qual:Str} {st:Stmt} {f c:Addr} {fd:FuncData} {N ps:List Str} {k:Nat} {sp:Sp} (F:Fun K x qual st f fd) (hc:fd.code = .ref c) (S:FnScope N ps (defScope st)) (len:∀ vs H Q E,sp vs H Q E->vs.length=ps.length)
  (hbody:∀ (A:Around) (outer:List Env) (s:Shared) (H:Hp) (vs:List V) (Q:VK) (E:XK),Room k (A.deeper (envOfC qual (defScope st) s.heap.objs.size f (.ref c)))->sp vs H Q E →
   ∃ t,PSs (cxOf CX0 P w K mg base N qual (defScope st) f (.ref c) A outer s H E).nox (defBody st) t/\t { nx:=fun _ H'=>Q .non H',rt:=Q } (start N vs) H):FnOk P w K mg base CX0 (k+1) f fd ps sp:=by
 obtain ⟨oc,od,kV,doc,pm,an,cdv,ct,osl,rfl,lk,hcd⟩:=F.ex
 obtain rfl:cdv = .ref c:=hc
 refine fn_of lk hcd S len fun A outer s H vs Q E hr hsp=>?_
 obtain ⟨t,h,q⟩:=hbody A outer s H vs Q E hr hsp
 exact ⟨t,h.nox,q⟩
theorem fn_ofC0 {k:Nat} {f:Addr} {name qual:Str} {params:Arguments} {body:List Stmt} {scope:Scope} {cl:List (Str×Addr)} {doc pm ct:Value} {c':Addr}
  {N ps fr:List Str} {fvs:List V} {sp:Sp} (lk:base.get? f=some (PySem.W.fnMade name qual params body scope cl doc pm c' ct)) (hcd:base.CodeRec (.ref c') qual) (S:CloScope N ps fr scope) (C:CloCells base cl scope fr fvs)
  (len:∀ vs H Q E,sp vs H Q E->vs.length=ps.length)
  (hb:∀ us:List Value,us.length=ps.length->bindArgs (PySem.W.fnX name qual params body scope cl .none .none doc pm none (.ref c') ct) ⟨us,[]⟩=pure (ps.zip us))
  (hbody:∀ (A:Around) (outer:List Env) (s:Shared) (H:Hp) (vs:List V) (Q:VK) (E:XK),Room k (A.deeper (PySem.W.envX qual scope s.heap.objs.size f (.ref c') cl))->sp vs H Q E →
   ∃ t,PSs (cxC CX0 P w K mg base N qual scope f (.ref c') cl A outer s H E).nox body t/\t { nx:=fun _ H'=>Q .non H',rt:=Q } (start N (vs++fvs)) H):
  FnV P w K mg base (k+1) f ps sp:=by
 refine ⟨_,fn_ofC lk hcd S C len fun A outer s H vs Q E hr hsp=>?_, .all hb,⟨_,_,_,_,lk⟩⟩
 obtain ⟨t,h,q⟩:=hbody A outer s H vs Q E hr hsp
 exact ⟨t,h.nox,q⟩
end
def dropK (K:PySem.W.Frag) (Ps:List Addr):PySem.W.Frag:=K.filter fun p => !Ps.contains p.1
theorem dropK_lookup {Ps:List Addr} {a:Addr}:∀ {K:PySem.W.Frag},(dropK K Ps).lookup a=if Ps.contains a=true then none else K.lookup a
 | []=>by
  show (none:Option Obj)=_
  split <;> rfl
 |(b,o)::K=>by
  have ih:=dropK_lookup (Ps:=Ps) (a:=a) (K:=K)
  unfold dropK at ih ⊢
  by_cases hb:Ps.contains b=true
  ·rw[List.filter_cons_of_neg (by simp only[hb];decide),ih,List.lookup_cons]
   cases hab:a==b with
   |true=>
    have:=eq_of_beq hab
    subst this
    rw[if_pos hb,if_pos hb]
   |false=>rfl
  ·rw[List.filter_cons_of_pos (by simp only[hb];decide),List.lookup_cons,List.lookup_cons]
   cases hab:a==b with
   |true=>
    have:=eq_of_beq hab
    subst this
    rw[if_neg hb]
   |false=>exact ih
theorem dropK_in {K:PySem.W.Frag} {Ps:List Addr} {h:Heap} (X:K.In h):(dropK K Ps).In h:=fun a o e=>by
 rw[dropK_lookup] at e
 split at e
 ·cases e
 ·exact X a o e
theorem dropK_not {K:PySem.W.Frag} {tabs:List (Addr×Addr)}:∀ b o,(dropK K (tabs.map (·.2))).lookup b=some o->∀ q∈tabs,q.2≠b:=fun b o e q hq z=>by
 rw[dropK_lookup,if_pos (by rw[List.contains_iff_mem,<- z];exact List.mem_map_of_mem hq)] at e
 cases e
def Tabs0 (K:PySem.W.Frag) (Ps:List Addr):Prop:=∀ a o,a∈Ps->K.lookup a=some o->o=PySem.W.tabObj #[]
theorem tabs0_of {K:PySem.W.Frag} {tabs:List (Addr×Addr)} {h:Heap} (X:K.In h) (hT:PySem.W.TabsAt tabs h):Tabs0 K (tabs.map (·.2)):=fun a o ha e=>by
 obtain ⟨q,hq,rfl⟩:=List.mem_map.mp ha
 have:=(hT q hq).2
 rw[X _ _ e] at this
 exact Option.some.inj this
theorem dropK_other {K:PySem.W.Frag} {Ps:List Addr} {a:Addr} {o:Obj} (h:Tabs0 K Ps) (e:K.lookup a=some o) (ho:o≠PySem.W.tabObj #[]):(dropK K Ps).lookup a=some o:=by
 rw[dropK_lookup,if_neg (fun z=>ho (h a o (List.contains_iff_mem.mp z) e))]
 exact e
theorem nsIn_drop {K:PySem.W.Frag} {Ps:List Addr} (h:Tabs0 K Ps) (a:Addr) (x:Str):PySem.W.nsIn (dropK K Ps) a x=PySem.W.nsIn K a x:=by
 unfold PySem.W.nsIn
 rw[dropK_lookup]
 by_cases hb:Ps.contains a=true
 ·rw[if_pos hb]
  cases e:K.lookup a with
  |none=>rfl
  |some o=>rw[h a o (List.contains_iff_mem.mp hb) e]
 ·rw[if_neg hb]
theorem codeIn_drop {K:PySem.W.Frag} {Ps:List Addr} (h:Tabs0 K Ps) (cd:Value) (q:Str):PySem.W.codeIn (dropK K Ps) cd q=PySem.W.codeIn K cd q:=by
 unfold PySem.W.codeIn
 split
 ·rename_i c
  rw[dropK_lookup]
  by_cases hb:Ps.contains c=true
  ·rw[if_pos hb]
   cases e:K.lookup c with
   |none=>rfl
   |some o=>rw[h c o (List.contains_iff_mem.mp hb) e]
  ·rw[if_neg hb]
 ·rfl
def OnlyT (tabs:List (Addr×Addr)) (H:Hp):Prop:=∀ b,H b=none ∨ (∃ o xs,H b=some (.frz o (.lst xs))) ∨ ((∃ q∈tabs,q.2=b)/\H b=some (.tbl #[]))
theorem law_callT {P:Program} {w:World} {K:PySem.W.Frag} {mg mb:Str->Option Value} {CX:CXT} {k:Nat} {fa a:Addr} {fd:FuncData} {x:Str} {sp:Sp} {s₁:Shared} {vs:List Value} {ns:List Int} {tabs:List (Addr×Addr)}
  (KX:K.In s₁.heap) (hns:s₁.heap.Ns mainGlobals mg) (hb:s₁.heap.Ns builtinsNs mb) (hbb:∀ x:Str,x≠"__name__"->mb x=bootBuiltins x) (hlim:s₁.heap.NoLimit) (hg:s₁.gens = #[]) (htk:0 < s₁.toks)
  (ha:s₁.heap.get? a=some { cls := .type "list",data := .seq vs.toArray }) (hi:IntsAre vs ns) (hl:ns.length<=sizeLine) (hr:Room k callerA)
  (hT:PySem.W.TabsAt tabs s₁.heap) (hnt:∀ b o,K.lookup b=some o->∀ q∈tabs,q.2≠b) (hbi:∃ bm o,mg "__builtins__"=some (.ref bm)/\bm≠builtinsNs/\bm≠mainGlobals/\s₁.heap.get? bm=some o/\o.cls = .type "module"/\o.dict=some builtinsNs/\o.data = .plain)
  (F:∀ base:Heap,K.In base->base.Ns mainGlobals mg->(∀ q∈tabs,PySem.W.CodeHd base q.1 q.2/\base.BuiltinsAt mg q.2)->FnOk P w K mg base CX k fa fd [x] sp) (hbind:∀ (s:Shared) (u:Value),BindsTo s fd ⟨[u],[]⟩ [(x,u)])
  (hsp:∀ H:Hp,OnlyT tabs H->SqL K H a (ns.map V.int)->(∀ q∈tabs,H q.2=some (.tbl #[]))->sp [.ref a] H (fun v _=>v = .bl true) fun _ _ _=>False)
  (hCX:∀ H e s',CX [] H s₁ (fun _ _ _=>False) e s'->False):
  codeAny (model P w) callerA (.call (.ref fa) ⟨[.ref a],[]⟩) (fun r s'=>r = .ok (.ret (.bool true))/\OldK s₁.heap s'.heap/\s'.os=s₁.os/\AllBare s'.gens) s₁:=by
 have rv:=vals_ints hi
 have lenV:=hi.length
 have tabNe:∀ q∈tabs,q.2≠a:=fun q hq z=>by
  have e:=(hT q hq).2
  rw[z,ha] at e;cases e
 have core:∀ H:Hp,OnlyT tabs H->SqL K H a (ns.map V.int)->HOk P w H s₁.heap->(∀ b,H b≠none->b=a ∨ ∃ q∈tabs,q.2=b)->(H a≠none->K.lookup a=none)->(∀ q∈tabs,H q.2=some (.tbl #[])) →
   codeAny (model P w) callerA (.call (.ref fa) ⟨[.ref a],[]⟩) (fun r s'=>r = .ok (.ret (.bool true))/\OldK s₁.heap s'.heap/\s'.os=s₁.os/\AllBare s'.gens) s₁:=by
  intro H hO hS hok hA hK hTb
  have base_of:∀ {b:Addr} {o:Obj},s₁.heap.get? b=some o->H b=none->(hidT s₁.heap H).get? b=some o:=fun e n=>hidT_get e n
  have notTab:∀ {b:Addr} {o:Obj},s₁.heap.get? b=some o->b≠a->o≠PySem.W.tabObj #[]->H b=none:=fun {b o} e n1 n2=>by
   cases q:H b with
   |none=>rfl
   |some u=>
    rcases hA b (by rw[q];simp) with z |⟨r,hr',z⟩
    ·exact absurd z n1
    ·have e2:=(hT r hr').2
     rw[z,e] at e2
     exact absurd (Option.some.inj e2) n2
  have noA:∀ {b:Addr} {o:Obj} {es:Array DictEntry} {ep:Nat},s₁.heap.get? b=some o->o.data = .dict es ep->H b=none:=fun {b o es ep} e d=>by
   refine notTab e (fun z=>?_) fun z=>?_
   ·subst z;rw[ha] at e;cases e;cases d
   ·subst z;cases d
  have nsK:∀ {b:Addr} {m:Str->Option Value},s₁.heap.Ns b m->(hidT s₁.heap H).Ns b m:=fun {b m} ⟨o,es,ep,e,d,r⟩=>⟨o,es,ep,base_of e (noA e d),d,r⟩
  have hKb : K.In (hidT s₁.heap H) := fun b o e => base_of (KX b o e) (by
   cases q:H b with
   |none=>rfl
   |some u=>
    rcases hA b (by rw[q];simp) with z |⟨r,hr',z⟩
    ·subst z
     rw[hK (by rw[q];simp)] at e;cases e
    ·exact absurd z (hnt b o e r hr'))
  have hcd:∀ q∈tabs,PySem.W.CodeHd (hidT s₁.heap H) q.1 q.2/\(hidT s₁.heap H).BuiltinsAt mg q.2:=fun q hq=>by
   refine ⟨?_,?_⟩
   ·obtain ⟨o,vs',file,tf,flags,tg,inF,text,tt,e1,r1,r2,r⟩:=(hT q hq).1
    refine ⟨o,vs',file,tf,flags,tg,inF,text,tt,base_of e1 (notTab e1 (fun z=>?_) fun z=>?_),r1,r2,r⟩
    ·rw[z,ha] at e1;cases e1;exact absurd r1 (by simp)
    ·subst z;cases r1
   ·obtain ⟨bm,o,b1,b2,b3,b4,b5,b6,b7⟩:=hbi
    refine ⟨bm,o,b1,b2,b3,fun z=>?_,base_of b4 (notTab b4 (fun z=>?_) fun z=>?_),b5,b6,b7⟩
    ·have e2:=(hT q hq).2
     rw[<- z,b4] at e2;cases e2;cases b5
    ·rw[z,ha] at b4;cases b4;exact absurd b5 (by simp)
    ·subst z;cases b5
  have hM:Mod K mg (hidT s₁.heap H):=⟨hKb,nsK hns,⟨mb,nsK hb,hbb⟩,let ⟨mc,h1,h2⟩:=hlim;⟨mc,nsK h1,h2⟩⟩
  have e0:Env0 P w K mg (hidT s₁.heap H) callerA [] s₁ H:=⟨rfl,hM,fun b o e=>of_hidT e,Nat.le_of_eq (hidT_size _ _),trivial,fun b hb=>absurd (show b∈([]:List Addr) from hb) (by simp),hok, .of_eq hg,htk⟩
  refine codeAny_mono ((F _ hKb (nsK hns) hcd).run callerA [] s₁ H ⟨[.ref a],[]⟩ [.ref a] [.ref a] _ _ hr e0 (hbind s₁ (.ref a)) (.cons rfl .nil) (hsp H hO hS hTb)) fun r s' h=>?_
  cases r with
  |error e=>exact (hCX H e s' h).elim
  |ok fl=>
   cases fl with
   |next=>exact False.elim h
   |brk=>exact False.elim h
   |cont=>exact False.elim h
   |ret u=>
    obtain ⟨v,H',os,bare,un,hok',_,r',q⟩:=h
    have q':v = .bl true:=q
    subst q'
    obtain rfl:u=Value.bool true:=r'
    have cases3:∀ b o,s₁.heap.get? b=some o->s'.heap.get? b=some o ∨ ((∃ q∈tabs,q.2=b)/\o=PySem.W.tabObj #[]/\∃ more,s'.heap.get? b=some (PySem.W.tabObj more)):=fun b o e=>by
     rcases hO b with z |⟨ob,xs,z⟩ |⟨hq,z⟩
     ·exact .inl (un.keep b o e z (by intro z;exact absurd (show b∈([]:List Addr) from z) (by simp)) (by simp))
     ·have z2:=un.frzs b ob _ z
      obtain ⟨e1,_⟩:=hok b _ z
      obtain ⟨e2,_⟩:=hok' b _ z2
      rw[e] at e1;cases e1
      exact .inl e2
     ·obtain ⟨more,z2⟩:=un.tbls b _ z
      have e1:s₁.heap.get? b=some (PySem.W.tabObj #[]):=hok b _ z
      have e2:s'.heap.get? b=some (PySem.W.tabObj (#[]++more)):=hok' b _ z2
      rw[e] at e1;cases e1
      exact .inr ⟨hq,rfl,_,e2⟩
    refine ⟨rfl,⟨fun b o e=>?_,fun b o e=>?_⟩,os,bare⟩
    ·rcases cases3 b o e with z |⟨⟨q,hq,hb'⟩,rfl,more,z⟩
     ·exact .inl z
     ·obtain ⟨o',vs',_,_,_,_,_,_,_,e1,r1,r2,r3,_⟩:=(hT q hq).1
      exact .inr (.inl ⟨⟨q.1,o',vs',e1,r1,r2,by rw[<- hb'];exact r3⟩,rfl,#[],more,rfl,by rw[Array.empty_append];exact z⟩)
    ·rcases cases3 b o e with z |⟨_,_,more,z⟩
     ·exact ⟨_,z⟩
     ·exact ⟨_,z⟩
 have tabIn:∀ q∈tabs,∀ (H:Hp),ObjOk P w H s₁.heap q.2 (.tbl #[]):=fun q hq H=>(hT q hq).2
 have dec:∀ b:Addr,(∃ q∈tabs,q.2=b) ∨ ¬ ∃ q∈tabs,q.2=b:=fun b=>Classical.em _
 cases hk:K.lookup a with
 |some o=>
  have e:=KX a o hk
  rw[ha] at e
  cases e
  have hH:∀ b,(if b∈tabs.map (·.2) then some (HO.tbl #[]) else none:Option HO)=some (.tbl #[])/\(∃ q∈tabs,q.2=b) ∨ (if b∈tabs.map (·.2) then some (HO.tbl #[]) else none:Option HO)=none:=fun b=>by
   by_cases hb':b∈tabs.map (·.2)
   ·obtain ⟨q,hq,rfl⟩:=List.mem_map.mp hb'
    exact .inl ⟨if_pos hb',q,hq,rfl⟩
   ·exact .inr (if_neg hb')
  refine core (fun b=>if b∈tabs.map (·.2) then some (HO.tbl #[]) else none) (fun b=>?_) (.inr ⟨_,vs.toArray,_,hk,rfl,rfl,rfl,by rw[List.size_toArray,lenV];exact hl,by simpa using rv⟩) (fun b u z=>?_) (fun b z=>?_) (fun z=>?_) fun q hq=>if_pos (List.mem_map_of_mem hq)
  ·rcases hH b with ⟨z,y⟩ |z
   ·exact .inr (.inr ⟨y,z⟩)
   ·exact .inl z
  ·rcases hH b with ⟨y,q,hq,rfl⟩ |y
   ·have z':=y.symm.trans z;cases z'
    exact tabIn q hq _
   ·have z':=y.symm.trans z;cases z'
  ·rcases hH b with ⟨_,y⟩ |y
   ·exact .inr y
   ·exact absurd y z
  ·rcases hH a with ⟨_,q,hq,y⟩ |y
   ·exact absurd y (tabNe q hq)
   ·exact absurd y z
 |none=>
  have hH:∀ b,(b=a/\(if b=a then some (HO.frz { cls := .type "list",data := .seq vs.toArray } (.lst (ns.map V.int))) else if b∈tabs.map (·.2) then some (HO.tbl #[]) else none:Option HO)=some (HO.frz { cls := .type "list",data := .seq vs.toArray } (.lst (ns.map V.int)))) ∨
    ((∃ q∈tabs,q.2=b)/\(if b=a then some (HO.frz { cls := .type "list",data := .seq vs.toArray } (.lst (ns.map V.int))) else if b∈tabs.map (·.2) then some (HO.tbl #[]) else none:Option HO)=some (.tbl #[])) ∨
    (if b=a then some (HO.frz { cls := .type "list",data := .seq vs.toArray } (.lst (ns.map V.int))) else if b∈tabs.map (·.2) then some (HO.tbl #[]) else none:Option HO)=none:=fun b=>by
   by_cases h1:b=a
   ·exact .inl ⟨h1,if_pos h1⟩
   ·by_cases hb':b∈tabs.map (·.2)
    ·obtain ⟨q,hq,e⟩:=List.mem_map.mp hb'
     exact .inr (.inl ⟨⟨q,hq,e⟩,by rw[if_neg h1,if_pos hb']⟩)
    ·exact .inr (.inr (by rw[if_neg h1,if_neg hb']))
  refine core (fun b=>if b=a then some (HO.frz { cls := .type "list",data := .seq vs.toArray } (.lst (ns.map V.int))) else if b∈tabs.map (·.2) then some (HO.tbl #[]) else none) (fun b=>?_) (.inl (.inr ⟨{ cls := .type "list",data := .seq vs.toArray },if_pos rfl⟩)) (fun b u z=>?_) (fun b z=>?_) (fun _=>hk)
   fun q hq=>?_
  ·rcases hH b with ⟨_,y⟩ |⟨y,z⟩ |y
   ·exact .inr (.inl ⟨_,_,y⟩)
   ·exact .inr (.inr ⟨y,z⟩)
   ·exact .inl y
  ·rcases hH b with ⟨rfl,y⟩ |⟨⟨q,hq,rfl⟩,y⟩ |y
   ·have z':=y.symm.trans z;cases z'
    exact ⟨ha,by rw[List.length_map];exact hl,vs,_,rv,ha⟩
   ·have z':=y.symm.trans z;cases z'
    exact tabIn q hq _
   ·have z':=y.symm.trans z;cases z'
  ·rcases hH b with ⟨y,_⟩ |⟨y,_⟩ |y
   ·exact .inl y
   ·exact .inr y
   ·exact absurd y z
  ·show (if q.2=a then _ else if q.2∈tabs.map (·.2) then _ else _)=_
   rw[if_neg (tabNe q hq),if_pos (List.mem_map_of_mem hq)]
end L2
namespace Lm
def splitC (c:Nat):List Nat->List (List Nat)
 | []=>[[]]
 |x::r=>if x=c then []::splitC c r else
  match splitC c r with
  |h::t=>(x::h)::t
  | []=>[[x]]
theorem splitC_ne (c:Nat):∀ l:List Nat,splitC c l≠[]
 | []=>by simp[splitC]
 |x::r=>by
  unfold splitC
  split
  ·simp
  ·split <;> simp
theorem splitC_cons (c x:Nat) (r:List Nat) (h:x≠c):∃ p t,splitC c r=p::t/\splitC c (x::r)=(x::p)::t:=by
 have e:splitC c (x::r)=match splitC c r with
   |h::t=>(x::h)::t
   | []=>[[x]]:=by
  rw[splitC,if_neg h]
 cases q:splitC c r with
 |nil=>exact absurd q (splitC_ne c r)
 |cons p t=>exact ⟨p,t,rfl,by rw[e,q]⟩
theorem splitC_sep (c:Nat) (r:List Nat):splitC c (c::r)=[]::splitC c r:=by rw[splitC,if_pos rfl]
theorem splitC_free (c:Nat):∀ l:List Nat,c∉l->splitC c l=[l]
 | [],_=>rfl
 |x::r,h=>by
  have hx:x≠c:=fun e=>h (by simp[e])
  have ih:=splitC_free c r fun z=>h (List.mem_cons_of_mem _ z)
  obtain ⟨p,t,e1,e2⟩:=splitC_cons c x r hx
  rw[ih] at e1
  cases e1
  exact e2
theorem splitC_app (c:Nat):∀ (a r:List Nat),c∉a->splitC c (a++c::r)=a::splitC c r
 | [],r,_=>by rw[List.nil_append,splitC_sep]
 |x::a,r,h=>by
  have hx:x≠c:=fun e=>h (by simp[e])
  have ih:=splitC_app c a r fun z=>h (List.mem_cons_of_mem _ z)
  obtain ⟨p,t,e1,e2⟩:=splitC_cons c x (a++c::r) hx
  rw[ih] at e1
  cases e1
  exact e2
def glueC (g:List Nat):List (List Nat)->List Nat
 | []=>[]
 | [p]=>p
 |p::q::r=>p++g++glueC g (q::r)
theorem glueC_cons (g p:List Nat) (r:List (List Nat)) (h:r≠[]):glueC g (p::r)=p++g++glueC g r:=by
 cases r with
 |nil=>exact absurd rfl h
 |cons q r=>rfl
theorem split_glue (c:Nat):∀ ps:List (List Nat),ps≠[]->(∀ p∈ps,c∉p)->splitC c (glueC [c] ps)=ps
 | [],h,_=>absurd rfl h
 | [p],_,hp=>splitC_free c p (hp p (by simp))
 |p::q::r,_,hp=>by
  show splitC c (p++[c]++glueC [c] (q::r))=_
  rw[List.append_assoc,List.singleton_append,splitC_app c p _ (hp p (by simp)),split_glue c (q::r) (by simp) fun z hz=>hp z (List.mem_cons_of_mem _ hz)]
end Lm
set_option linter.all false
namespace Lm
open PySem PySem.Builtin PySem.Builtin.Str PySem.StrLaws
abbrev S (l:List Nat):Str:=⟨l.toArray⟩
theorem S_len (l:List Nat):(S l).length=l.length:=by simp[Str.length]
theorem S_list (l:List Nat):(S l).cps.toList=l:=by simp
theorem S_of (x:Str):S x.cps.toList=x:=by cases x;simp
theorem S_inj {a b:List Nat} (h:S a=S b):a=b:=by
 have:=congrArg (fun x:Str=>x.cps.toList) h
 simpa using this
theorem S_app (a b:List Nat):S a++S b=S (a++b):=by
 show Str.append (S a) (S b)=_
 simp[Str.append]
theorem join_S (g:List Nat):∀ ps:List Str,(Str.join (S g) ps).cps.toList=glueC g (ps.map fun p=>p.cps.toList)
 | []=>rfl
 | [p]=>rfl
 |p::q::r=>by
  show ((p++S g++Str.join (S g) (q::r)):Str).cps.toList=_
  rw[Str.cps_append,Str.cps_append,Array.toList_append,Array.toList_append,join_S g (q::r)]
  rfl
theorem split_S (c:Nat) (l:List Nat):Txt.split (S l) (S [c])=(splitC c l).map S:=by
 have h1:=join_split (S l) (S [c])
 have h2:=split_free (S l) c
 have h3:∀ ps:List Str,ps=(ps.map fun p=>p.cps.toList).map S:=fun ps=>by
  rw[List.map_map]
  conv=>lhs;rw[<- List.map_id ps]
  refine List.map_congr_left fun p _=>?_
  exact (S_of p).symm
 have h4:glueC [c] ((Txt.split (S l) (S [c])).map fun p=>p.cps.toList)=l:=by
  have:=congrArg (fun x:Str=>x.cps.toList) h1
  simp only[S_list] at this
  rw[<- join_S]
  exact this
 have ne:(Txt.split (S l) (S [c])).map (fun p=>p.cps.toList)≠[]:=by
  unfold Txt.split
  split
  ·simp
  ·split
   ·simp
   ·rw[partsBetween_eq]
    obtain ⟨p,r,e⟩:=partsFrom_ne (S l) (S [c]).length 0 (occurrences (S l) (S [c]) 0 (S l).length ((S l).length+1))
    rw[e];simp
 have h5 := split_glue c _ ne (fun p hp=>by
  obtain ⟨q,hq,rfl⟩:=List.mem_map.mp hp
  exact h2 q hq)
 rw[h4] at h5
 rw[h5]
 exact h3 _
theorem glued_S (g:List Nat) (ps:List (List Nat)):glued (S g) (ps.map S)=S (glueC g ps):=by
 have key:∀ (ps:List (List Nat)) (acc:List Nat),(ps.map S).foldl (fun acc p=>acc++(S g).cps++p.cps) acc.toArray=(acc++(ps.map fun p=>g++p).flatten).toArray:=by
  intro ps
  induction ps with
  |nil=>intro acc;simp
  |cons p r ih=>
   intro acc
   rw[List.map_cons,List.foldl_cons]
   have e:acc.toArray++(S g).cps++(S p).cps=(acc++g++p).toArray:=by simp
   rw[e,ih]
   simp
 have gl:∀ (p:List Nat) (r:List (List Nat)),glueC g (p::r)=p++(r.map fun p=>g++p).flatten:=by
  intro p r
  induction r generalizing p with
  |nil=>simp[glueC]
  |cons q r ih=>rw[glueC_cons g p (q::r) (by simp),ih q];simp
 unfold glued
 cases ps with
 |nil=>rfl
 |cons p r=>
  rw[gl]
  show (⟨(List.drop 1 (S p::r.map S)).foldl _ (S p).cps⟩:Str)=_
  rw[List.drop_one,List.tail_cons,key]
theorem joinT_S (g:List Nat) (ps:List (List Nat)):Txt.join (S g) (ps.map S)=S (glueC g ps):=glued_S g ps
def rstripL (p:Nat->Bool) (l:List Nat):List Nat:=(l.reverse.dropWhile p).reverse
theorem take_len_sub (l:List Nat) (p:Nat->Bool):l.take (l.length - (l.reverse.takeWhile p).length)=rstripL p l:=by
 unfold rstripL
 have h:l.reverse=l.reverse.takeWhile p++l.reverse.dropWhile p:=(List.takeWhile_append_dropWhile).symm
 have h2:l=(l.reverse.dropWhile p).reverse++(l.reverse.takeWhile p).reverse:=by
  have:=congrArg List.reverse h
  rw[List.reverse_reverse,List.reverse_append] at this
  exact this
 conv=>lhs;arg 2;rw[h2]
 have e:l.length - (l.reverse.takeWhile p).length=(l.reverse.dropWhile p).reverse.length:=by
  have:=congrArg List.length h
  rw[List.length_append,List.length_reverse] at this
  rw[List.length_reverse]
  omega
 rw[e,List.take_left]
theorem rstrip_S (l y:List Nat):Txt.rstripChars (S l) (S y)=S (rstripL y.contains l):=by
 have e:(S y).cps.contains=y.contains:=by funext c;simp
 unfold Txt.rstripChars Txt.stripBy
 rw[e]
 have h0:stripLo y.contains false (S l)=0:=rfl
 have h1:stripHi y.contains true (S l) 0=l.length - (l.reverse.takeWhile y.contains).length:=by
  simp[stripHi,Str.length]
 split
 ·rename_i h
  rw[stripSame,h0,h1] at h
  simp only[beq_self_eq_true,Bool.true_and,beq_iff_eq,S_len] at h
  rw[<- take_len_sub,h,List.take_length]
 ·rw[stripped,h0,h1]
  unfold strSub
  rw[<- take_len_sub]
  simp
theorem lstrip_S (l y:List Nat):Txt.lstripChars (S l) (S y)=S (l.dropWhile y.contains):=by
 have e:(S y).cps.contains=y.contains:=by funext c;simp
 have hd:l.drop (l.takeWhile y.contains).length=l.dropWhile y.contains:=by
  conv=>lhs;arg 2;rw[<- List.takeWhile_append_dropWhile (p:=y.contains) (l:=l)]
  rw[List.drop_left]
 unfold Txt.lstripChars Txt.stripBy
 rw[e]
 have h0:stripLo y.contains true (S l)=(l.takeWhile y.contains).length:=by simp[stripLo]
 have h1:∀ k,stripHi y.contains false (S l) k=l.length:=fun k=>by simp[stripHi,Str.length]
 split
 ·rename_i h
  rw[stripSame,h0,h1] at h
  simp only[Bool.and_eq_true,beq_iff_eq] at h
  rw[<- hd,h.1,List.drop_zero]
 ·rw[stripped,h0,h1]
  unfold strSub
  rw[<- hd]
  simp only[List.extract_toArray,List.extract_eq_take_drop]
  rw[List.take_of_length_le (by rw[List.length_drop];exact Nat.le_refl _)]
theorem subAt_S (l y:List Nat) (i:Nat):subAt (S l) (S y) i=decide ((l.drop i).take y.length=y):=by
 unfold subAt
 rw[Bool.eq_iff_iff]
 simp only[beq_iff_eq,decide_eq_true_eq]
 rw[<- Array.toList_inj]
 simp[S_len]
theorem At_S (l y:List Nat) (i:Nat):At (S l) (S y) (S l).length i ↔ i+y.length<=l.length/\(l.drop i).take y.length=y:=by
 unfold At
 rw[subAt_S,S_len,S_len]
 simp
theorem starts_S (l y:List Nat):Txt.startswith (S l) (S y)=y.isPrefixOf l:=by
 unfold Txt.startswith
 rw[subAt_S,S_len,S_len,Bool.eq_iff_iff]
 simp only[Nat.zero_add,List.drop_zero,Bool.and_eq_true,decide_eq_true_eq,List.isPrefixOf_iff_prefix]
 constructor
 ·rintro ⟨_,h⟩
  exact ⟨l.drop y.length,by (conv=>lhs;arg 1;rw[<- h]);exact List.take_append_drop _ _⟩
 ·rintro ⟨t,rfl⟩
  simp
theorem lower_S (l:List Nat) (h:∀ c∈l,c < 128):Txt.lower (S l)=S (l.map PyProof.Rows.lo1):=by
 rw[PyProof.Rows.lower_ascii (by simpa using h)]
 simp
theorem contains_S (l:List Nat) (c:Nat):(!(occurrences (S l) (S [c]) 0 (S l).length 1).isEmpty)=l.contains c:=by
 rw[found_one,Bool.eq_iff_iff]
 simp
theorem replace_eq (x y z:Str):Txt.replace x y z=glued z (partsBetween x (occurrences x y 0 x.length (x.length+1)) y.length):=by
 unfold Txt.replace
 split
 ·rename_i h
  rcases Bool.or_eq_true_iff.mp h with h |h
  ·rw[List.isEmpty_iff.mp h]
   have e:partsBetween x [] y.length=[x]:=by
    rw[partsBetween_eq];show [strSub x 0 x.length]=[x];rw[sub_whole]
   rw[e];rfl
  ·simp only[Bool.and_eq_true,beq_iff_eq] at h
   have e:z=y:=by
    obtain ⟨a⟩:=y;obtain ⟨b⟩:=z
    simp only[Str.length,Array.size_eq_zero_iff] at h;rw[h.1,h.2]
   rw[e,glued_between_self]
 ·rfl
theorem cuts_one (c:Nat) (l:List Nat):partsBetween (S l) (occurrences (S l) (S [c]) 0 (S l).length ((S l).length+1)) (S [c]).length=(splitC c l).map S:=by
 have h:=split_S c l
 unfold Txt.split at h
 split at h
 ·rename_i hk
  have no:occurrences (S l) (S [c]) 0 (S l).length ((S l).length+1)=[]:=by
   have hc:c∉l:=by
    rw[Bool.or_eq_true,decide_eq_true_eq,decide_eq_true_eq] at hk
    rcases hk with hk |hk
    ·rw[S_len,S_len] at hk
     have:l=[]:=by cases l;rfl;simp at hk
     subst this;simp
    ·have:=kind_free (S l) c hk
     simpa using this
   cases q:occurrences (S l) (S [c]) 0 (S l).length ((S l).length+1) with
   |nil=>rfl
   |cons i r=>
    obtain ⟨f,hG,_⟩:=occ_tight (S l) (S [c]) (Nat.le_refl 1)
    rw[q] at hG
    have:=(subAt_one (S l) c i).mp hG.2.1
    rw[S_list] at this
    exact absurd (List.mem_of_getElem? this) hc
  rw[no,partsBetween_eq]
  show [strSub (S l) 0 (S l).length]=_
  rw[sub_whole]
  exact h
 ·split at h
  ·rename_i he
   rw[List.isEmpty_iff.mp he,partsBetween_eq]
   show [strSub (S l) 0 (S l).length]=_
   rw[sub_whole]
   exact h
  ·exact h
theorem replace_one (c:Nat) (z l:List Nat):Txt.replace (S l) (S [c]) (S z)=S (glueC z (splitC c l)):=by
 rw[replace_eq,cuts_one,glued_S]
def clipL (n:Nat) (d:Nat):Option Int->Nat
 |none=>d
 |some i=>(max 0 (min (if i < 0 then i+n else i) n)).toNat
def cutL (l:List Nat) (lo hi:Option Int):List Nat:=(l.drop (clipL l.length 0 lo)).take (clipL l.length l.length hi - clipL l.length 0 lo)
theorem filterMap_range (l:List Nat):∀ (n a:Nat),a+n<=l.length->((List.range n).map fun (k:Nat)=>a+k).filterMap (l[·]?)=(l.drop a).take n:=by
 intro n
 induction n with
 |zero=>intro a _;simp
 |succ n ih=>
  intro a h
  rw[List.range_succ,List.map_append,List.filterMap_append,ih a (by omega),List.take_add_one]
  have:a+n < l.length:=by omega
  simp[List.getElem?_drop,this]
theorem clip_nn (n:Nat) (d:Nat) (o:Option Int):(match o with |none=>(d:Int) |some i=>max 0 (min (if i < 0 then i+n else i) n))=(clipL n d o:Int):=by
 cases o with
 |none=>rfl
 |some i=>exact (Int.toNat_of_nonneg (Int.le_max_left _ _)).symm
theorem clip_le (n:Nat) (d:Nat) (o:Option Int) (h:d<=n):clipL n d o<=n:=by
 cases o with
 |none=>exact h
 |some i=>exact Int.toNat_le.mpr (Int.max_le.mpr ⟨Int.natCast_nonneg n,Int.min_le_right _ _⟩)
theorem range_one (a b:Nat):sliceRange a b 1=(List.range (b - a)).map fun (k:Nat)=>a+k:=by
 unfold sliceRange
 rw[if_pos (by decide:(1:Int) > 0),Int.add_sub_cancel,Int.ediv_one]
 have e:(if (a:Int) < b then (b:Int) - a else 0).toNat=b - a:=by
  split
  ·exact Int.toNat_sub b a
  ·rename_i h
   rw[Nat.sub_eq_zero_of_le (Int.ofNat_le.mp (Int.not_lt.mp h))]
   rfl
 dsimp only
 rw[e]
 refine congrArg (fun f=>List.map f _) (funext fun k=>?_)
 rw[Int.one_mul,<- Int.natCast_add]
 exact Int.toNat_natCast _
theorem slice_ix (n:Nat) (lo hi:Option Int):strSliceIndices lo hi 1 n=(List.range (clipL n n hi - clipL n 0 lo)).map fun (k:Nat)=>clipL n 0 lo+k:=by
 have e1:(1:Int) > 0:=by decide
 rw[<- range_one,<- clip_nn,<- clip_nn]
 unfold strSliceIndices
 simp only[e1,if_true]
 rfl
theorem slice_S (l:List Nat) (lo hi:Option Int):Txt.slice (S l) lo hi=S (cutL l lo hi):=by
 obtain ⟨a,b,ea,eb,ha,hb,e⟩:∃ (a b:Nat),a=clipL l.length 0 lo/\b=clipL l.length l.length hi/\a<=l.length/\b<=l.length/\strSliceIndices lo hi 1 l.length=(List.range (b - a)).map fun (k:Nat)=>a+k:=
  ⟨_,_,rfl,rfl,clip_le _ _ _ (Nat.zero_le _),clip_le _ _ _ (Nat.le_refl _),slice_ix _ _ _⟩
 unfold Txt.slice cutL
 rw[S_len,e,<- ea,<- eb]
 simp only[List.length_map,List.length_range]
 split
 ·rename_i h
  simp only[beq_self_eq_true,Bool.true_and,beq_iff_eq] at h
  have h1:a=0:=by omega
  have h2:b=l.length:=by omega
  rw[h1,h2]
  simp
 ·rename_i h
  congr 1
  have q:=filterMap_range l (b - a) a (by omega)
  rw[<- q]
  congr 2
  funext i
  simp
end Lm
set_option linter.all false
namespace Lm
end Lm
set_option linter.all false
namespace Lm
def nameSigns:List Nat:=[97,98,99,100,101,102,103,104,105,106,107,108,109,110,111,112,113,114,115,116,117,118,119,120,121,122,65,66,67,68,69,70,71,72,73,74,75,76,77,78,79,80,81,82,83,84,85,86,87,88,89,90,48,49,50,51,52,53,54,55,56,57]
def isNameC (l:List Nat):Bool:=decide (1<=l.length)&&decide (l.length<=12)&&l.all nameSigns.contains
def smallC (l:List Nat):List Nat:=l.map PyProof.Rows.lo1
end Lm
set_option linter.all false
namespace Lm
def Asc (l:List Nat):Prop:=∀ c∈l,c < 128
theorem Asc.sub {a b:List Nat} (h:Asc b) (s:∀ c∈a,c∈b):Asc a:=fun c hc=>h c (s c hc)
theorem Asc.drop {l:List Nat} (h:Asc l) (n:Nat):Asc (l.drop n):=h.sub fun c hc=>List.mem_of_mem_drop hc
theorem Asc.take {l:List Nat} (h:Asc l) (n:Nat):Asc (l.take n):=h.sub fun c hc=>List.mem_of_mem_take hc
theorem lo1_lt (c:Nat) (h:c < 128):PyProof.Rows.lo1 c < 128:=by unfold PyProof.Rows.lo1;split <;> omega
theorem Asc.small {l:List Nat} (h:Asc l):Asc (smallC l):=fun c hc=>by
 obtain ⟨d,hd,rfl⟩:=List.mem_map.mp hc
 exact lo1_lt d (h d hd)
theorem strOk_S {l:List Nat} (h:Asc l):PySem.PyData.strOk (S l)=true:=by
 unfold PySem.PyData.strOk
 rw[Array.all_eq_true_iff_forall_mem]
 intro c hc
 have:c∈l:=by simpa using hc
 have:=h c this
 exact decide_eq_true (by omega)
end Lm
set_option Elab.async false
set_option linter.all false
set_option maxRecDepth 100000
set_option maxHeartbeats 4000000
namespace Lw
open PySem L2 Lm
theorem big {n:Nat} (h:n<=1000000):n<=sizeLine:=by rw[sizeLine_eq];omega
theorem bigS {l:List Nat} (h:l.length<=1000000):(S l).length<=sizeLine:=by rw[S_len];exact big h
theorem at_S {l:List Nat} {i:Nat} (h:i < l.length):atI (S l).cps.toList (i:Int)=some (l.getD i 0):=by
 rw[S_list]
 refine atI_nat ?_
 rw[List.getD_eq_getElem?_getD,List.getElem?_eq_getElem h]
 simp
section
variable {a b:List Nat} {x y:V}
end
section
variable {P:Program} {w:World} {K:PySem.W.Frag} {mg:Str->Option Value} {base:Heap}
theorem map_S_V (ws:List (List Nat)):(ws.map fun w=>V.str (S w))=(ws.map S).map V.str:=by rw[List.map_map];rfl
end
abbrev vS (l:List Nat):V := .str (S l)
section
variable {P:Program} {w:World} {K:PySem.W.Frag} {mg:Str->Option Value} {base:Heap}
end
theorem cut_any (l:List Nat) (b p:Nat):cutL l (some (b:Int)) (some (p:Int))=(l.drop b).take (p - b):=by
 unfold cutL
 have e:clipL l.length 0 (some (b:Int))=min b l.length:=by unfold clipL;simp only[];omega
 have e2:clipL l.length l.length (some (p:Int))=min p l.length:=by unfold clipL;simp only[];omega
 rw[e,e2]
 rcases Nat.le_total b l.length with h |h
 ·rw[Nat.min_eq_left h]
  rcases Nat.le_total p l.length with h2 |h2
  ·rw[Nat.min_eq_left h2]
  ·rw[Nat.min_eq_right h2,List.take_of_length_le (by rw[List.length_drop];exact Nat.le_refl _),List.take_of_length_le (by rw[List.length_drop];omega)]
 ·rw[Nat.min_eq_right h,List.drop_eq_nil_of_le h,List.drop_eq_nil_of_le (Nat.le_refl _)];simp
section
variable {P:Program} {w:World} {K:PySem.W.Frag} {mg:Str->Option Value} {base:Heap}
def inNames:V->V
 | .str x => .bl (x.cps.toList.all nameSigns.contains)
 |_ => .bl false
def spNameOf:Sp:=fun vs H Q _=>∃ l:List Nat,vs=[vS l]/\l.length<=1000000/\isNameC l=true/\∀ H',Same H H'->Q (vS (smallC l)) H'
theorem name_asc {l:List Nat} (h:isNameC l=true):Asc l:=by
 intro c hc
 unfold isNameC at h
 rw[Bool.and_eq_true] at h
 have:=List.all_eq_true.mp h.2 c hc
 have key:∀ x∈nameSigns,x < 128:=by decide
 exact key c (by simpa using this)
end
def Tells (t:TT) (σ:St) (H:Hp) (a:Bool):Prop:=∀ R:Bool->Hp->Prop,(∀ H',Same H H'->R a H')->t σ H R
theorem t_and {t u:TT} {σ:St} {H:Hp} (a b:Bool) (ht:Tells t σ H a) (hu:a=true->∀ H1,Same H H1->Tells u σ H1 b):Tells (tAnd t u) σ H (a&&b):=by
 intro R k
 refine ht _ fun H1 s1=>?_
 cases a with
 |true=>exact hu rfl H1 s1 R fun H' s'=>k H' (s1.trans s')
 |false=>exact k H1 s1
theorem t_or {t u:TT} {σ:St} {H:Hp} (a b:Bool) (ht:Tells t σ H a) (hu:a=false->∀ H1,Same H H1->Tells u σ H1 b):Tells (tOr t u) σ H (a||b):=by
 intro R k
 refine ht _ fun H1 s1=>?_
 cases a with
 |false=>exact hu rfl H1 s1 R fun H' s'=>k H' (s1.trans s')
 |true=>exact k H1 s1
theorem t_not {t:TT} {σ:St} {H:Hp} (a:Bool) (ht:Tells t σ H a):Tells (tNot t) σ H (!a):=fun R k=>ht _ fun H1 s1=>k H1 s1
theorem s_if {t:TT} {f g:TS} {D:Ends} {σ:St} {H:Hp} (a:Bool) (ht:Tells t σ H a) (k1:∀ H',Same H H'->a=true->f D σ H') (k2:∀ H',Same H H'->a=false->g D σ H'):tIfS t f g D σ H:=
 ht _ fun H' s'=>ite2 (k1 H' s') fun c=>k2 H' s' (Bool.eq_false_iff.mpr c)
theorem t_starts {K:PySem.W.Frag} {te:TE} {σ:St} {H:Hp} {y:Str} (l z:List Nat) (hl:l.length<=1000000) (ey:y=S z) (he:∀ R':VK,R' (vS l) H->te σ H R'):
  Tells (tB (tBM K "str" (rS2 fun z y => .bl (Txt.startswith z y)) te (tCons (tC (.str y)) tNil))) σ H (z.isPrefixOf l):=by
 intro R k
 refine he _ ⟨rfl,_,_,rfl,rfl,bigS hl,_,rfl,?_⟩
 rw[ey,starts_S]
 exact k H (Same.refl H)
section
variable {P:Program} {w:World} {K:PySem.W.Frag} {mg:Str->Option Value} {base:Heap}
end
section
variable {P:Program} {w:World} {K:PySem.W.Frag} {mg:Str->Option Value} {base:Heap}
theorem t_eq {te:TE} {σ:St} {H:Hp} {y:Str} (a b:List Nat) (ey:y=S b) (he:∀ R':VK,R' (vS a) H->te σ H R'):Tells (tTest (tOp rEq te (tC (.str y)))) σ H (decide (a=b)):=by
 intro R k
 refine he _ ⟨rfl,_,rfl,?_⟩
 have:decide (vS a=V.str y)=decide (a=b):=by
  rw[ey]
  exact decide_eq_decide.mpr ⟨fun h=>S_inj (V.str.inj h),fun h=>by rw[h]⟩
 rw[this]
 exact k H (Same.refl H)
end
theorem for_str {z:Str} {g:TG} {tb:TS} {D:Ends} {σ:St} {H:Hp} (Pv:Nat->St->Hp->Prop) (h0:Pv 0 σ H)
  (hs:∀ i c σ H,z.cps.toList[i]? = some c->Pv i σ H->g (.str ⟨#[c]⟩) σ H fun σ2 H2=>tb { D with nx:=Pv (i+1),ct:=Pv (i+1),bk:=D.nx } σ2 H2) (hd:∀ σ H,Pv z.length σ H->D.nx σ H):
  ∃ W:Nat->Nat->St->Hp->Prop,(∃ m,W 0 m σ H)/\∀ i m σ H,W i m σ H →
   ((Its z).stop i H/\D.nx σ H) ∨ ((Its z).go i H/\∃ N:St->Hp->Prop,(∀ σ' H',N σ' H'->∃ m',m' < m/\W (i+1) m' σ' H')/\∀ x H',(Its z).yld i H x H'->g x σ H' fun σ2 H2=>tb { D with nx:=N,ct:=N,bk:=D.nx } σ2 H2):=by
 refine ⟨fun i m σ H=>m=z.length - i/\i<=z.length/\Pv i σ H,⟨z.length,by simp,Nat.zero_le _,h0⟩,?_⟩
 rintro i m σ H ⟨rfl,hi,p⟩
 by_cases hlt:i < z.length
 ·refine .inr ⟨hlt,Pv (i+1),fun σ' H' q=>⟨z.length - (i+1),by omega,rfl,hlt,q⟩,?_⟩
  rintro x H' ⟨rfl,c,hc,rfl⟩
  exact hs i c σ H' (by simpa using hc) p
 ·have e:i=z.length:=by omega
  subst e
  exact .inl ⟨Nat.le_refl _,hd σ H p⟩
section
variable {P:Program} {w:World} {K:PySem.W.Frag} {mg:Str->Option Value} {base:Heap}
end
theorem asc_app {a b:List Nat} (h:Asc a) (k:Asc b):Asc (a++b):=fun c hc=>by
 rcases List.mem_append.mp hc with hc |hc
 ·exact h c hc
 ·exact k c hc
theorem w_ixs {H:Hp} {l:List Nat} {i:Int} {Q:VK} (hl:l.length<=1000000) (h0:0<=i) (h1:i < (l.length:Nat)) (k:Q (vS [l.getD i.toNat 0]) H):rIxS (vS l) (.int i) H Q:=by
 have e:=at_S (l:=l) (i:=i.toNat) (by omega)
 rw[show ((i.toNat:Nat):Int)=i by omega] at e
 exact ⟨_,i,_,rfl,rfl,bigS hl,e,k⟩
section
variable {P:Program} {w:World} {K:PySem.W.Frag} {mg:Str->Option Value} {base:Heap}
end
theorem t_ne {te:TE} {σ:St} {H:Hp} {y:Str} (a b:List Nat) (ey:y=S b) (he:∀ R':VK,R' (vS a) H->te σ H R'):Tells (tTest (tOp rNe te (tC (.str y)))) σ H (decide (a≠b)):=by
 intro R k
 refine he _ ⟨rfl,_,rfl,?_⟩
 have:(!decide (vS a=V.str y))=decide (a≠b):=by
  rw[ey,<- decide_not]
  exact decide_eq_decide.mpr ⟨fun h e=>h (by rw[e]),fun h e=>h (S_inj (V.str.inj e))⟩
 rw[this]
 exact k H (Same.refl H)
def Ev (te:TE) (σ:St) (H:Hp) (v:V):Prop:=∀ R:VK,R v H->te σ H R
def EvO (t:TO) (σ:St) (H:Hp) (o:Option Int):Prop:=∀ R:Option Int->Hp->Prop,R o H->t σ H R
section
variable {σ:St} {H:Hp} {ta tb:TE} {i j:Int} {a b l:List Nat} {v:V}
theorem ev_v {k:Nat} (h:σ[k]? = some (some v)):Ev (tVar k) σ H v:=fun R r=>⟨v,h,r⟩
theorem ev_c:Ev (tC v) σ H v:=fun R r=>r
theorem ev_lit {y:Str} (e:y=S b):Ev (tC (.str y)) σ H (vS b):=fun R r=>by rw[e];exact r
theorem ev_op {g:Int->Int->V} (h1:Ev ta σ H (.int i)) (h2:Ev tb σ H (.int j)) (e:g i j=v):Ev (tOp (rI0 g) ta tb) σ H v:=fun R r=>h1 _ (h2 _ ⟨i,j,rfl,rfl,by rw[e];exact r⟩)
theorem ev_un {g:Int->V} (h1:Ev ta σ H (.int i)) (e:g i=v):Ev (tUn (rU g) ta) σ H v:=fun R r=>h1 _ ⟨i,rfl,by rw[e];exact r⟩
theorem ev_ix (hl:l.length<=1000000) (h1:Ev ta σ H (vS l)) (h2:Ev tb σ H (.int i)) (h0:0<=i) (hi:i < (l.length:Nat)):Ev (tOp rIxS ta tb) σ H (vS [l.getD i.toNat 0]):=fun R r=>h1 _ (h2 _ (w_ixs hl h0 hi r))
theorem evo_s (h:Ev ta σ H (.int i)):EvO (tPart ta) σ H (some i):=fun R r=>h _ ⟨i,rfl,r⟩
theorem ev_sl {tl th:TO} {lo hi:Option Int} (hl:l.length<=1000000) (h1:Ev ta σ H (vS l)) (h2:EvO tl σ H lo) (h3:EvO th σ H hi) (e:cutL l lo hi=a):Ev (tSl rSlS ta tl th) σ H (vS a):=fun R r=>
 h1 _ (h2 _ (h3 _ ⟨_,rfl,bigS hl,by rw[slice_S,e];exact r⟩))
theorem ev_cat (h1:Ev ta σ H (vS a)) (h2:Ev tb σ H (vS b)) (hz:a.length+b.length<=1000000):Ev (tOp (fun x y H Q=>∃ i j,x = .str i/\y = .str j/\i.length+j.length<=sizeLine/\Q (.str (i++j)) H) ta tb) σ H (vS (a++b)):=fun R r=>
 h1 _ (h2 _ ⟨_,_,rfl,rfl,by rw[S_len,S_len];exact big hz,by rw[S_app];exact r⟩)
theorem t_eqi (h1 : Ev ta σ H (.int i)) (h2 : Ev tb σ H (.int j)) : Tells (tTest (tOp rEq ta tb)) σ H (decide (i = j)) := fun R k => h1 _ (h2 _ ⟨rfl,_,rfl,by
 rw[show decide (V.int i=V.int j)=decide (i=j) from decide_eq_decide.mpr ⟨fun h=>V.int.inj h,fun h=>by rw[h]⟩]
 exact k H (Same.refl H)⟩)
theorem t_cmp {g:Int->Int->V} {c:Bool} (h1:Ev ta σ H (.int i)) (h2:Ev tb σ H (.int j)) (e:g i j = .bl c):Tells (tTest (tOp (rI0 g) ta tb)) σ H c:=fun R k=>h1 _ (h2 _ ⟨i,j,rfl,rfl,_,e,k H (Same.refl H)⟩)
end
theorem while_t {c:TT} {tb:TS} {D:Ends} {σ:St} {H:Hp} (Pv:Nat->St->Hp->Prop) (m0:Nat) (h0:Pv m0 σ H)
  (hs:∀ m σ H,Pv m σ H->∃ a,Tells c σ H a/\(a=true->∀ H',Same H H'->tb { D with nx:=fun σ' H'=>∃ m',m' < m/\Pv m' σ' H',ct:=fun σ' H'=>∃ m',m' < m/\Pv m' σ' H',bk:=D.nx } σ H')/\(a=false->∀ H',Same H H'->D.nx σ H')):tWhile c tb D σ H:=by
 refine ⟨Pv,⟨m0,h0⟩,fun m σ H p=>?_⟩
 obtain ⟨a,ht,h1,h2⟩:=hs m σ H p
 exact ht _ fun H' s'=>ite2 (fun c=>⟨fun σ' H'=>∃ m',m' < m/\Pv m' σ' H',fun σ' H' h=>h,h1 c H' s'⟩) fun c=>h2 (Bool.eq_false_iff.mpr c) H' s'
section
variable {P:Program} {w:World} {K:PySem.W.Frag} {mg:Str->Option Value} {base:Heap}
end
section
variable {P:Program} {w:World} {K:PySem.W.Frag} {mg:Str->Option Value} {base:Heap}
end
section
variable {P:Program} {w:World} {K:PySem.W.Frag} {mg:Str->Option Value} {base:Heap}
end
section
variable {K:PySem.W.Frag} {H:Hp}
end
section
variable {P:Program} {w:World} {K:PySem.W.Frag} {mg:Str->Option Value} {base:Heap}
end
end Lw
set_option Elab.async false
set_option linter.all false
set_option maxRecDepth 100000
namespace Lw
open PySem L2 Lm
theorem mul_S (c:Nat) (n:Nat):Txt.mul (S [c]) (n:Int)=S (List.replicate n c):=by
 unfold Txt.mul
 by_cases h:(n:Int) < 1
 ·rw[if_pos h]
  have:n=0:=by omega
  subst this
  rfl
 ·rw[if_neg h]
  by_cases h1:n=1
  ·subst h1;rfl
  ·rw [if_neg (by
    rw[Bool.or_eq_true]
    rintro (z |z)
    ·have:(n:Int)=1:=by simpa using z
     omega
    ·rw[S_len] at z;simp at z)]
   have key:∀ (m:Nat) (acc:List Nat),List.foldl (fun x1 x2=>x1++x2) acc.toArray (List.replicate m (S [c]).cps)=(acc++List.replicate m c).toArray:=by
    intro m
    induction m with
    |zero=>intro acc;simp
    |succ m ih=>
     intro acc
     rw[List.replicate_succ,List.foldl_cons]
     have e:acc.toArray++(S [c]).cps=(acc++[c]).toArray:=by simp
     rw[e,ih (acc++[c]),List.replicate_succ]
     simp
   have:=key n []
   rw[show (n:Int).toNat=n by omega]
   simp only[List.nil_append] at this
   rw[show (#[]:Array Nat)=([]:List Nat).toArray from rfl,this]
section
variable {neat loose:List Nat}
end
end Lw
set_option linter.all false
namespace Lw
open PySem L2 Lm
end Lw
set_option Elab.async false
set_option linter.all false
set_option maxRecDepth 100000
namespace L2
open PySem PySem.Spec PyProof.Rows
section
variable {X:Cx} {c P:Addr} {k i:Nat} {x name:Str} {ps:List Str} {e:Expr} {es:List Expr} {t:TA} {p pos:Pos} {params:Arguments} {body:List Stmt} {scope:Scope} {qs:List (Pos×Str)}
theorem star_parts (hst:noStars (e::es)=true):isStar e=false/\noStars es=true:=by
 unfold noStars at hst
 rw[Bool.and_eq_true,Bool.not_eq_true'] at hst
 exact hst
theorem xcV (hN:X.N[i]? = some x) (hv:Vis X.env.scope x) (hr:Room k X.A) (ha:XA X (e::es) t) (hd:(x==("__debug__":Str))=false:=by decide) (hcd:(x==("__classdict__":Str))=false:=by decide) (hst:noStars (e::es)=true:=by rfl):
  XE X (.Call (.Name x p) (e::es) [] pos) (tCallV X k i t):=⟨pe_callV hN hv hr ha.h hd hcd (star_cons (star_parts hst).1) (stars_any (star_parts hst).2)⟩
theorem xdef (T:DefAt X c P) (hcl:∀ n,(n,NameKind.free)∈scope.names->∃ c,X.env.cells.lookup n=some c) (hq:(pos,qualnameIn X.env name name)∈qs) (hqs:∀ q∈qs,q.1.line=pos.line->q.1.col=pos.col->q.2=qualnameIn X.env name name)
  (hN:X.N.Nodup) (hi:X.N[i]? = some name) (hx:Loc X.env.scope name) (hf:X.fn name=true ∨ X.env.scope.names.lookup name=some .local:=by first |exact .inl rfl |exact .inr rfl)
  (hd0:params.defaults=[]:=by rfl) (hk0:params.kw_defaults=[]:=by rfl) (ha:annTrees params none X.env=[]:=by rfl):
  XS X (.FunctionDef name params body [] none [] scope none name pos) (tDef P qs i (FnMade X name params body scope)):=⟨ps_def T hcl hq hqs hN hi hx hf hd0 hk0 ha⟩
end
end L2
namespace Lm
end Lm
set_option Elab.async false
set_option linter.all false
set_option maxRecDepth 100000
namespace L2
open PySem PySem.Spec PyProof.Rows
section
variable {X:Cx}
end
end L2
set_option Elab.async false
set_option linter.all false
set_option maxRecDepth 100000
namespace L2
open PySem PySem.Spec PyProof.Rows
section
variable {X:Cx} {k:Nat} {C:Addr} {x m f:Str} {ps:List Str} {sp:Sp} {e o value:Expr} {es:List Expr} {ta tv:TE} {t:TA} {p pos pos' apos:Pos}
theorem xfld (he:XE X e ta) (hb:plainBase e=true:=by rfl):XE X (.Attribute e f pos) (tFld X.K ta f):=⟨pe_fld he.h (base_of hb)⟩
theorem xsetfld (ha:XE X o ta) (hv:XE X value tv) (hs:swapsWith value (some (.Attribute o f pos')) pos.line X.env=pure false:=by rfl):XS X (.Assign [.Attribute o f pos'] value pos) (sFld X.K ta tv f):=⟨ps_fld ha.h hv.h hs⟩
structure New (P:Program) (w:World) (K:PySem.W.Frag) (mg:Str->Option Value) (base:Heap) (k:Nat) (x:Str) (C:Addr) (ps:List Str) (sp:Sp):Prop where
 ex:∃ f fd,Mk K C f/\FnOk P w K mg base CX0 k f fd ps sp/\mg x=some (.ref C)/\Binds K fd ps []
theorem xnew (D:New X.prog X.w X.K X.mg X.base k x C ps sp) (hr:Room (k+1) X.A) (ha:XA X (e::es) t) (hg:Gl X x:=by exact rfl) (hdb:(x==("__debug__":Str))=false:=by decide) (hst:noStars (e::es)=true:=by rfl):
  XE X (.Call (.Name x p) (e::es) [] pos) (tMake C sp [] E0 t):=by
 obtain ⟨f,fd,M,F,hm,hb⟩:=D.ex
 exact ⟨pe_make M F hr hg hm hb .nil pass0 ha.h hdb (star_cons (star_parts hst).1) (stars_any (star_parts hst).2)⟩
structure MethV (P:Program) (w:World) (K:PySem.W.Frag) (mg:Str->Option Value) (base:Heap) (k:Nat) (C:Addr) (m:Str) (ps:List Str) (sp:Sp):Prop where
 ex:∃ f fd,Cls K C/\Meth K C m f/\FnOk P w K mg base CX0 k f fd ps sp/\Binds K fd ps []
theorem MethV.mono {P:Program} {w:World} {K:PySem.W.Frag} {mg:Str->Option Value} {base:Heap} {j k:Nat} {C:Addr} {m:Str} {ps:List Str} {sp:Sp} (V:MethV P w K mg base j C m ps sp) (h:j<=k):MethV P w K mg base k C m ps sp:=let ⟨f,fd,a,b,F,c⟩:=V.ex;⟨f,fd,a,b,F.mono h,c⟩
def tMethV (X:Cx) (k:Nat) (m:Str) (ta:TE) (t:TA):TE:=fun σ H Q=>ta σ H fun x H1=>∃ a C dx fs ps sp,x = .ref a/\H1 a=some (.ins C dx fs)/\fs.lookup m=none/\MethV X.prog X.w X.K X.mg X.base k C m ps sp/\t σ H1 fun vs H2=>sp (x::vs) H2 Q E0
theorem xmV {pl:Sem Bool} (he:XE X o ta) (hr:Room k X.A) (ha:XA X (e::es) t) (hst:noStars (e::es)=true:=by rfl)
  (ht : eval (.Call (.Attribute o m apos) (e :: es) [] pos) X.env = (do
   let ov ← eval o X.env
   standAt apos.atName
   let (f,first) ← holding [ov] (getMethod ov m pl)
   callWith pos f first (backTo pos (starEach (e::es) X.env)) (backToKw pos (keywordEach [] X.env))):=by rfl):
  XE X (.Call (.Attribute o m apos) (e::es) [] pos) (tMethV X k m ta t):=by
 refine ⟨fun pins s σ H Q I h=>?_⟩
 refine PySem.W.methodCall_KW (pl:=pl) (thn (he.h pins s σ H _ I h) fun u s1 ⟨x,H1,I1,rx,a,C,dx,fs,ps,sp,ex,ea,l,V,q⟩=>?_) ht
 subst ex
 obtain rfl:u=Value.ref a:=rx
 obtain ⟨f,fd,c,hm,F,hb⟩:=V.ex
 refine getmeth_ok I1 ea c hm l ?_
 refine PySem.W.callWith_K (first:=[.ref a]) (h₀:=X.base) I.ok.mod.kin hm.kp (thn (ha.h pos pins s1 σ H1 _ I1 q) fun us s2 ⟨vs,H2,I2,r,q2⟩=>⟨I2.kIn,?_⟩) (star_cons (star_parts hst).1) (stars_any (star_parts hst).2)
 exact run_fn (us := .ref a::us) (vs := .ref a::vs) (ds:=[]) (dvs:=[]) F hr hb .nil pass0 I2 (.cons rfl r) (by rw[List.append_nil];exact q2)
theorem xmV0 {pl:Sem Bool} (he:XE X o ta) (hr:Room k X.A)
  (ht : eval (.Call (.Attribute o m apos) [] [] pos) X.env = (do
   let ov ← eval o X.env
   standAt apos.atName
   let (f,first) ← holding [ov] (getMethod ov m pl)
   callWith pos f first (backTo pos (starEach [] X.env)) (backToKw pos (keywordEach [] X.env))):=by rfl):
  XE X (.Call (.Attribute o m apos) [] [] pos) (tMethV X k m ta tNil):=by
 refine ⟨fun pins s σ H Q I h=>?_⟩
 refine PySem.W.methodCall_KW (pl:=pl) (thn (he.h pins s σ H _ I h) fun u s1 ⟨x,H1,I1,rx,a,C,dx,fs,ps,sp,ex,ea,l,V,q⟩=>?_) ht
 subst ex
 obtain rfl:u=Value.ref a:=rx
 obtain ⟨f,fd,c,hm,F,hb⟩:=V.ex
 refine getmeth_ok I1 ea c hm l ?_
 exact PySem.W.callWith_K0 (first:=[.ref a]) I1.kIn hm.kp (run_fn (us:=[.ref a]) (vs:=[.ref a]) (ds:=[]) (dvs:=[]) F hr hb .nil pass0 I1 (.cons rfl .nil) (by rw[List.append_nil];exact q))
end
end L2
set_option Elab.async false
set_option linter.all false
set_option maxRecDepth 100000
namespace L2
open PySem PySem.Spec PyProof.Rows
section
variable {P:Program} {w:World} {K:PySem.W.Frag} {mg:Str->Option Value} {base:Heap}
end
end L2
set_option Elab.async false
set_option linter.all false
set_option maxRecDepth 100000
namespace L2
open PySem PySem.Spec PyProof.Rows
section
variable {X:Cx} {e:Expr} {te:TE} {x:Str} {pos:Pos}
theorem xaug {i:Nat} {op:Operator} {ti:TIp} {pos':Pos} (hN:X.N.Nodup) (hi:X.N[i]? = some x) (hx:Loc X.env.scope x) (he:XE X e te) (ho:PIp X op ti) (hf:X.fn x=true ∨ X.env.scope.names.lookup x=some .local:=by first |exact .inl rfl |exact .inr rfl):
  XS X (.AugAssign (.Name x pos') op e pos) (tAug i te ti):=⟨ps_aug hN hi hx he.h ho hf⟩
theorem xcont:XS X (.Continue pos) tCont:=⟨ps_continue⟩
def rEq0 (K:PySem.W.Frag) (neg:Bool):R2:=fun x y H Q=>∃ p q xs,x = .ref p/\y = .ref q/\SqL K H p xs/\SqL K H q []/\Q (.bl (if neg then !xs.isEmpty else xs.isEmpty)) H
theorem op_eq0 (hu:X.A.units+64 < cLine):OpR X (compareOp .Eq) (rEq0 X.K false):=by
 intro pins s σ H x y v u Q I rx ry h
 obtain ⟨p,q,xs,rfl,rfl,hp,hq,k⟩:=h
 cases rx
 cases ry
 obtain ⟨its,r,pl,_⟩:=I.list hp
 obtain ⟨its2,r2,pl2,_⟩:=I.list hq
 have e2:=r2.length
 have e1:=r.length
 cases its2 with
 |cons _ _=>simp at e2
 |nil=>
 cases its with
 |nil=>
  cases xs with
  |cons _ _=>simp at e1
  |nil=>exact SeqAt.eq_listAt (e:=fun _=>true) pl.isList pl2.isList rfl (by omega) (fun j h1 _=>absurd h1 (Nat.not_lt_zero _)) ⟨.bl _,H,I,rfl,k⟩
 |cons _ _=>
  cases xs with
  |nil=>simp at e1
  |cons _ _=>exact SeqAt.eq_list_lengthsAt pl.isList pl2.isList (by simp) (by omega) ⟨.bl _,H,I,rfl,k⟩
theorem op_ne0 (hu:X.A.units+64 < cLine):OpR X (compareOp .NotEq) (rEq0 X.K true):=by
 intro pins s σ H x y v u Q I rx ry h
 obtain ⟨p,q,xs,rfl,rfl,hp,hq,k⟩:=h
 cases rx
 cases ry
 obtain ⟨its,r,pl,_⟩:=I.list hp
 obtain ⟨its2,r2,pl2,_⟩:=I.list hq
 have e2:=r2.length
 have e1:=r.length
 cases its2 with
 |cons _ _=>simp at e2
 |nil=>
 cases its with
 |nil=>
  cases xs with
  |cons _ _=>simp at e1
  |nil=>exact SeqAt.RcNeAt.lists (e:=fun _=>true) pl.isList pl2.isList rfl (by omega) (fun j h1 _=>absurd h1 (Nat.not_lt_zero _)) _ _ _ _ ⟨.bl _,H,I,rfl,k⟩
 |cons _ _=>
  cases xs with
  |nil=>simp at e1
  |cons _ _=>exact SeqAt.RcNeAt.lists_lengths pl.isList pl2.isList (by simp) (by omega) _ _ _ _ ⟨.bl _,H,I,rfl,k⟩
end
end L2
set_option Elab.async false
set_option linter.all false
set_option maxRecDepth 100000
namespace Lw
open PySem L2 Lm
theorem t_ne0 {K:PySem.W.Frag} {σ:St} {H:Hp} {ta:TE} {p:Addr} {xs:List V} (h1:Ev ta σ H (.ref p)) (hx:SqL K H p xs):Tells (tTest (tOp (rEq0 K true) ta (tLst tNil))) σ H (!xs.isEmpty):=
 fun R k=>h1 _ ⟨big (show (0:Nat)<=1000000 by decide),fun l hl=>⟨p,l,xs,rfl,rfl,(same_new hl _).seq hx,SqL.of upd_same,_,rfl,k _ (same_new hl _)⟩⟩
theorem t_eq0 {K:PySem.W.Frag} {σ:St} {H:Hp} {ta:TE} {p:Addr} {xs:List V} (h1:Ev ta σ H (.ref p)) (hx:SqL K H p xs):Tells (tTest (tOp (rEq0 K false) ta (tLst tNil))) σ H xs.isEmpty:=
 fun R k=>h1 _ ⟨big (show (0:Nat)<=1000000 by decide),fun l hl=>⟨p,l,xs,rfl,rfl,(same_new hl _).seq hx,SqL.of upd_same,_,rfl,k _ (same_new hl _)⟩⟩
theorem t_relG {σ:St} {H:Hp} {p:Int->Int->Bool} {ta tb:TE} {x y:Int} (h1:Ev ta σ H (.int x)) (h2:Ev tb σ H (.int y)):Tells (tTest (tOp (rI0 fun i j => .bl (p i j)) ta tb)) σ H (p x y):=fun R k=>h1 _ (h2 _ ⟨x,y,rfl,rfl,_,rfl,k _ (Same.refl _)⟩)
theorem catS (a b:List Nat):V.str (S a++S b)=vS (a++b):=by rw[S_app]
theorem glue_sum:∀ hs:List (List Nat),(hs.map (·.length)).sum+hs.length<=(glueC [32] hs).length+1
 | []=>by simp
 | [p]=>by simp[glueC]
 |p::q::r=>by
  have ih:=glue_sum (q::r)
  rw[glueC_cons _ _ _ (by simp)]
  simp only[List.map_cons,List.sum_cons,List.length_cons,List.length_append,List.length_nil] at ih ⊢
  omega
theorem glue_fit {hs:List (List Nat)} (h:(glueC [32] hs).length<=100000):(((hs.map S).map (·.length)).sum+(hs.map S).length * (S [32]).length)<=sizeLine:=by
 have:=glue_sum hs
 rw[List.map_map,show ((fun (x:Str)=>x.length) ∘ S)=(fun (l:List Nat)=>l.length) from funext fun l=>S_len l,List.length_map,sizeLine_eq,S_len]
 simp only[List.length_cons,List.length_nil]
 omega
end Lw
set_option Elab.async false
set_option linter.all false
set_option maxRecDepth 100000
namespace L2
open PySem
section
variable {prog:Program} {w:World} {A:Around} {E:Value->Shared->Prop} {s:Shared}
end
section
variable {prog:Program} {w:World} {A:Around} {E:Value->Shared->Prop} {s:Shared}
end
open PySem.Spec PyProof.Rows
section
variable {X:Cx}
end
end L2
set_option Elab.async false
set_option linter.all false
namespace Lm
open PySem PySem.Builtin PySem.Builtin.Str PySem.StrLaws
end Lm
set_option Elab.async false
set_option linter.all false
set_option maxRecDepth 100000
namespace L2
open PySem PySem.Spec PyProof.Rows
section
variable {X:Cx}
end
end L2
set_option Elab.async false
set_option linter.all false
namespace Lm
end Lm
set_option Elab.async false
set_option linter.all false
set_option maxRecDepth 100000
namespace L2
open PySem PySem.Spec PyProof.Rows
end L2
set_option Elab.async false
set_option linter.all false
set_option maxRecDepth 100000
namespace L2
open PySem PySem.Spec PyProof.Rows
end L2
set_option Elab.async false
set_option linter.all false
set_option maxRecDepth 100000
namespace L2
open PySem PySem.Spec PyProof.Rows
section
variable {X:Cx} {scope:Scope} {cl:List (Str×Addr)} {C:Addr} {N':List Str} {fp:List Addr} {s:Shared} {H:Hp}
end
end L2
set_option Elab.async false
set_option linter.all false
set_option maxRecDepth 100000
namespace L2
open PySem PySem.Spec PyProof.Rows
mutual
inductive Dn (H:Hp):V->PyData->Prop where
 |non:Dn H .non .none
 |bl (b:Bool):Dn H (.bl b) (.bool b)
 |int (i:Int):Dn H (.int i) (.int i)
 |str (x:Str) (h:PyData.strOk x=true) (hl:x.length<=100000):Dn H (.str x) (.str x)
 |lst {a:Addr} {xs:List V} {ds:List PyData}:H a=some (.lst xs)->DnAll H xs ds->xs.length<=100000->Dn H (.ref a) (.list ds)
 |tup {a:Addr} {xs:List V} {ds:List PyData}:H a=some (.tup xs)->DnAll H xs ds->Dn H (.ref a) (.tuple ds)
inductive DnAll (H:Hp):List V->List PyData->Prop where
 |nil:DnAll H [] []
 |cons {x:V} {xs:List V} {d:PyData} {ds:List PyData}:Dn H x d->DnAll H xs ds->DnAll H (x::xs) (d::ds)
end
mutual
theorem Dn.same {H H':Hp} (s:Same H H'):∀ {v:V} {d:PyData},Dn H v d->Dn H' v d
 |_,_, .non => .non
 |_,_, .bl b => .bl b
 |_,_, .int i => .int i
 |_,_, .str x h hl => .str x h hl
 |_,_, .lst e r l => .lst (s _ _ e) (DnAll.same s r) l
 |_,_, .tup e r => .tup (s _ _ e) (DnAll.same s r)
theorem DnAll.same {H H':Hp} (s:Same H H'):∀ {vs:List V} {ds:List PyData},DnAll H vs ds->DnAll H' vs ds
 |_,_, .nil => .nil
 |_,_, .cons a b => .cons (Dn.same s a) (DnAll.same s b)
end
mutual
theorem Dn.den {K:PySem.W.Frag} {H:Hp}:∀ {v:V} {d:PyData},Dn H v d->Den K H v d
 |_,_, .non => .non
 |_,_, .bl b => .bl b
 |_,_, .int i => .int i
 |_,_, .str x h _ => .str x h
 |_,_, .lst e r _ => .lst (SqL.of e) (DnAll.den r)
 |_,_, .tup e r => .tup (SqT.of e) (DnAll.den r)
theorem DnAll.den {K:PySem.W.Frag} {H:Hp}:∀ {vs:List V} {ds:List PyData},DnAll H vs ds->DenAll K H vs ds
 |_,_, .nil => .nil
 |_,_, .cons a b => .cons (Dn.den a) (DnAll.den b)
end
theorem DnAll.len {H:Hp}:∀ {vs:List V} {ds:List PyData},DnAll H vs ds->vs.length=ds.length
 |_,_, .nil=>rfl
 |_,_, .cons _ b=>by rw[List.length_cons,List.length_cons,b.len]
theorem DnAll.get {H:Hp}:∀ {vs:List V} {ds:List PyData} {i:Nat} {d:PyData},DnAll H vs ds->ds[i]? = some d->∃ v,vs[i]? = some v/\Dn H v d
 |_,_,i,d, .nil,e=>by simp at e
 |_,_,0,d, .cons a b,e=>by cases e;exact ⟨_,rfl,a⟩
 |_,_,i+1,d, .cons a b,e=>by
  obtain ⟨v,h1,h2⟩:=b.get (i:=i) (by simpa using e)
  exact ⟨v,by simpa using h1,h2⟩
theorem DnAll.getV {H:Hp}:∀ {vs:List V} {ds:List PyData} {i:Nat} {v:V},DnAll H vs ds->vs[i]? = some v->∃ d,ds[i]? = some d/\Dn H v d
 |_,_,i,d, .nil,e=>by simp at e
 |_,_,0,d, .cons a b,e=>by cases e;exact ⟨_,rfl,a⟩
 |_,_,i+1,d, .cons a b,e=>by
  obtain ⟨v,h1,h2⟩:=b.getV (i:=i) (by simpa using e)
  exact ⟨v,by simpa using h1,h2⟩
theorem DnAll.app {H:Hp}:∀ {vs us:List V} {ds es:List PyData},DnAll H vs ds->DnAll H us es->DnAll H (vs++us) (ds++es)
 |_,_,_,_, .nil,h=>h
 |_,_,_,_, .cons a b,h => .cons a (b.app h)
theorem DnAll.set {H:Hp}:∀ {vs:List V} {ds:List PyData} (n:Nat) {v:V} {d:PyData},DnAll H vs ds->Dn H v d->DnAll H (vs.set n v) (ds.set n d)
 |_,_,_,_,_, .nil,_ => .nil
 |_,_,0,_,_, .cons _ b,h => .cons h b
 |_,_,n+1,_,_, .cons a b,h => .cons a (b.set n h)
def dif (H H':Hp):Hp:=fun b=>match H b with |none=>H' b |some _=>none
theorem dif_at {H H':Hp} {b:Addr} (h:H b=none):dif H H' b=H' b:=by unfold dif;rw[h]
theorem dif_none {H H':Hp} {b:Addr} (h:H b≠none):dif H H' b=none:=by
 unfold dif
 cases e:H b with
 |none=>exact absurd e h
 |some o=>rfl
theorem dif_some {H H':Hp} {b:Addr} {o:HO} (h:dif H H' b=some o):H b=none/\H' b=some o:=by
 cases e:H b with
 |none=>rw[dif_at e] at h;exact ⟨rfl,h⟩
 |some o=>rw[dif_none (by rw[e];simp)] at h;cases h
theorem dif_same {H H':Hp}:Same (dif H H') H':=fun b o h=>(dif_some h).2
theorem dif_grow {H H1 H2 H3:Hp} (a:Same H H1) (b:Same H2 H3):Same (dif H1 H2) (dif H H3):=fun c o h=>by
 obtain ⟨h1,h2⟩:=dif_some h
 rw[dif_at (a.free h1)]
 exact b _ _ h2
theorem Dn.out {H H':Hp} {v:V} {d:PyData} (h:Dn (dif H H') v d):Dn H' v d:=h.same dif_same
def Off (W:Addr->Prop) (H:Hp) (v:V) (d:PyData):Prop:=∃ G,Same G H/\(∀ b,W b->G b=none)/\Dn G v d
theorem Off.dn {W:Addr->Prop} {H:Hp} {v:V} {d:PyData} (h:Off W H v d):Dn H v d:=let ⟨_,s,_,k⟩:=h;k.same s
theorem Off.sameW {W:Addr->Prop} {H H':Hp} {v:V} {d:PyData} (h:Off W H v d) (s:∀ b o,¬ W b->H b=some o->H' b=some o):Off W H' v d:=
 let ⟨G,a,b,k⟩:=h;⟨G,fun c o e=>s c o (fun z=>by rw[b c z] at e;cases e) (a c o e),b,k⟩
theorem Off.upd {W:Addr->Prop} {H:Hp} {v:V} {d:PyData} {p:Addr} {o:HO} (h:Off W H v d) (hp:W p):Off W (L2.upd H p o) v d:=h.sameW fun b u n e=>(upd_ne (show b≠p from fun z=>n (z▸hp))).trans e
theorem Off.new {W:Addr->Prop} {H H':Hp} {v:V} {d:PyData} (h:Dn (dif H H') v d) (hW:∀ b,W b->H b≠none):Off W H' v d:=⟨dif H H',dif_same,fun b hb=>dif_none (hW b hb),h⟩
def Offs (W:Addr->Prop) (H:Hp) (vs:List V) (ds:List PyData):Prop:=∃ G,Same G H/\(∀ b,W b->G b=none)/\DnAll G vs ds
theorem Offs.sameW {W:Addr->Prop} {H H':Hp} {v:List V} {d:List PyData} (h:Offs W H v d) (s:∀ b o,¬ W b->H b=some o->H' b=some o):Offs W H' v d:=
 let ⟨G,a,b,k⟩:=h;⟨G,fun c o e=>s c o (fun z=>by rw[b c z] at e;cases e) (a c o e),b,k⟩
theorem Offs.same {W:Addr->Prop} {H H':Hp} {v:List V} {d:List PyData} (h:Offs W H v d) (s:Same H H'):Offs W H' v d:=h.sameW fun b o _ e=>s b o e
theorem Offs.upd {W:Addr->Prop} {H:Hp} {v:List V} {d:List PyData} {p:Addr} {o:HO} (h:Offs W H v d) (hp:W p):Offs W (L2.upd H p o) v d:=h.sameW fun b u n e=>(upd_ne (show b≠p from fun z=>n (z▸hp))).trans e
def both (G1 G2:Hp):Hp:=fun b=>match G1 b with |none=>G2 b |some o=>some o
theorem both_l {G1 G2:Hp}:Same G1 (both G1 G2):=fun b o h=>by unfold both;rw[h]
theorem both_r {G1 G2 H:Hp} (a:Same G1 H) (c:Same G2 H):Same G2 (both G1 G2):=fun b o h=>by
 unfold both
 cases e:G1 b with
 |none=>exact h
 |some u=>
  have h1:=a _ _ e
  rw[c _ _ h] at h1
  exact h1.symm
theorem both_in {G1 G2 H:Hp} (a:Same G1 H) (c:Same G2 H):Same (both G1 G2) H:=fun b o h=>by
 unfold both at h
 cases e:G1 b with
 |none=>rw[e] at h;exact c _ _ h
 |some u=>rw[e] at h;cases h;exact a _ _ e
theorem Offs.nil {W:Addr->Prop} {H:Hp}:Offs W H [] []:=⟨fun _=>none,(fun _ _ h=>nomatch h),(fun _ _=>rfl), .nil⟩
theorem Offs.snoc {W:Addr->Prop} {H:Hp} {vs:List V} {ds:List PyData} {v:V} {d:PyData} (h:Offs W H vs ds) (k:Off W H v d):Offs W H (vs++[v]) (ds++[d]):=by
 obtain ⟨G1,a1,b1,k1⟩:=h
 obtain ⟨G2,a2,b2,k2⟩:=k
 refine ⟨both G1 G2,both_in a1 a2,fun b hb=>?_,(k1.same both_l).app (.cons (k2.same (both_r a1 a2)) .nil)⟩
 unfold both
 rw[b1 b hb]
 exact b2 b hb
theorem Offs.set {W:Addr->Prop} {H:Hp} {vs:List V} {ds:List PyData} {v:V} {d:PyData} (n:Nat) (h:Offs W H vs ds) (k:Off W H v d):Offs W H (vs.set n v) (ds.set n d):=by
 obtain ⟨G1,a1,b1,k1⟩:=h
 obtain ⟨G2,a2,b2,k2⟩:=k
 refine ⟨both G1 G2,both_in a1 a2,fun b hb=>?_,(k1.same both_l).set n (k2.same (both_r a1 a2))⟩
 unfold both
 rw[b1 b hb]
 exact b2 b hb
theorem Offs.get {W:Addr->Prop} {H:Hp} {vs:List V} {ds:List PyData} {i:Nat} {d:PyData} (h:Offs W H vs ds) (e:ds[i]? = some d):∃ v,vs[i]? = some v/\Off W H v d:=
 let ⟨G,a,b,c⟩:=h;let ⟨v,h1,h2⟩:=c.get e;⟨v,h1,G,a,b,h2⟩
theorem Offs.len {W:Addr->Prop} {H:Hp} {vs:List V} {ds:List PyData} (h:Offs W H vs ds):vs.length=ds.length:=let ⟨_,_,_,c⟩:=h;c.len
def tLit (d:PyData):TE:=fun _ H Q=>∀ v H',Same H H'->Dn (dif H H') v d->Q v H'
def tLits (ds:List PyData):TA:=fun _ H Q=>∀ vs H',Same H H'->DnAll (dif H H') vs ds->Q vs H'
section
variable {X:Cx} {e:Expr} {es:List Expr} {te te':TE} {t t':TA} {d:PyData} {ds:List PyData} {pos:Pos}
theorem XE.imp (h:XE X e te) (k:∀ σ H Q,te' σ H Q->te σ H Q):XE X e te':=⟨fun pins s σ H Q I q=>h.h pins s σ H Q I (k σ H Q q)⟩
theorem XA.imp (h:XA X es t) (k:∀ σ H Q,t' σ H Q->t σ H Q):XA X es t':=⟨fun pos pins s σ H Q I q=>h.h pos pins s σ H Q I (k σ H Q q)⟩
theorem xl_str {y:Str} {j:Nat} (h:(PyData.strOk y&&decide (y.length<=100000))=true):XE X (.Constant (.str y) j pos) (tLit (.str y)):=by
 rw[Bool.and_eq_true] at h
 exact xstr.imp fun _ H Q q=>q _ H (Same.refl _) (.str y h.1 (of_decide_eq_true h.2))
theorem xls0:XA X [] (tLits []):=xa0.imp fun _ H Q q=>q [] H (Same.refl _) .nil
theorem xlsc (a:XE X e (tLit d)) (b:XA X es (tLits ds)) (h:isStar e=false:=by rfl):XA X (e::es) (tLits (d::ds)):=
 (xac a b h).imp fun _ H Q q v H1 s1 k1 vs H2 s2 k2=>q (v::vs) H2 (s1.trans s2) (.cons (k1.same (dif_grow (Same.refl _) s2)) (k2.same (dif_grow s1 (Same.refl _))))
theorem xl_tup {k:Nat} (a:XA X es (tLits ds)) (h:ds.length<=1000:=by decide):XE X (.Tuple es k pos) (tLit (.tuple ds)):=by
 refine (xtup a).imp fun _ H Q q vs H1 s1 k1=>⟨?_,fun l hl=>q _ _ (s1.trans (same_new hl _)) (.tup (by rw[dif_at (s1.free hl),upd_same]) (k1.same (dif_grow (Same.refl _) (same_new hl _))))⟩
 rw[k1.len,sizeLine_eq]
 omega
end
def tyD:PyData->String
 | .none=>"NoneType"
 | .bool _=>"bool"
 | .int _=>"int"
 | .str _=>"str"
 | .list _=>"list"
 | .tuple _=>"tuple"
 | .dict _=>"dict"
theorem Dn.ty {K:PySem.W.Frag} {H:Hp} {v:V} {d:PyData}:Dn H v d->TyOf K H v (.type (tyD d))
 | .non => .non
 | .bl b => .bl b
 | .int i => .int i
 | .str x h _ => .str x
 | .lst e r _ => .lst e
 | .tup e r => .tup e
theorem kit_D (K:PySem.W.Frag) (d:PyData):(PySem.W.kitOne K (.type (tyD d)) (.type "str")=some (tyD d=="str"))/\(PySem.W.kitOne K (.type (tyD d)) (.type "list")=some (tyD d=="list"))/\(PySem.W.kitOne K (.type (tyD d)) (.type "tuple")=some (tyD d=="tuple")):=by
 cases d <;> refine ⟨?_,?_,?_⟩ <;> with_unfolding_all rfl
end L2
set_option Elab.async false
set_option linter.all false
set_option maxRecDepth 100000
namespace L2
open PySem PySem.Spec PyProof.Rows
section
variable {P:Program} {w:World} {K:PySem.W.Frag} {mg:Str->Option Value} {base:Heap} {N:List Str} {qual:Str} {scope:Scope} {f:Addr} {cd:Value} {A:Around} {outer:List Env} {s₀:Shared} {H₀:Hp} {E:XK}
variable {k:Nat} {x:Str} {ps:List Str} {sp:Sp} {e:Expr} {es:List Expr} {t:TA} {p pos:Pos}
theorem xcP (D:DefR P w K mg base k x ps sp) (hr:Room k (cxOf (CXr P w) P w K mg base N qual scope f cd A outer s₀ H₀ E).A) (ha:XA (cxOf (CXr P w) P w K mg base N qual scope f cd A outer s₀ H₀ E) (e::es) t) (hg:Gl (cxOf (CXr P w) P w K mg base N qual scope f cd A outer s₀ H₀ E) x:=by exact rfl)
  (hdb:(x==("__debug__":Str))=false:=by decide) (hst:noStars (e::es)=true:=by rfl):XE (cxOf (CXr P w) P w K mg base N qual scope f cd A outer s₀ H₀ E) (.Call (.Name x p) (e::es) [] pos) (tCall sp [] E t):=by
 obtain ⟨f',fd,G,hm,hk,hb⟩:=D.ex
 obtain ⟨h1,h2⟩:=stars2 hst
 exact ⟨pe_call G hr hg hm hk hb .nil (pass_on fun _ _ h=>h) ha.h hdb (star_cons h1) (stars_any h2)⟩
end
section
variable {X:Cx} {k:Nat} {x:Str} {ps:List Str} {sp:Sp} {e:Expr} {p pos:Pos}
section
variable {scope:Scope} {cl:List (Str×Addr)} {C:Addr} {N':List Str} {fp:List Addr} {s:Shared} {H:Hp} {o:Expr} {ta:TE} {t:TA} {m:Str} {apos:Pos} {es:List Expr}
theorem xmV0C {pl:Sem Bool} (he:XE (compX X scope cl C N' fp s H) o ta) (hr:Room k X.A)
  (ht : eval (.Call (.Attribute o m apos) [] [] pos) (compX X scope cl C N' fp s H).env = (do
   let ov ← eval o (compX X scope cl C N' fp s H).env
   standAt apos.atName
   let (f,first) ← holding [ov] (getMethod ov m pl)
   callWith pos f first (backTo pos (starEach [] (compX X scope cl C N' fp s H).env)) (backToKw pos (keywordEach [] (compX X scope cl C N' fp s H).env))):=by rfl):
  XE (compX X scope cl C N' fp s H) (.Call (.Attribute o m apos) [] [] pos) (tMethV X k m ta tNil):=xmV0 (X:=compX X scope cl C N' fp s H) (pl:=pl) he hr ht
end
def rIsC (K:PySem.W.Frag):List V->Hp->VK->Prop:=fun xs H Q=>∃ x t C b,xs=[x, .ref C]/\TyOf K H x t/\PySem.W.kitOne K t (.ref C)=some b/\Q (.bl b) H
theorem call_isC:CallR X (.builtin "isinstance") (rIsC X.K):=by
 intro pins s σ H xs us Q I r h
 obtain ⟨v,t,C,b,rfl,ht,hk,q⟩:=h
 obtain ⟨u,u2,rfl,rx,rv⟩:=r.two
 cases (show u2=Value.ref C from rv)
 exact wpAny_with_toks (n:=1) I.tk (isinst_ok I rx ht hk fun tk htk=>⟨.bl b,H,I.tok _ htk,rfl,q⟩)
end
end L2
set_option Elab.async false
set_option linter.all false
set_option maxRecDepth 100000
namespace Lw
open PySem L2 Lm PySem.Builtin.Str
inductive P1 where
 |plain (s:Str)
 |code (s:Str)
 |link (w n:Str)
 |note (n:Str)
inductive PC where
 |one (p:P1)
 |strong (ps:List P1)
abbrev kPlain:Str:="plain"
abbrev kCode:Str:="code"
abbrev kStrong:Str:="strong"
abbrev kLink:Str:="link"
abbrev kNote:Str:="note"
def d1:P1->PyData
 | .plain s => .tuple [.str kPlain, .str s]
 | .code s => .tuple [.str kCode, .str s]
 | .link w n => .tuple [.str kLink, .str w, .str n]
 | .note n => .tuple [.str kNote, .str n]
def dP:PC->PyData
 | .one p=>d1 p
 | .strong ps => .tuple [.str kStrong, .list (ps.map d1)]
def PC.isPlain:PC->Bool
 | .one (.plain _)=>true
 |_=>false
def hasS (y x:Str):Bool := !(occurrences x y 0 x.length 1).isEmpty
def okSg (x:Str):Bool := !decide (x=("":Str)) && !(hasS "  " x||(hasS "\t" x||hasS "\n" x))
def okCd (x:Str):Bool:=okSg x && !hasS "`" x
def okNm (x:Str):Bool:=isNameC x.cps.toList&&decide (S (smallC x.cps.toList)=x)
def sgD:PyData->Option Str
 | .str x=>if okSg x then some x else none
 |_=>none
def cdD:PyData->Option Str
 | .str x=>if okCd x then some x else none
 |_=>none
def nmD:PyData->Option Str
 | .str x=>if okNm x then some x else none
 |_=>none
def lnD (a b:PyData):Option P1:=match sgD a,nmD b with
 |some w,some n=>some (.link w n)
 |_,_=>none
def partG (go:PyData->Option (List P1)):PyData->Option PC
 | .tuple [.str k,a,b]=>if k=kLink then (lnD a b).map .one else none
 | .tuple [.str k,a]=>
  if k=kPlain then (sgD a).map fun s => .one (.plain s)
  else if k=kCode then (cdD a).map fun s => .one (.code s)
  else if k=kNote then (nmD a).map fun s => .one (.note s)
  else if k=kStrong then (go a).map .strong
  else none
 |_=>none
def runG (part:PyData->Option PC):Bool->List PyData->Option (List PC)
 |_,[]=>some []
 |prev,d::ds=>match part d with
  |none=>none
  |some p=>if prev&&p.isPlain then none else (runG part p.isPlain ds).map (p :: ·)
def noGo:PyData->Option (List P1):=fun _=>none
def one? : PC->Option P1
 | .one p=>some p
 | .strong _=>none
def ones:List PC->List P1:=fun ps=>ps.filterMap one?
def innerD:PyData->Option (List P1)
 | .list ds=>match runG (partG noGo) false ds with
  |some (p::ps)=>some (ones (p::ps))
  |_=>none
 |_=>none
def partD (st:Bool):PyData->Option PC:=partG (if st then innerD else noGo)
def runD (st:Bool):PyData->Option (List PC)
 | .list ds=>runG (partD st) false ds
 |_=>none
def endsOk:List PC->Bool
 | []=>true
 |p::ps => !(match p with | .one (.plain s)=>Txt.startswith s " " |_=>false) && !(match (p::ps).getLast (by simp) with | .one (.plain s)=>Txt.endswith s " " |_=>false)
def normD (d:PyData):Option (List PC):=match runD true d with
 |some ps=>if endsOk ps then some ps else none
 |none=>none
structure Cp where
 Part:Addr
 Plain:Addr
 Code:Addr
 Strong:Addr
 Link:Addr
 Mark:Addr
def StrG (x:Str):Prop:=PyData.strOk x=true/\x.length<=100000
theorem StrG.dn {H:Hp} {x:Str} (h:StrG x):Dn H (.str x) (.str x) := .str x h.1 h.2
def P1At (c:Cp) (H:Hp) (a:Addr):P1->Prop
 | .plain s=>StrG s/\∃ dx,H a=some (.ins c.Plain dx [("signs", .str s)])
 | .code s=>StrG s/\∃ dx,H a=some (.ins c.Code dx [("signs", .str s)])
 | .link w n=>StrG w/\StrG n/\∃ dx,H a=some (.ins c.Link dx [("words", .str w),("name", .str n)])
 | .note n=>StrG n/\∃ dx,H a=some (.ins c.Mark dx [("name", .str n)])
def P1s (c:Cp) (H:Hp):List Addr->List P1->Prop
 | [],[]=>True
 |a::as,p::ps=>P1At c H a p/\P1s c H as ps
 |_,_=>False
def PCAt (c:Cp) (H:Hp) (a:Addr):PC->Prop
 | .one p=>P1At c H a p
 | .strong ps=>∃ dx l as,H a=some (.ins c.Strong dx [("parts", .ref l)])/\H l=some (.lst (as.map V.ref))/\P1s c H as ps
def PCs (c:Cp) (H:Hp):List Addr->List PC->Prop
 | [],[]=>True
 |a::as,p::ps=>PCAt c H a p/\PCs c H as ps
 |_,_=>False
theorem P1At.same {c:Cp} {H H':Hp} {a:Addr} (s:Same H H'):∀ {p:P1},P1At c H a p->P1At c H' a p
 | .plain _,⟨g,dx,e⟩=>⟨g,dx,s _ _ e⟩
 | .code _,⟨g,dx,e⟩=>⟨g,dx,s _ _ e⟩
 | .link _ _,⟨g,g2,dx,e⟩=>⟨g,g2,dx,s _ _ e⟩
 | .note _,⟨g,dx,e⟩=>⟨g,dx,s _ _ e⟩
theorem P1s.same {c:Cp} {H H':Hp} (s:Same H H'):∀ {as:List Addr} {ps:List P1},P1s c H as ps->P1s c H' as ps
 | [],[],_=>trivial
 |_::_,_::_,⟨a,b⟩=>⟨a.same s,b.same s⟩
theorem PCAt.same {c:Cp} {H H':Hp} {a:Addr} (s:Same H H'):∀ {p:PC},PCAt c H a p->PCAt c H' a p
 | .one _,h=>P1At.same s h
 | .strong _,⟨dx,l,as,e1,e2,r⟩=>⟨dx,l,as,s _ _ e1,s _ _ e2,r.same s⟩
theorem PCs.same {c:Cp} {H H':Hp} (s:Same H H'):∀ {as:List Addr} {ps:List PC},PCs c H as ps->PCs c H' as ps
 | [],[],_=>trivial
 |_::_,_::_,⟨a,b⟩=>⟨a.same s,b.same s⟩
theorem PCs.len {c:Cp} {H:Hp}:∀ {as:List Addr} {ps:List PC},PCs c H as ps->as.length=ps.length
 | [],[],_=>rfl
 |_::_,_::_,⟨_,b⟩=>by rw[List.length_cons,List.length_cons,b.len]
theorem P1s.len {c:Cp} {H:Hp}:∀ {as:List Addr} {ps:List P1},P1s c H as ps->as.length=ps.length
 | [],[],_=>rfl
 |_::_,_::_,⟨_,b⟩=>by rw[List.length_cons,List.length_cons,b.len]
theorem PCs.snoc {c:Cp} {H:Hp}:∀ {as:List Addr} {ps:List PC} {a:Addr} {p:PC},PCs c H as ps->PCAt c H a p->PCs c H (as++[a]) (ps++[p])
 | [],[],_,_,_,h=>⟨h,trivial⟩
 |_::_,_::_,_,_,⟨a,b⟩,h=>⟨a,b.snoc h⟩
theorem PCs.get {c:Cp} {H:Hp}:∀ {as:List Addr} {ps:List PC} {i:Nat} {a:Addr},PCs c H as ps->as[i]? = some a->∃ p,ps[i]? = some p/\PCAt c H a p
 | [],[],_,_,_,e=>by simp at e
 |_::_,_::_,0,_,⟨h,_⟩,e=>by cases e;exact ⟨_,rfl,h⟩
 |_::_,_::_,i+1,_,⟨_,b⟩,e=>by
  obtain ⟨p,h1,h2⟩:=b.get (i:=i) (by simpa using e)
  exact ⟨p,by simpa using h1,h2⟩
theorem PCs.ones {c:Cp} {H:Hp}:∀ {as:List Addr} {ps:List PC},PCs c H as ps->(∀ p∈ps,one? p≠none)->P1s c H as (Lw.ones ps)
 | [],[],_,_=>trivial
 |a::as, .one p::ps,⟨h,r⟩,k=>⟨h,r.ones fun q hq=>k q (List.mem_cons_of_mem _ hq)⟩
 |a::as, .strong q::ps,⟨h,r⟩,k=>absurd rfl (k (.strong q) List.mem_cons_self)
structure Inst (K:PySem.W.Frag) (C:Addr):Prop where
 cls:Cls K C
 ha:PySem.W.findIn K (.ref C) "__class__"=some (some (.builtin "object.__class__"))
 hn:PySem.W.specialIn K (.builtin "object.__class__") "__get__"=some (some (.builtin "getset_descriptor.__get__"))
 htk:PySem.W.takesIn K (.builtin "object.__class__")=some true
 hm:PySem.W.mroIn K C (.type "object")=some true
theorem Inst.ty {K:PySem.W.Frag} {C:Addr} (i:Inst K C) {H:Hp} {a dx:Addr} {fs:List (Str×V)} (e:H a=some (.ins C dx fs)):TyOf K H (.ref a) (.ref C) := .ins e i.cls i.ha i.hn i.htk i.hm
theorem sgD_eq {d:PyData} {x:Str} (h:sgD d=some x):d = .str x:=by
 unfold sgD at h
 split at h
 ·split at h
  ·cases h;rfl
  ·cases h
 ·cases h
theorem part0_one {d:PyData} {p:PC} (h:partG noGo d=some p):one? p≠none:=by
 unfold partG at h
 split at h
 ·split at h
  ·cases e:lnD _ _ with
   |none=>rw[e] at h;cases h
   |some s=>rw[e] at h;cases h;simp[one?]
  ·cases h
 ·split at h
  ·cases e:sgD _ with
   |none=>rw[e] at h;cases h
   |some s=>rw[e] at h;cases h;simp[one?]
  ·split at h
   ·cases e:cdD _ with
    |none=>rw[e] at h;cases h
    |some s=>rw[e] at h;cases h;simp[one?]
   ·split at h
    ·cases e:nmD _ with
     |none=>rw[e] at h;cases h
     |some s=>rw[e] at h;cases h;simp[one?]
    ·split at h
     ·cases h
     ·cases h
 ·cases h
theorem run0_ones {ds:List PyData} {prev:Bool} {ps:List PC} (h:runG (partG noGo) prev ds=some ps):∀ p∈ps,one? p≠none:=by
 induction ds generalizing prev ps with
 |nil=>cases h;intro p hp;cases hp
 |cons d ds ih=>
  unfold runG at h
  split at h
  ·cases h
  ·rename_i p e
   split at h
   ·cases h
   ·cases e2:runG (partG noGo) p.isPlain ds with
    |none=>rw[e2] at h;cases h
    |some qs=>
     rw[e2] at h
     cases h
     intro q hq
     rcases List.mem_cons.mp hq with rfl |hq
     ·exact part0_one e
     ·exact ih e2 q hq
end Lw
set_option Elab.async false
set_option linter.all false
set_option maxRecDepth 100000
namespace L2
open PySem PySem.Spec PyProof.Rows
theorem Offs.toDif {H0 H:Hp} {W:Addr->Prop} {vs:List V} {ds:List PyData} (h:Offs W H vs ds) (hW:∀ b,H0 b≠none->W b):DnAll (dif H0 H) vs ds:=by
 obtain ⟨G,a,b,k⟩:=h
 refine k.same fun c o e=>?_
 have:H0 c=none:=Classical.byContradiction fun z=>by rw[b c (hW c z)] at e;cases e
 rw[dif_at this]
 exact a _ _ e
theorem lc_newD {K:PySem.W.Frag} {a:Addr} {xs:List V} {k:Nat} {fr:List Nat} {g:TG} {tt:TT} {te:TE} {σ:St} {H0:Hp} {Q:Addr->Hp->Prop} (f:Nat->PyData) (hx:SqL K H0 a xs) (hl:xs.length<=100000)
  (ht:∀ (i:Nat) x,xs[i]? = some x->∀ H',Same H0 H'->∀ (C:V->Hp->Prop) (N:Hp->Prop),(∀ v H4,Same H' H4->Dn (dif H' H4) v (f i)->C v H4) →
   g x (nfS k fr σ) H' fun σ2 H2=>nfLe k fr σ σ2/\tt σ2 H2 fun b H3=>if b=true then te σ2 H3 C else N H3)
  (hq:∀ D H',H0 D=none->Same H0 H'->Dn (dif H0 H') (.ref D) (.list ((List.range xs.length).map f))->Q D H'):rLC k fr g tt te σ (Itl K a) H0 Q:=by
 intro D hD
 refine ⟨fun i m acc H=>m=xs.length - i/\i<=xs.length/\Same H0 H/\H D=some (.lst acc)/\Offs (fun b=>b=D ∨ H0 b≠none) H acc ((List.range i).map f),⟨xs.length,by simp,Nat.zero_le _,same_new hD _,upd_same, .nil⟩,?_⟩
 rintro i m acc H ⟨rfl,hi,sm,hDa,hof⟩
 refine ⟨hDa,?_⟩
 have hal:acc.length=i:=by rw[hof.len,List.length_map,List.length_range]
 by_cases hlt:i < xs.length
 ·refine .inr ⟨⟨xs,xs[i],sm.seq hx,by simp[hlt]⟩,fun x H' y=>?_⟩
  obtain ⟨e,y⟩:=y
  rw[e]
  refine ht i x (y xs (sm.seq hx)) _ sm _ _ fun v H4 s4 dv=>?_
  have o4:Off (fun b=>b=D ∨ H0 b≠none) H4 v (f i):=Off.new dv fun b hb=>by
   rcases hb with rfl |hb
   ·rw[hDa];simp
   ·cases q:H0 b with
    |none=>exact absurd q hb
    |some o=>rw[sm _ _ q];simp
  refine ⟨s4 _ _ hDa,by rw[sizeLine_eq];omega,xs.length - (i+1),by omega,rfl,hlt,same_grow hD (sm.trans s4),upd_same,?_⟩
  rw[List.range_succ,List.map_append]
  exact ((hof.same s4).snoc o4).upd (.inl rfl)
 ·have e:i=xs.length:=by omega
  subst e
  exact .inl ⟨⟨xs,sm.seq hx,Nat.le_refl _⟩,hq D H hD sm (.lst (by rw[dif_at hD];exact hDa) (hof.toDif fun b hb => .inr hb) (by omega))⟩
end L2
namespace Lw
open PySem L2 Lm
theorem s_no1 {t:TT} {f u:TS} {D:Ends} {σ:St} {H:Hp} (ht:Tells t σ H false) (k:∀ H',Same H H'->u D σ H'):tSeq (tIfS t f tNext) u D σ H:=s_if false ht (fun _ _ z=>Bool.noConfusion z) (fun H' s' _=>k H' s')
theorem s_yes {t:TT} {f g u:TS} {D:Ends} {σ:St} {H:Hp} (ht:Tells t σ H true) (k:∀ H',Same H H'->f { D with nx:=u D } σ H'):tSeq (tIfS t f g) u D σ H:=s_if true ht (fun H' s' _=>k H' s') (fun _ _ z=>Bool.noConfusion z)
theorem t_isT {K:PySem.W.Frag} {σ:St} {H:Hp} {ta:TE} {v:V} {d:PyData} {T:String} {b:Bool} (ev:Ev ta σ H v) (h:Dn H v d) (hb:PySem.W.kitOne K (.type (tyD d)) (.type T)=some b):Tells (tB (tCB (rIsT K) (tCons ta (tCons (tC (.ty T)) tNil)))) σ H b:=
 fun R k=>ev _ ⟨_,_,_,_,rfl,h.ty,hb,_,rfl,k _ (Same.refl _)⟩
theorem t_hasS {σ:St} {H:Hp} {ta:TE} {x y:Str} (h:Ev ta σ H (.str x)):Tells (tTest (tOp (fun x y H Q=>∃ i j,x = .str i/\y = .str j/\Q (.bl (!(Builtin.Str.occurrences j i 0 j.length 1).isEmpty)) H) (tC (.str y)) ta)) σ H (hasS y x):=fun R k=>h _ ⟨_,_,rfl,rfl,_,rfl,k _ (Same.refl _)⟩
theorem t_eqS {σ : St} {H : Hp} {ta tb : TE} {x y : Str} (h1 : Ev ta σ H (.str x)) (h2 : Ev tb σ H (.str y)) : Tells (tTest (tOp rEq ta tb)) σ H (decide (x = y)) := fun R k => h1 _ (h2 _ ⟨rfl,_,rfl,by
 rw[show decide (V.str x=V.str y)=decide (x=y) by rw[decide_eq_decide];exact ⟨fun z=>V.str.inj z,fun z=>by rw[z]⟩]
 exact k _ (Same.refl _)⟩)
theorem Dn.strCase {H:Hp} {v:V} {d:PyData} (h:Dn H v d):(∃ x,v = .str x/\d = .str x/\StrG x) ∨ ((tyD d=="str")=false/\∀ x,d ≠ .str x):=by
 cases h with
 |str x a b=>exact .inl ⟨x,rfl,rfl,a,b⟩
 |non=>exact .inr ⟨rfl,fun _ z=>nomatch z⟩
 |bl _=>exact .inr ⟨rfl,fun _ z=>nomatch z⟩
 |int _=>exact .inr ⟨rfl,fun _ z=>nomatch z⟩
 |lst _ _ _=>exact .inr ⟨rfl,fun _ z=>nomatch z⟩
 |tup _ _=>exact .inr ⟨rfl,fun _ z=>nomatch z⟩
theorem Dn.tupCase {H:Hp} {v:V} {d:PyData} (h:Dn H v d):(∃ a xs ds,v = .ref a/\d = .tuple ds/\H a=some (.tup xs)/\DnAll H xs ds) ∨ ((tyD d=="tuple")=false/\∀ ds,d ≠ .tuple ds):=by
 cases h with
 |tup e r=>exact .inl ⟨_,_,_,rfl,rfl,e,r⟩
 |str x a b=>exact .inr ⟨rfl,fun _ z=>nomatch z⟩
 |non=>exact .inr ⟨rfl,fun _ z=>nomatch z⟩
 |bl _=>exact .inr ⟨rfl,fun _ z=>nomatch z⟩
 |int _=>exact .inr ⟨rfl,fun _ z=>nomatch z⟩
 |lst _ _ _=>exact .inr ⟨rfl,fun _ z=>nomatch z⟩
theorem Dn.lstCase {H:Hp} {v:V} {d:PyData} (h:Dn H v d):(∃ a xs ds,v = .ref a/\d = .list ds/\H a=some (.lst xs)/\DnAll H xs ds/\ds.length<=100000) ∨ ((tyD d=="list")=false/\∀ ds,d ≠ .list ds):=by
 cases h with
 |lst e r l=>exact .inl ⟨_,_,_,rfl,rfl,e,r,by rw[<- r.len];exact l⟩
 |str x a b=>exact .inr ⟨rfl,fun _ z=>nomatch z⟩
 |non=>exact .inr ⟨rfl,fun _ z=>nomatch z⟩
 |bl _=>exact .inr ⟨rfl,fun _ z=>nomatch z⟩
 |int _=>exact .inr ⟨rfl,fun _ z=>nomatch z⟩
 |tup _ _=>exact .inr ⟨rfl,fun _ z=>nomatch z⟩
theorem P1s.toC {c:Cp} {H:Hp}:∀ {as:List Addr} {ps:List P1},P1s c H as ps->PCs c H as (ps.map .one)
 | [],[],_=>trivial
 |_::_,_::_,⟨a,b⟩=>⟨a,b.toC⟩
def spStr (BT:Addr) (f:PyData->Option Str):Sp:=fun vs H Q E=>∃ v d,vs=[v]/\Dn H v d/\(∀ x,f d=some x->StrG x->v = .str x->∀ H',Same H H'->Q v H')/\(f d=none->∀ H',Same H H'->E (.ref BT) none H')
def spTolds (c:Cp) (R:PC->Prop):Sp:=fun vs H Q _=>∃ (l:Addr) (as:List Addr) (ps:List PC),vs=[.ref l]/\H l=some (.lst (as.map V.ref))/\PCs c H as ps/\(∀ p∈ps,R p)/\as.length<=100000/\∀ r H',Same H H'->Dn (dif H H') (.ref r) (.list (ps.map dP))->Q (.ref r) H'
def spTold (c:Cp) (R:PC->Prop):Sp:=fun vs H Q _=>∃ a p,vs=[.ref a]/\PCAt c H a p/\R p/\∀ v H',Same H H'->Dn (dif H H') v (dP p)->Q v H'
def ToldV (P:Program) (w:World) (K:PySem.W.Frag) (mg:Str->Option Value) (base:Heap) (k:Nat) (c:Cp) (R:PC->Prop):Prop:=
 ∀ p,R p->∀ H a,PCAt c H a p->∃ C dx fs sp,H a=some (.ins C dx fs)/\fs.lookup ("told":Str)=none/\MethV P w K mg base k C "told" ["self"] sp/\∀ Q E,(∀ v H',Same H H'->Dn (dif H H') v (dP p)->Q v H')->sp [.ref a] H Q E
def spRun (K:PySem.W.Frag) (BT:Addr) (c:Cp) (st:Bool):Sp:=fun vs H Q E=>∃ v,vs=[v, .bl st] ∧
 ((∃ a xs ds,v = .ref a/\H a=some (.lst xs)/\DnAll H xs ds/\ds.length<=100000/\(∀ ps,runG (partD st) false ds=some ps->∀ r as H',Same H H'->H r=none->H' r=some (.lst (as.map V.ref))->PCs c (dif H H') as ps->Q (.ref r) H')/\(runG (partD st) false ds=none->∀ H',Same H H'->E (.ref BT) none H')) ∨
   ((∃ t,TyOf K H v t/\PySem.W.kitOne K t (.type "list")=some false)/\∀ H',Same H H'->E (.ref BT) none H'))
def spPart (BT:Addr) (c:Cp) (st:Bool):Sp:=fun vs H Q E=>∃ v d,vs=[v, .bl st]/\Dn H v d/\(∀ p,partD st d=some p->∀ a H',Same H H'->PCAt c (dif H H') a p->Q (.ref a) H')/\(partD st d=none->∀ H',Same H H'->E (.ref BT) none H')
def spInner (BT:Addr) (c:Cp):Sp:=fun vs H Q E=>∃ v d,vs=[v]/\Dn H v d/\(∀ ps,innerD d=some ps->∀ r as H',Same H H'->H r=none->H' r=some (.lst (as.map V.ref))->P1s c (dif H H') as ps->Q (.ref r) H')/\(innerD d=none->∀ H',Same H H'->E (.ref BT) none H')
def spNeed (K:PySem.W.Frag) (BT:Addr) (c:Cp):Sp:=fun vs H Q E=>∃ v,vs=[v] ∧
 ((∃ a xs ds,v = .ref a/\H a=some (.lst xs)/\DnAll H xs ds/\ds.length<=100000/\(∀ ps,normD (.list ds)=some ps->∀ r as H',Same H H'->H r=none->H' r=some (.lst (as.map V.ref))->PCs c (dif H H') as ps->Q (.ref r) H')/\(normD (.list ds)=none->∀ H',Same H H'->E (.ref BT) none H')) ∨
   ((∃ t,TyOf K H v t/\PySem.W.kitOne K t (.type "list")=some false)/\∀ H',Same H H'->E (.ref BT) none H'))
def isNmD:PyData->Bool
 | .str x=>isNameC x.cps.toList
 |_=>false
theorem isNm_S (l:List Nat):isNmD (.str (S l))=isNameC l:=by
 show isNameC (S l).cps.toList=_
 rw[S_list]
def spNameD:Sp:=fun vs H Q _=>∃ v d,vs=[v]/\Dn H v d/\∀ H',Same H H'->Q (.bl (isNmD d)) H'
end Lw
namespace Lw
open PySem L2 Lm
theorem ev_lenS {K:PySem.W.Frag} {σ:St} {H:Hp} {ta:TE} {p:Addr} {xs:List V} (h:Ev ta σ H (.ref p)) (hq:SqL K H p xs ∨ SqT K H p xs):Ev (tCB (fun xs H Q=>∃ p ys,xs=[.ref p]/\(SqL K H p ys ∨ SqT K H p ys)/\Q (.int ys.length) H) (tCons ta tNil)) σ H (.int xs.length):=fun R r=>h _ ⟨p,xs,rfl,hq,r⟩
theorem ev_ixT {K:PySem.W.Frag} {σ:St} {H:Hp} {ta tb:TE} {p:Addr} {xs:List V} {i:Int} {v:V} (h:Ev ta σ H (.ref p)) (hi:Ev tb σ H (.int i)) (hq:SqT K H p xs) (e:atI xs i=some v):Ev (tOp (rIxT K) ta tb) σ H v:=fun R r=>h _ (hi _ ⟨p,xs,i,v,rfl,rfl,hq,e,r⟩)
theorem ev_ixL {K:PySem.W.Frag} {σ:St} {H:Hp} {ta tb:TE} {p:Addr} {xs:List V} {i:Int} {v:V} (h:Ev ta σ H (.ref p)) (hi:Ev tb σ H (.int i)) (hq:SqL K H p xs) (e:atI xs i=some v):Ev (tOp (rIxL K) ta tb) σ H v:=fun R r=>h _ (hi _ ⟨p,xs,i,v,rfl,rfl,hq,e,r⟩)
theorem t_isC {K:PySem.W.Frag} {σ:St} {H:Hp} {ta:TE} {v:V} {t:Value} {C:Addr} {b:Bool} (ev:Ev ta σ H v) (h:TyOf K H v t) (hb:PySem.W.kitOne K t (.ref C)=some b):Tells (tB (tCB (rIsC K) (tCons ta (tCons (tC (.ref C)) tNil)))) σ H b:=
 fun R k=>ev _ ⟨_,_,_,_,rfl,h,hb,_,rfl,k _ (Same.refl _)⟩
theorem t_bv {σ:St} {H:Hp} {ta:TE} {b:Bool} (ev:Ev ta σ H (.bl b)):Tells (tB ta) σ H b:=fun R k=>ev _ ⟨_,rfl,k _ (Same.refl _)⟩
theorem Tells.eq {t:TT} {σ:St} {H:Hp} {a b:Bool} (h:Tells t σ H a) (e:a=b):Tells t σ H b:=e▸h
theorem partD_3 {st:Bool} {k:Str} {a b:PyData}:partD st (.tuple [.str k,a,b])=if k=kLink then (lnD a b).map .one else none:=rfl
theorem partD_2 {st:Bool} {k:Str} {a:PyData}:partD st (.tuple [.str k,a])=if k=kPlain then (sgD a).map fun s => .one (.plain s) else if k=kCode then (cdD a).map fun s => .one (.code s) else if k=kNote then (nmD a).map fun s => .one (.note s) else if k=kStrong then ((if st then innerD else noGo) a).map .strong else none:=rfl
theorem kinds:kPlain≠kCode/\kPlain≠kNote/\kPlain≠kStrong/\kCode≠kNote/\kCode≠kStrong/\kNote≠kStrong/\kPlain≠kLink/\kCode≠kLink/\kNote≠kLink/\kStrong≠kLink:=by decide +kernel
end Lw
set_option linter.all false
namespace Lm
end Lm
set_option linter.all false
namespace Lm
open PySem Builtin.Str
theorem ends_S (l:List Nat) (c:Nat):Txt.endswith (S l) (S [c])=decide (l.getLast? = some c):=by
 unfold Txt.endswith
 rw[subAt_S,S_len,S_len,Nat.zero_add]
 rw[Bool.eq_iff_iff,Bool.and_eq_true,decide_eq_true_iff,decide_eq_true_iff,decide_eq_true_iff]
 rcases List.eq_nil_or_concat l with rfl |⟨q,x,rfl⟩
 ·simp
 ·rw[List.concat_eq_append,List.getLast?_concat,List.length_append]
  show q.length+1 ≥ 1/\((q++[x]).drop (q.length+1 - 1)).take 1=[c] ↔ _
  rw[Nat.add_sub_cancel,List.drop_left]
  simp
end Lm
set_option Elab.async false
set_option linter.all false
set_option maxRecDepth 100000
namespace L2
open PySem PySem.Spec PyProof.Rows
theorem op_mulB {X:Cx}:OpR X (binaryOp .Mult) (rI IntMulOk fun i j => .int (i * j)):=opI fun _ _ _ _ _ _ _ hc q=>mul_int q hc
end L2
namespace Lm
open PySem PySem.Builtin PySem.Builtin.Str PySem.StrLaws
def nd:List Nat->Bool
 |a::b::r => !(a==32&&b==32)&&nd (b::r)
 |_=>true
theorem nd_tail {a:Nat} {r:List Nat} (h:nd (a::r)=true):nd r=true:=by
 cases r with
 |nil=>rfl
 |cons b r=>unfold nd at h;rw[Bool.and_eq_true] at h;exact h.2
theorem nd_drop:∀ {l:List Nat} (i:Nat),nd l=true->nd (l.drop i)=true
 |l,0,h=>h
 | [],i+1,h=>rfl
 |a::l,i+1,h=>nd_drop i (nd_tail h)
theorem nd_app:∀ {a b:List Nat},nd a=true->nd b=true->¬ (a.getLast? = some 32/\b.head? = some 32)->nd (a++b)=true
 | [],b,_,h,_=>h
 | [x],[],_,_,_=>rfl
 | [x],y::b,_,h,k=>by
  show nd (x::y::b)=true
  unfold nd
  rw[h,Bool.and_true]
  by_cases hx:x=32
  ·by_cases hy:y=32
   ·exact absurd ⟨by rw[hx];rfl,by rw[hy];rfl⟩ k
   ·simp[hy]
  ·simp[hx]
 |x::y::a,b,h1,h2,k=>by
  have h3:=nd_tail h1
  have ih:=nd_app (a:=y::a) (b:=b) h3 h2 (fun z=>k ⟨by rw[List.getLast?_cons_cons];exact z.1,z.2⟩)
  show nd (x::y::(a++b))=true
  unfold nd
  rw[Bool.and_eq_true]
  unfold nd at h1
  rw[Bool.and_eq_true] at h1
  exact ⟨h1.1,ih⟩
theorem nd_free {l:List Nat} (h:32∉l):nd l=true:=by
 induction l with
 |nil=>rfl
 |cons a l ih=>
  cases l with
  |nil=>rfl
  |cons b l=>
   unfold nd
   rw[ih (fun z=>h (List.mem_cons_of_mem _ z)),Bool.and_true]
   have:a≠32:=fun z=>h (by rw[z];exact List.mem_cons_self)
   simp[this]
def Sg (l:List Nat):Prop:=∀ c∈l,32<=c/\c<=126
theorem Sg.asc {l:List Nat} (h:Sg l):Asc l:=fun c hc=>by have:=h c hc;omega
theorem Sg.app {a b:List Nat} (h:Sg a) (k:Sg b):Sg (a++b):=fun c hc=>(List.mem_append.mp hc).elim (h c) (k c)
end Lm
namespace Lw
open PySem L2 Lm PySem.Builtin.Str
theorem has_none {l y:List Nat} (h:∀ i,¬ (i+y.length<=l.length/\(l.drop i).take y.length=y)):hasS (S y) (S l)=false:=by
 unfold hasS
 rw[Bool.eq_false_iff]
 intro z
 obtain ⟨i,h1,h2⟩:=(StrLaws.found_iff (S l) (S y)).mp z
 refine h i ((At_S l y i).mp ⟨h1,h2⟩)
theorem has_one {l:List Nat} {c:Nat} (h:c∉l):hasS (S [c]) (S l)=false:=by
 unfold hasS
 rw[contains_S]
 simpa using h
theorem okSg_of {l:List Nat} (hne:l≠[]) (hs:Sg l) (hn:nd l=true):okSg (S l)=true:=by
 have h0:¬ S l=("":Str):=fun z=>hne (S_inj (b:=[]) z)
 have h1:hasS "  " (S l)=false:=has_none (y:=[32,32]) fun i ⟨hi,e⟩=>by
  have:=nd_drop i hn
  have hl:(l.drop i)=32::32::(l.drop i).drop 2:=by
   conv=>lhs;rw[<- List.take_append_drop 2 (l.drop i)]
   rw[show (l.drop i).take 2=[32,32] from e]
   rfl
  rw[hl] at this
  unfold nd at this
  simp at this
 have h2:hasS "\t" (S l)=false:=has_one (c:=9) fun z=>by have:=hs 9 z;omega
 have h3:hasS "\n" (S l)=false:=has_one (c:=10) fun z=>by have:=hs 10 z;omega
 unfold okSg
 rw[h1,h2,h3,decide_eq_false h0]
 rfl
theorem strG_of {l:List Nat} (hs:Sg l) (hl:l.length<=100000):StrG (S l):=⟨strOk_S hs.asc,by rw[S_len];exact hl⟩
def mixF (c k:Int):Int:=(c+7919 * k * k+13 * k+5) * (c+7919 * k * k+13 * k+5) % 1000000007 * 48271 % 998244353 / 11
theorem mixF_ok (c k:Int):0<=mixF c k/\mixF c k<=90749486:=by
 unfold mixF
 have h1:=Int.emod_nonneg ((c+7919 * k * k+13 * k+5) * (c+7919 * k * k+13 * k+5) % 1000000007 * 48271) (show (998244353:Int)≠0 by omega)
 have h2:=Int.emod_lt_of_pos ((c+7919 * k * k+13 * k+5) * (c+7919 * k * k+13 * k+5) % 1000000007 * 48271) (show (0:Int) < 998244353 by omega)
 omega
def mnLet:List Nat:=[97,98,99,100,101,102,103,104,105,106,107,108,109,110,111,112,113,114,115,116,117,118,119,120,121,122,65,66,67,68,69,70,71,72,73,74,75,76,77,78,79,80,81,82,83,84,85,86,87,88,89,90,48,49,50,51,52,53,54,55,56,57]
def mnMark:List Nat:=[92,42,96,91,93,124,45,43,61,62,126,58,94,40,41]
def mnMore:List Nat:=[33,34,35,36,38,39,44,46,47,59,60,63,64,95,123,125]
def menuF (k:Int):List Nat:=if k % 3=0 then mnLet else if k % 3=1 then mnMark++[97,98] else mnLet++mnMark++mnMore
def Menu (m:List Nat):Prop:=0 < m.length/\m.length<=1000/\∀ c∈m,33<=c/\c<=126
theorem menu_let:Menu mnLet:=⟨by decide,by decide,by decide⟩
theorem menu_ok (k:Int):Menu (menuF k):=by
 unfold menuF
 split
 ·exact menu_let
 ·split
  ·exact ⟨by decide,by decide,by decide⟩
  ·exact ⟨by decide,by decide,by decide⟩
def sgStep (t:Nat) (n:Int):Int:=(n * 48271+7 * (t:Int) * (t:Int)+11) % 2147483647
def sgGo (m:List Nat) (n0:Int):Nat->Int×List Nat
 |0=>(n0,[])
 |t+1=>(sgStep t (sgGo m n0 t).1,(sgGo m n0 t).2++[m.getD (sgStep t (sgGo m n0 t).1 / 13 % (m.length:Int)).toNat 0])
def signsF (n size:Int) (m:List Nat):List Nat:=(sgGo m n size.toNat).2
theorem sg_at {m:List Nat} (h:Menu m) (x:Int):0<=x % (m.length:Int)/\(x % (m.length:Int)).toNat < m.length:=by
 have h1:=Int.emod_nonneg x (show (m.length:Int)≠0 by have:=h.1;omega)
 have h2:=Int.emod_lt_of_pos x (show (0:Int) < (m.length:Int) by have:=h.1;omega)
 omega
theorem sgGo_ok {m:List Nat} (h:Menu m) (n0:Int):∀ t:Nat,(sgGo m n0 t).2.length=t/\(∀ c∈(sgGo m n0 t).2,c∈m)
 |0=>⟨rfl,fun _ z=>nomatch z⟩
 |t+1=>by
  obtain ⟨h1,h2⟩:=sgGo_ok h n0 t
  refine ⟨by show ((sgGo m n0 t).2++[_]).length=_;rw[List.length_append,h1];rfl,fun c hc=>?_⟩
  rcases List.mem_append.mp (show c∈(sgGo m n0 t).2++[_] from hc) with z |z
  ·exact h2 c z
  ·rw[List.mem_singleton.mp z,List.getD_eq_getElem?_getD,List.getElem?_eq_getElem (sg_at h _).2]
   exact List.getElem_mem _
def Wrd (l:List Nat):Prop:=l≠[]/\∀ c∈l,33<=c/\c<=126
theorem signs_ok {m:List Nat} (h:Menu m) (n size:Int) (hs:1<=size):Wrd (signsF n size m)/\(signsF n size m).length=size.toNat:=by
 obtain ⟨h1,h2⟩:=sgGo_ok h n size.toNat
 refine ⟨⟨fun z=>?_,fun c hc=>h.2.2 c (h2 c hc)⟩,h1⟩
 have:(signsF n size m).length=size.toNat:=h1
 rw[z] at this
 simp at this
 omega
structure Tdy (l:List Nat):Prop where
 ne:l≠[]
 sg:Sg l
 nd:nd l=true
 hd:l.head? ≠ some 32
 la:l.getLast? ≠ some 32
theorem Wrd.tdy {l:List Nat} (h:Wrd l):Tdy l:=by
 have hb:32∉l:=fun z=>by have:=h.2 32 z;omega
 refine ⟨h.1,fun c hc=>by have:=h.2 c hc;omega,nd_free hb,fun z=>?_,fun z=>?_⟩
 ·exact hb (List.mem_of_head? z)
 ·exact hb (List.mem_of_getLast? z)
theorem head_app {a b:List Nat} (h:a≠[]):(a++b).head? = a.head? := by
 cases a with
 |nil=>exact absurd rfl h
 |cons x a=>rfl
theorem glast_app {a b:List Nat} (h:b≠[]):(a++b).getLast? = b.getLast? := by
 rw[List.getLast?_append]
 cases e:b.getLast? with
 |none=>exact absurd (List.getLast?_eq_none_iff.mp e) h
 |some x=>rfl
theorem Tdy.join {a b:List Nat} (h:Tdy a) (k:Tdy b):Tdy (a++[32]++b):=by
 have e:a++[32]++b=a++([32]++b):=List.append_assoc ..
 refine ⟨by simp,(h.sg.app (by intro c hc;rw[List.mem_singleton.mp hc];omega)).app k.sg,?_,?_,?_⟩
 ·rw[e]
  refine nd_app h.nd (nd_app rfl k.nd fun z=>k.hd z.2) fun z=>h.la z.1
 ·rw[e,head_app h.ne];exact h.hd
 ·rw[glast_app k.ne];exact k.la
theorem glue_tdy:∀ {ws:List (List Nat)},ws≠[]->(∀ w∈ws,Wrd w)->Tdy (glueC [32] ws)
 | [w],_,h=>(h w List.mem_cons_self).tdy
 |w::v::r,_,h=>by
  rw[glueC_cons _ _ _ (by simp)]
  exact (h w List.mem_cons_self).tdy.join (glue_tdy (by simp) fun x hx=>h x (List.mem_cons_of_mem _ hx))
theorem glue_len {n:Nat}:∀ {ws:List (List Nat)},(∀ w∈ws,w.length<=n)->(glueC [32] ws).length<=(n+1) * ws.length
 | [],_=>by simp[glueC]
 | [w],h=>by have:=h w List.mem_cons_self;show w.length<=_;simp;omega
 |w::v::r,h=>by
  have ih:=glue_len (ws:=v::r) fun x hx=>h x (List.mem_cons_of_mem _ hx)
  have:=h w List.mem_cons_self
  rw[glueC_cons _ _ _ (by simp),List.length_append,List.length_append]
  simp only[List.length_cons,List.length_nil,Nat.mul_add,Nat.mul_one] at ih ⊢
  omega
def ownF (n:Int) (t:Nat):Int:=mixF n (3 * (t:Int)+1)
def wordF (n:Int) (t:Nat):List Nat:=signsF (ownF n t) (1+ownF n t / 7 % 6) (menuF (ownF n t / 50))
def textF (n most:Int):List Nat:=glueC [32] ((List.range (1+n % most).toNat).map (wordF n))
theorem word_ok (n:Int) (t:Nat):Wrd (wordF n t)/\(wordF n t).length<=6:=by
 have h:=signs_ok (menu_ok (ownF n t / 50)) (ownF n t) (1+ownF n t / 7 % 6) (by omega)
 exact ⟨h.1,by rw[show wordF n t=signsF (ownF n t) (1+ownF n t / 7 % 6) (menuF (ownF n t / 50)) from rfl,h.2];omega⟩
theorem text_ok (n most:Int) (h1:1<=most) (h2:most<=100):Tdy (textF n most)/\(textF n most).length<=700:=by
 have hm:=Int.emod_nonneg n (show most≠0 by omega)
 have hm2:=Int.emod_lt_of_pos n (show 0 < most by omega)
 refine ⟨glue_tdy (fun z=>?_) fun w hw=>?_,Nat.le_trans (glue_len (n:=6) fun w hw=>?_) ?_⟩
 ·have:=congrArg List.length z
  rw[List.length_map,List.length_range] at this
  simp at this
  omega
 ·obtain ⟨t,_,rfl⟩:=List.mem_map.mp hw
  exact (word_ok n t).1
 ·obtain ⟨t,_,rfl⟩:=List.mem_map.mp hw
  exact (word_ok n t).2
 ·rw[List.length_map,List.length_range]
  omega
def nameF (n:Int):List Nat:=
 if n % 3=0 then signsF (n / 40) (1+n / 3 % 12) mnLet
 else List.replicate (n / 40 % (1+n / 3 % 12)).toNat 110++signsF (n / 500) 1 mnLet++List.replicate (1+n / 3 % 12 - 1 - n / 40 % (1+n / 3 % 12)).toNat 110
theorem let_in:∀ c∈mnLet,nameSigns.contains c=true:=by decide
theorem name_ok (n:Int) (h:0<=n):isNameC (nameF n)=true:=by
 have hl:∀ t,∀ c∈(sgGo mnLet t (1+n / 3 % 12).toNat).2,c∈mnLet:=fun t=>(sgGo_ok menu_let t _).2
 have hn:nameSigns.contains 110=true:=by decide
 have key:1<=(nameF n).length/\(nameF n).length<=12/\∀ c∈nameF n,nameSigns.contains c=true:=by
  unfold nameF
  split
  ·have h1:=(signs_ok menu_let (n / 40) (1+n / 3 % 12) (by omega)).2
   refine ⟨by rw[h1];omega,by rw[h1];omega,fun c hc=>let_in c ((sgGo_ok menu_let _ _).2 c hc)⟩
  ·have h1:=(signs_ok menu_let (n / 500) 1 (by omega)).2
   have hm:=Int.emod_nonneg (n / 40) (show 1+n / 3 % 12≠0 by omega)
   have hm2:=Int.emod_lt_of_pos (n / 40) (show 0 < 1+n / 3 % 12 by omega)
   refine ⟨?_,?_,fun c hc=>?_⟩
   ·rw[List.length_append,List.length_append,h1,List.length_replicate,List.length_replicate];omega
   ·rw[List.length_append,List.length_append,h1,List.length_replicate,List.length_replicate];omega
   ·rcases List.mem_append.mp hc with z |z
    ·rcases List.mem_append.mp z with z |z
     ·rw[(List.mem_replicate.mp z).2];exact hn
     ·exact let_in c ((sgGo_ok menu_let _ _).2 c z)
    ·rw[(List.mem_replicate.mp z).2];exact hn
 unfold isNameC
 rw[decide_eq_true key.1,decide_eq_true key.2.1,Bool.true_and,Bool.true_and,List.all_eq_true]
 exact key.2.2
def endsF (l:List Nat) (n:Int):List Nat:=(if n % 4=1 then [32] else [])++l++(if n / 4 % 4=1 then [32] else [])
structure Edg (l:List Nat):Prop where
 ne:l≠[]
 sg:Sg l
 nd:nd l=true
 len:l.length<=90000
theorem ends_ok {l:List Nat} (h:Tdy l) (hl:l.length<=80000) (n:Int):Edg (endsF l n):=by
 unfold endsF
 have hb:Sg ([32]:List Nat):=by intro c hc;rw[List.mem_singleton.mp hc];omega
 have h1:∀ b:Bool,Sg (if b then [32] else [])/\nd (if b then [32] else [])=true/\(if b then [32] else []:List Nat).length<=1:=fun b=>by cases b;exact ⟨(fun _ z=>nomatch z),rfl,by simp⟩;exact ⟨hb,rfl,by simp⟩
 have e1:=h1 (decide (n % 4=1))
 have e2:=h1 (decide (n / 4 % 4=1))
 simp only[decide_eq_true_eq] at e1 e2
 refine ⟨?_,(e1.1.app h.sg).app e2.1,?_,?_⟩
 ·intro z
  have h3:=congrArg List.length z
  rw[List.length_append,List.length_append,List.length_nil] at h3
  exact h.ne (List.eq_nil_of_length_eq_zero (by omega))
 ·refine nd_app (nd_app e1.2.1 h.nd fun z=>h.hd z.2) e2.2.1 fun z=>?_
  rw[glast_app h.ne] at z
  exact h.la z.1
 ·rw[List.length_append,List.length_append]
  have:=e1.2.2
  have:=e2.2.2
  omega
theorem Edg.cons {l:List Nat} (h:Edg l) (c:Nat) (h1:33<=c) (h2:c<=126):Edg (c::l) ∨ l.length=90000:=by
 by_cases z:l.length=90000
 ·exact .inr z
 ·refine .inl ⟨by simp,?_,nd_app (a:=[c]) rfl h.nd fun q=>by (have:c=32:=by simpa using q.1);omega,by have:=h.len;rw[List.length_cons];omega⟩
  intro x hx
  rcases List.mem_cons.mp hx with rfl |hx
  ·omega
  ·exact h.sg x hx
theorem Edg.ok {l:List Nat} (h:Edg l):okSg (S l)=true:=okSg_of h.ne h.sg h.nd
theorem Edg.str {l:List Nat} (h:Edg l):StrG (S l):=strG_of h.sg (by have:=h.len;omega)
def P1Ok:P1->Prop
 | .plain s=>okSg s=true/\StrG s
 | .code s=>okCd s=true/\StrG s
 | .link w n=>(okSg w=true/\StrG w)/\okNm n=true/\StrG n
 | .note n=>okNm n=true/\StrG n
def P1.isPlain:P1->Bool
 | .plain _=>true
 |_=>false
def kd1:P1->Str
 | .plain _=>kPlain
 | .code _=>kCode
 | .link _ _=>kLink
 | .note _=>kNote
def kdP:PC->Str
 | .one p=>kd1 p
 | .strong _=>kStrong
def Alt:Bool->List Bool->Prop
 |_,[]=>True
 |prev,b::r=>¬ (prev=true/\b=true)/\Alt b r
def PCOk:PC->Prop
 | .one p=>P1Ok p
 | .strong ps=>ps≠[]/\ps.length<=100000/\(∀ p∈ps,P1Ok p)/\Alt false (ps.map P1.isPlain)
theorem partG_2 {go:PyData->Option (List P1)} {k:Str} {a:PyData}:partG go (.tuple [.str k,a])=if k=kPlain then (sgD a).map fun s=>PC.one (.plain s) else if k=kCode then (cdD a).map fun s=>PC.one (.code s) else if k=kNote then (nmD a).map fun s=>PC.one (.note s) else if k=kStrong then (go a).map PC.strong else none:=rfl
theorem partG_3 {go:PyData->Option (List P1)} {k:Str} {a b:PyData}:partG go (.tuple [.str k,a,b])=if k=kLink then (lnD a b).map PC.one else none:=rfl
theorem part_one {go:PyData->Option (List P1)}:∀ {p:P1},P1Ok p->partG go (d1 p)=some (.one p)
 | .plain s,h=>by
  rw[show d1 (.plain s) = .tuple [.str kPlain, .str s] from rfl,partG_2,if_pos rfl,show sgD (.str s)=some s from if_pos h.1]
  rfl
 | .code s,h=>by
  obtain ⟨n1,_⟩:=kinds
  rw[show d1 (.code s) = .tuple [.str kCode, .str s] from rfl,partG_2,if_neg (Ne.symm n1),if_pos rfl,show cdD (.str s)=some s from if_pos h.1]
  rfl
 | .note s,h=>by
  obtain ⟨n1,n2,n3,n4,_⟩:=kinds
  rw[show d1 (.note s) = .tuple [.str kNote, .str s] from rfl,partG_2,if_neg (Ne.symm n2),if_neg (Ne.symm n4),if_pos rfl,show nmD (.str s)=some s from if_pos h.1]
  rfl
 | .link w n,h=>by
  rw[show d1 (.link w n) = .tuple [.str kLink, .str w, .str n] from rfl,partG_3,if_pos rfl]
  unfold lnD
  rw[show sgD (.str w)=some w from if_pos h.1.1,show nmD (.str n)=some n from if_pos h.2.1]
  rfl
theorem run_of {part:PyData->Option PC}:∀ {ps:List PC} {prev:Bool},(∀ p∈ps,part (dP p)=some p)->Alt prev (ps.map PC.isPlain)->runG part prev (ps.map dP)=some ps
 | [],_,_,_=>rfl
 |p::ps,prev,h,k=>by
  have h1:=h p List.mem_cons_self
  obtain ⟨k1,k2⟩:=k
  show (match part (dP p) with |none=>none |some p=>if prev&&p.isPlain then none else (runG part p.isPlain (ps.map dP)).map (p :: ·))=_
  rw[h1]
  dsimp only
  rw[if_neg (by rw[Bool.and_eq_true];exact k1),run_of (fun q hq=>h q (List.mem_cons_of_mem _ hq)) k2]
  rfl
theorem plain_one (ps:List P1):(ps.map PC.one).map PC.isPlain=ps.map P1.isPlain:=by
 rw[List.map_map]
 refine List.map_congr_left fun p _=>?_
 cases p <;> rfl
theorem ones_one:∀ ps:List P1,ones (ps.map PC.one)=ps
 | []=>rfl
 |p::ps=>by
  have:=ones_one ps
  unfold ones at this ⊢
  rw[List.map_cons,List.filterMap_cons,one?,this]
theorem inner_of {ps:List P1} (h:PCOk (.strong ps)):innerD (.list (ps.map d1))=some ps:=by
 obtain ⟨h1,_,h3,h4⟩:=h
 have hr:runG (partG noGo) false ((ps.map PC.one).map dP)=some (ps.map PC.one):=run_of (fun p hp=>by obtain ⟨q,hq,rfl⟩:=List.mem_map.mp hp;exact part_one (h3 q hq)) (by rw[plain_one];exact h4)
 have e:(ps.map PC.one).map dP=ps.map d1:=by rw[List.map_map];rfl
 rw[e] at hr
 show (match runG (partG noGo) false (ps.map d1) with |some (p::ps)=>some (ones (p::ps)) |_=>none)=_
 rw[hr]
 cases ps with
 |nil=>exact absurd rfl h1
 |cons p ps=>exact congrArg some (ones_one (p::ps))
theorem part_of {p:PC} (h:PCOk p):partD true (dP p)=some p:=by
 cases p with
 |one p=>exact part_one h
 |strong ps=>
  obtain ⟨n1,n2,n3,n4,n5,n6,_⟩:=kinds
  rw[show dP (.strong ps) = .tuple [.str kStrong, .list (ps.map d1)] from rfl,partD_2,if_neg (Ne.symm n3),if_neg (Ne.symm n5),if_neg (Ne.symm n6),if_pos rfl,if_pos rfl,inner_of h]
  rfl
theorem norm_of {ps:List PC} (h:∀ p∈ps,PCOk p) (k:Alt false (ps.map PC.isPlain)) (e:endsOk ps=true):normD (.list (ps.map dP))=some ps:=by
 show (match runG (partD true) false (ps.map dP) with |some ps=>if endsOk ps then some ps else none |none=>none)=_
 rw[run_of (fun p hp=>part_of (h p hp)) k]
 dsimp only
 rw[if_pos e]
def kinds6:List Str:=[kPlain,kPlain,kCode,kLink,kNote,kStrong]
def kinds3:List Str:=[kCode,kLink,kNote]
def kindF (n:Int) (before:Str) (inner:Bool):Str:=
 if (inner=true/\kinds6.getD (n % 6).toNat kPlain=kStrong) ∨ (before=kPlain/\kinds6.getD (n % 6).toNat kPlain=kPlain) then kinds3.getD (n / 6 % 3).toNat kCode else kinds6.getD (n % 6).toNat kPlain
def tickF (l:List Nat):List Nat:=glueC [39] (splitC 96 l)
def smallN (n:Int):Str:=S (smallC (nameF n))
def p1F (n:Int) (before k:Str):P1:=
 if k=kNote then .note (smallN (n / 6 / 3))
 else if k=kLink then .link (S ((if n / 6 % 5=0 then [94] else [])++endsF (textF (mixF (n / 6) 71) 3) (n / 6 / 3))) (smallN (n / 6 / 7))
 else if k=kCode then .code (S (tickF (endsF (textF (mixF (n / 6) 71) 3) (n / 6 / 3))))
 else if before=kNote/\n / 6 % 2=0 then .plain (S (58::endsF (textF (mixF (n / 6) 71) 3) (n / 6 / 3)))
 else .plain (S (endsF (textF (mixF (n / 6) 71) 3) (n / 6 / 3)))
def goF {α:Type} (part:Int->Str->α) (kd:α->Str) (n:Int):Nat->List α×Str
 |0=>([],"")
 |t+1=>((goF part kd n t).1++[part (mixF n ((t:Int)+2)) (goF part kd n t).2],kd (part (mixF n ((t:Int)+2)) (goF part kd n t).2))
def innerF (n:Int) (before:Str):P1:=p1F n before (kindF n before true)
def inF (n:Int) (size:Nat):List P1:=(goF innerF kd1 n size).1
def partF (n:Int) (before:Str):PC:=if kindF n before false=kStrong then .strong (inF (mixF (n / 6) 70) (1+n / 6 % 3).toNat) else .one (p1F n before (kindF n before false))
def lsP:PC->PC
 | .one (.plain s) => .one (.plain (Txt.lstripChars s " "))
 |p=>p
def rsP:PC->PC
 | .one (.plain s) => .one (.plain (Txt.rstripChars s " "))
 |p=>p
def hdL {α:Type} (f:α->α):List α->List α
 | []=>[]
 |a::r=>f a::r
def laL {α:Type} (f:α->α) (l:List α):List α:=(hdL f l.reverse).reverse
def partsF (n:Int) (size:Nat):List PC:=laL rsP (hdL lsP (goF partF kdP n size).1)
theorem tick_map (c z:Nat):∀ l:List Nat,glueC [z] (splitC c l)=l.map fun x=>if x=c then z else x
 | []=>rfl
 |x::r=>by
  have ih:=tick_map c z r
  by_cases h:x=c
  ·subst h
   rw[splitC_sep,glueC_cons _ _ _ (splitC_ne x r),ih,List.map_cons,if_pos rfl]
   rfl
  ·obtain ⟨p,t,e1,e2⟩:=splitC_cons c x r h
   rw[e2,List.map_cons,if_neg h,<- ih,e1]
   cases t with
   |nil=>rfl
   |cons q t=>rfl
theorem nd_map {f:Nat->Nat} (hf:∀ c,f c=32 ↔ c=32):∀ l:List Nat,nd (l.map f)=nd l
 | []=>rfl
 | [a]=>rfl
 |a::b::r=>by
  have ih:=nd_map hf (b::r)
  show (!(f a==32&&f b==32)&&nd (f b::r.map f))=(!(a==32&&b==32)&&nd (b::r))
  have e:∀ c:Nat,(f c==32)=(c==32):=fun c=>by
   rw[Bool.eq_iff_iff]
   simp only[beq_iff_eq]
   exact hf c
  rw[e,e,show nd (f b::r.map f)=nd ((b::r).map f) from rfl,ih]
theorem tick_edg {l:List Nat} (h:Edg l):Edg (tickF l)/\96∉tickF l:=by
 have hm:tickF l=l.map fun x=>if x=96 then 39 else x:=tick_map 96 39 l
 rw[hm]
 refine ⟨⟨fun z=>h.ne (List.map_eq_nil_iff.mp z),fun c hc=>?_,?_,by rw[List.length_map];exact h.len⟩,fun hc=>?_⟩
 ·obtain ⟨x,hx,rfl⟩:=List.mem_map.mp hc
  have:=h.sg x hx
  split <;> omega
 ·rw[nd_map,h.nd]
  intro c
  split <;> omega
 ·obtain ⟨x,hx,e⟩:=List.mem_map.mp hc
  split at e <;> omega
theorem lo1_lo1 (c:Nat):PyProof.Rows.lo1 (PyProof.Rows.lo1 c)=PyProof.Rows.lo1 c:=by
 unfold PyProof.Rows.lo1
 split
 ·rw[if_neg (by omega)]
 ·rfl
theorem lo1_name:∀ c∈nameSigns,nameSigns.contains (PyProof.Rows.lo1 c)=true:=by decide
theorem small_name {l:List Nat} (h:isNameC l=true):isNameC (smallC l)=true/\smallC (smallC l)=smallC l:=by
 unfold isNameC at h ⊢
 rw[Bool.and_eq_true,Bool.and_eq_true] at h
 obtain ⟨⟨h1,h2⟩,h3⟩:=h
 constructor
 ·unfold smallC
  rw[List.length_map,h1,h2,Bool.true_and,Bool.true_and,List.all_eq_true]
  intro c hc
  obtain ⟨x,hx,rfl⟩:=List.mem_map.mp hc
  exact lo1_name x (List.contains_iff_mem.mp (List.all_eq_true.mp h3 x hx))
 ·unfold smallC
  rw[List.map_map]
  exact List.map_congr_left fun c _=>lo1_lo1 c
theorem smallN_ok {n:Int} (h:0<=n):okNm (smallN n)=true/\StrG (smallN n):=by
 obtain ⟨h1,h2⟩:=small_name (name_ok n h)
 refine ⟨?_,strOk_S (name_asc h1),?_⟩
 ·unfold okNm smallN
  rw[S_list,h1,h2,decide_eq_true rfl]
  rfl
 ·unfold smallN
  rw[S_len]
  unfold isNameC at h1
  rw[Bool.and_eq_true,Bool.and_eq_true] at h1
  have:=of_decide_eq_true h1.1.2
  omega
theorem sig_ok (n:Int):Edg (endsF (textF (mixF (n / 6) 71) 3) (n / 6 / 3))/\(endsF (textF (mixF (n / 6) 71) 3) (n / 6 / 3)).length<=702:=by
 have h:=text_ok (mixF (n / 6) 71) 3 (by omega) (by omega)
 refine ⟨ends_ok h.1 (by omega) _,?_⟩
 have:=h.2
 unfold endsF
 rw[List.length_append,List.length_append]
 split <;> split <;> simp <;> omega
def K4 (k:Str):Prop:=k=kNote ∨ k=kLink ∨ k=kCode ∨ k=kPlain
theorem Edg.put {l:List Nat} (h:Edg l) (hl:l.length<=1000) {c:Nat} (h1:33<=c) (h2:c<=126):Edg (c::l):=by
 rcases h.cons c h1 h2 with z |z
 ·exact z
 ·omega
theorem p1F_ok {n:Int} {before k:Str} (h:0<=n) (hk:K4 k):P1Ok (p1F n before k)/\kd1 (p1F n before k)=k:=by
 obtain ⟨n1,n2,n3,n4,n5,n6,n7,n8,n9,n10⟩:=kinds
 obtain ⟨he,hl⟩:=sig_ok n
 unfold p1F
 by_cases h1:k=kNote
 ·subst h1
  rw[if_pos rfl]
  exact ⟨smallN_ok (by omega),rfl⟩
 rw[if_neg h1]
 by_cases h2:k=kLink
 ·subst h2
  rw[if_pos rfl]
  have he2:Edg ((if n / 6 % 5=0 then [94] else [])++endsF (textF (mixF (n / 6) 71) 3) (n / 6 / 3)):=by
   split
   ·exact he.put (by omega) (c:=94) (by omega) (by omega)
   ·exact he
  exact ⟨⟨⟨he2.ok,he2.str⟩,smallN_ok (by omega)⟩,rfl⟩
 rw[if_neg h2]
 by_cases h3:k=kCode
 ·subst h3
  rw[if_pos rfl]
  obtain ⟨t1,t2⟩:=tick_edg he
  refine ⟨⟨?_,t1.str⟩,rfl⟩
  unfold okCd
  rw[t1.ok,show hasS "`" (S (tickF _))=false from has_one (c:=96) t2]
  rfl
 rw[if_neg h3]
 have h4:k=kPlain:=by
  rcases hk with z |z |z |z
  ·exact absurd z h1
  ·exact absurd z h2
  ·exact absurd z h3
  ·exact z
 subst h4
 split
 ·have:=he.put (by omega) (c:=58) (by omega) (by omega)
  exact ⟨⟨this.ok,this.str⟩,rfl⟩
 ·exact ⟨⟨he.ok,he.str⟩,rfl⟩
theorem kindF_in {n:Int} {before:Str} (h:0<=n):K4 (kindF n before true):=by
 obtain ⟨n1,n2,n3,n4,n5,n6,n7,n8,n9,n10⟩:=kinds
 have h6:∀ j:Nat,j < 6->kinds6.getD j kPlain≠kStrong->K4 (kinds6.getD j kPlain):=fun j hj hne=>by
  match j,hj,hne with
  |0,_,_=>exact .inr (.inr (.inr rfl))
  |1,_,_=>exact .inr (.inr (.inr rfl))
  |2,_,_=>exact .inr (.inr (.inl rfl))
  |3,_,_=>exact .inr (.inl rfl)
  |4,_,_=>exact .inl rfl
  |5,_,z=>exact absurd rfl z
 have h3:∀ j:Nat,j < 3->K4 (kinds3.getD j kCode):=fun j hj=>by
  match j,hj with
  |0,_=>exact .inr (.inr (.inl rfl))
  |1,_=>exact .inr (.inl rfl)
  |2,_=>exact .inl rfl
 unfold kindF
 split
 ·exact h3 _ (by omega)
 ·rename_i hc
  refine h6 _ (by omega) fun z=>hc (.inl ⟨rfl,z⟩)
theorem kindF_out {n:Int} {before:Str} (h:0<=n) (hs:kindF n before false≠kStrong):K4 (kindF n before false):=by
 have h6:∀ j:Nat,j < 6->kinds6.getD j kPlain≠kStrong->K4 (kinds6.getD j kPlain):=fun j hj hne=>by
  match j,hj,hne with
  |0,_,_=>exact .inr (.inr (.inr rfl))
  |1,_,_=>exact .inr (.inr (.inr rfl))
  |2,_,_=>exact .inr (.inr (.inl rfl))
  |3,_,_=>exact .inr (.inl rfl)
  |4,_,_=>exact .inl rfl
  |5,_,z=>exact absurd rfl z
 have h3:∀ j:Nat,j < 3->K4 (kinds3.getD j kCode):=fun j hj=>by
  match j,hj with
  |0,_=>exact .inr (.inr (.inl rfl))
  |1,_=>exact .inr (.inl rfl)
  |2,_=>exact .inl rfl
 unfold kindF at hs ⊢
 split
 ·exact h3 _ (by omega)
 ·rename_i hc
  rw[if_neg hc] at hs
  exact h6 _ (by omega) hs
theorem kindF_alt {n:Int} {before:Str} {inner:Bool} (h:0<=n) (hb:before=kPlain):kindF n before inner≠kPlain:=by
 obtain ⟨n1,n2,n3,n4,n5,n6,n7,n8,n9,n10⟩:=kinds
 have h3:∀ j:Nat,j < 3->kinds3.getD j kCode≠kPlain:=fun j hj=>by
  match j,hj with
  |0,_=>exact Ne.symm n1
  |1,_=>exact Ne.symm n7
  |2,_=>exact Ne.symm n2
 unfold kindF
 split
 ·exact h3 _ (by omega)
 ·rename_i hc
  exact fun z=>hc (.inr ⟨hb,z⟩)
theorem nd_rev:∀ {l:List Nat},nd l=true->nd l.reverse=true
 | [],_=>rfl
 | [a],_=>rfl
 |a::b::r,h=>by
  have ih:=nd_rev (l:=b::r) (nd_tail h)
  rw[List.reverse_cons]
  refine nd_app ih rfl fun z=>?_
  rw[List.getLast?_reverse] at z
  have h1:b=32:=Option.some.inj z.1
  have h2:a=32:=Option.some.inj z.2
  unfold nd at h
  rw[h1,h2] at h
  simp at h
def Ink (l:List Nat):Prop:=∃ c∈l,c≠32
theorem dw_drop (p:Nat->Bool):∀ l:List Nat,∃ k,l.dropWhile p=l.drop k
 | []=>⟨0,rfl⟩
 |x::l=>by
  by_cases h:p x=true
  ·obtain ⟨k,e⟩:=dw_drop p l
   exact ⟨k+1,by rw[List.dropWhile_cons_of_pos h,e];rfl⟩
  ·exact ⟨0,by rw[List.dropWhile_cons_of_neg h];rfl⟩
theorem ls_edg {l:List Nat} (h:Edg l) (i:Ink l):Edg (l.dropWhile ([32]:List Nat).contains)/\Ink (l.dropWhile ([32]:List Nat).contains)/\(l.dropWhile ([32]:List Nat).contains).head? ≠ some 32:=by
 obtain ⟨c,hc,hne⟩:=i
 have hmem:∀ {l:List Nat},c∈l->c∈l.dropWhile ([32]:List Nat).contains:=fun {l} hc=>by
  induction l with
  |nil=>cases hc
  |cons x l ih=>
   by_cases hx:([32]:List Nat).contains x=true
   ·rw[List.dropWhile_cons_of_pos hx]
    rcases List.mem_cons.mp hc with rfl |hc
    ·exact absurd (by simpa using hx) hne
    ·exact ih hc
   ·rw[List.dropWhile_cons_of_neg hx];exact hc
 have hm:=hmem hc
 obtain ⟨k,e⟩:=dw_drop ([32]:List Nat).contains l
 refine ⟨⟨(fun z=>by rw[z] at hm;cases hm),(fun x hx=>?_),?_,?_⟩,⟨c,hm,hne⟩,(fun z=>?_)⟩
 ·rw[e] at hx;exact h.sg x (List.mem_of_mem_drop hx)
 ·rw[e];exact nd_drop k h.nd
 ·rw[e,List.length_drop];have:=h.len;omega
 ·have:=List.head?_dropWhile_not ([32]:List Nat).contains l
  rw[z] at this
  simp at this
theorem rs_edg {l:List Nat} (h:Edg l) (i:Ink l):Edg (rstripL ([32]:List Nat).contains l)/\(rstripL ([32]:List Nat).contains l).getLast? ≠ some 32/\(l.head? ≠ some 32->(rstripL ([32]:List Nat).contains l).head? ≠ some 32):=by
 have hr:Edg l.reverse:=⟨fun z=>h.ne (List.reverse_eq_nil_iff.mp z),fun c hc=>h.sg c (List.mem_reverse.mp hc),nd_rev h.nd,by rw[List.length_reverse];exact h.len⟩
 obtain ⟨c,hc,hne⟩:=i
 obtain ⟨e1,e2,e3⟩:=ls_edg hr ⟨c,List.mem_reverse.mpr hc,hne⟩
 unfold rstripL
 refine ⟨⟨fun z=>e1.ne (List.reverse_eq_nil_iff.mp z),fun c hc=>e1.sg c (List.mem_reverse.mp hc),nd_rev e1.nd,by rw[List.length_reverse];exact e1.len⟩,by rw[List.getLast?_reverse];exact e3,fun hh z=>?_⟩
 rw[List.head?_reverse] at z
 obtain ⟨k,e⟩:=dw_drop ([32]:List Nat).contains l.reverse
 rw[e] at z
 have hne2:l.reverse.drop k≠[]:=e▸e1.ne
 have:l.reverse.getLast? = some 32:=by
  rw[<- List.take_append_drop k l.reverse,glast_app hne2]
  exact z
 rw[List.getLast?_reverse] at this
 exact hh this
def PInk:PC->Prop
 | .one (.plain s)=>∃ l,s=S l/\Edg l/\Ink l
 |_=>True
theorem ink_of {a t b:List Nat} (h:Tdy t):Ink (a++t++b):=by
 cases t with
 |nil=>exact absurd rfl h.ne
 |cons x t=>
  refine ⟨x,List.mem_append_left _ (List.mem_append_right _ List.mem_cons_self),fun z=>h.hd (by rw[z];rfl)⟩
theorem p1F_ink {n:Int} {before k:Str}:PInk (.one (p1F n before k)):=by
 obtain ⟨he,hl⟩:=sig_ok n
 have hi:Ink (endsF (textF (mixF (n / 6) 71) 3) (n / 6 / 3)):=ink_of (text_ok _ 3 (by omega) (by omega)).1
 unfold p1F
 split
 ·trivial
 ·split
  ·trivial
  ·split
   ·trivial
   ·split
    ·refine ⟨_,rfl,he.put (by omega) (by omega) (by omega),58,List.mem_cons_self,by decide⟩
    ·exact ⟨_,rfl,he,hi⟩
theorem kd_plain (p:PC):p.isPlain=true ↔ kdP p=kPlain:=by
 obtain ⟨n1,n2,n3,n4,n5,n6,n7,n8,n9,n10⟩:=kinds
 cases p with
 |one p=>cases p with
  |plain s=>exact ⟨fun _=>rfl,fun _=>rfl⟩
  |code s=>exact ⟨(fun z=>nomatch z),fun z=>absurd z (Ne.symm n1)⟩
  |link a b=>exact ⟨(fun z=>nomatch z),fun z=>absurd z (Ne.symm n7)⟩
  |note s=>exact ⟨(fun z=>nomatch z),fun z=>absurd z (Ne.symm n2)⟩
 |strong ps=>exact ⟨(fun z=>nomatch z),fun z=>absurd z (Ne.symm n3)⟩
theorem Alt.snoc:∀ {bs:List Bool} {prev b:Bool},Alt prev bs->¬ ((bs.getLast?.getD prev)=true/\b=true)->Alt prev (bs++[b])
 | [],prev,b,_,h=>⟨h,trivial⟩
 |x::bs,prev,b,⟨h1,h2⟩,h=>by
  refine ⟨h1,Alt.snoc h2 fun z=>h ⟨?_,z.2⟩⟩
  cases bs with
  |nil=>exact z.1
  |cons y bs=>
   rw[List.getLast?_cons_cons]
   have:=z.1
   cases e:(y::bs).getLast? with
   |none=>simp at e
   |some q=>rw[e] at this;exact this
theorem goF_ok {α:Type} {part:Int->Str->α} {kd:α->Str} {ok:α->Prop} {pl:α->Bool} (n:Int) (hok:∀ m b,0<=m->m<=90749486->ok (part m b)) (hpl:∀ a,pl a=true ↔ kd a=kPlain) (halt:∀ m b,0<=m->b=kPlain->kd (part m b)≠kPlain):
  ∀ t:Nat,(goF part kd n t).1.length=t/\(∀ a∈(goF part kd n t).1,ok a)/\Alt false ((goF part kd n t).1.map pl)/\(((goF part kd n t).1.map pl).getLast?.getD false=true->(goF part kd n t).2=kPlain)
 |0=>⟨rfl,(fun _ z=>nomatch z),trivial,fun z=>nomatch z⟩
 |t+1=>by
  obtain ⟨h1,h2,h3,h4⟩:=goF_ok n hok hpl halt t
  have hm:=mixF_ok n ((t:Int)+2)
  refine ⟨?_,fun a ha=>?_,?_,?_⟩
  ·show ((goF part kd n t).1++[_]).length=_
   rw[List.length_append,h1]
   rfl
  ·rcases List.mem_append.mp (show a∈(goF part kd n t).1++[_] from ha) with z |z
   ·exact h2 a z
   ·rw[List.mem_singleton.mp z];exact hok _ _ hm.1 hm.2
  ·show Alt false (((goF part kd n t).1++[part (mixF n ((t:Int)+2)) (goF part kd n t).2]).map pl)
   rw[List.map_append]
   refine h3.snoc fun z=>?_
   exact halt _ _ hm.1 (h4 z.1) ((hpl _).mp z.2)
  ·show (((goF part kd n t).1++[part (mixF n ((t:Int)+2)) (goF part kd n t).2]).map pl).getLast?.getD false=true->_
   rw[List.map_append,List.map_cons,List.map_nil,List.getLast?_concat]
   exact fun z=>(hpl _).mp z
theorem inF_ok (n:Int) (t:Nat):(inF n t).length=t/\(∀ p∈inF n t,P1Ok p)/\Alt false ((inF n t).map P1.isPlain):=by
 have := goF_ok (part := innerF) (kd := kd1) (ok := P1Ok) (pl := P1.isPlain) n (fun m b h _ => (p1F_ok h (kindF_in h)).1) (fun p => by have := kd_plain (.one p); cases p <;> exact this) (fun m b h hb=>by
  show kd1 (p1F m b (kindF m b true))≠_
  rw[(p1F_ok h (kindF_in h)).2]
  exact kindF_alt h hb) t
 exact ⟨this.1,this.2.1,this.2.2.1⟩
theorem partF_ok {n:Int} {before:Str} (h:0<=n) (h2:n<=4294967296):(PCOk (partF n before)/\PInk (partF n before))/\kdP (partF n before)=kindF n before false:=by
 unfold partF
 split
 ·rename_i hk
  have:=inF_ok (mixF (n / 6) 70) (1+n / 6 % 3).toNat
  refine ⟨⟨⟨fun z=>?_,by rw[this.1];omega,this.2.1,this.2.2⟩,trivial⟩,hk.symm⟩
  have e:=this.1
  rw[z] at e
  simp at e
  omega
 ·rename_i hk
  have:=p1F_ok (before:=before) h (kindF_out h hk)
  exact ⟨⟨this.1,p1F_ink⟩,this.2⟩
theorem rawF_ok (n:Int) (t:Nat):(goF partF kdP n t).1.length=t/\(∀ p∈(goF partF kdP n t).1,PCOk p/\PInk p)/\Alt false ((goF partF kdP n t).1.map PC.isPlain):=by
 have := goF_ok (part := partF) (kd := kdP) (ok := fun p => PCOk p /\ PInk p) (pl := PC.isPlain) n (fun m b h h2 => (partF_ok h (by omega)).1) kd_plain (fun m b h hb=>by
  show kdP (partF m b)≠_
  unfold partF
  split
  ·exact Ne.symm kinds.2.2.1
  ·rename_i hk
   show kd1 (p1F m b (kindF m b false))≠_
   rw[(p1F_ok h (kindF_out h hk)).2]
   exact kindF_alt h hb) t
 exact ⟨this.1,this.2.1,this.2.2.1⟩
theorem lsP_ok {p:PC} (h:PCOk p) (i:PInk p):PCOk (lsP p)/\PInk (lsP p)/\(lsP p).isPlain=p.isPlain/\(match lsP p with | .one (.plain s)=>Txt.startswith s " "=false |_=>True):=by
 match p,h,i with
 | .one (.plain s),h,⟨l,e,hE,hI⟩=>
  subst e
  obtain ⟨e1,e2,e3⟩:=ls_edg hE hI
  have hl:Txt.lstripChars (S l) " "=S (l.dropWhile ([32]:List Nat).contains):=lstrip_S l [32]
  refine ⟨?_,?_,rfl,?_⟩
  ·show okSg (Txt.lstripChars (S l) " ")=true/\StrG (Txt.lstripChars (S l) " ")
   rw[hl];exact ⟨e1.ok,e1.str⟩
  ·exact ⟨_,hl,e1,e2⟩
  ·show Txt.startswith (Txt.lstripChars (S l) " ") " "=false
   rw[hl,show Txt.startswith (S (l.dropWhile ([32]:List Nat).contains)) " "=[32].isPrefixOf (l.dropWhile ([32]:List Nat).contains) from starts_S _ [32]]
   cases hd:l.dropWhile ([32]:List Nat).contains with
   |nil=>rfl
   |cons x r=>
    rw[hd] at e3
    have:x≠32:=fun z=>e3 (by rw[z];rfl)
    simp[List.isPrefixOf,Ne.symm this]
 | .one (.code s),h,i=>exact ⟨h,i,rfl,trivial⟩
 | .one (.link a b),h,i=>exact ⟨h,i,rfl,trivial⟩
 | .one (.note s),h,i=>exact ⟨h,i,rfl,trivial⟩
 | .strong ps,h,i=>exact ⟨h,i,rfl,trivial⟩
def stP:PC->Bool
 | .one (.plain s)=>Txt.startswith s " "
 |_=>false
def enP:PC->Bool
 | .one (.plain s)=>Txt.endswith s " "
 |_=>false
theorem starts_no {l:List Nat}:Txt.startswith (S l) " "=false ↔ l.head? ≠ some 32:=by
 rw[show Txt.startswith (S l) " "=[32].isPrefixOf l from starts_S _ [32]]
 cases l with
 |nil=>exact ⟨fun _ z=>(nomatch z),fun _=>rfl⟩
 |cons x r=>
  constructor
  ·intro h z
   have:x=32:=Option.some.inj z
   subst this
   exact absurd h (by simp[List.isPrefixOf])
  ·intro h
   have:x≠32:=fun z=>h (by rw[z];rfl)
   simp[List.isPrefixOf,Ne.symm this]
theorem ends_no {l:List Nat}:Txt.endswith (S l) " "=false ↔ l.getLast? ≠ some 32:=by
 rw[show Txt.endswith (S l) " "=decide (l.getLast? = some 32) from ends_S _ 32]
 exact decide_eq_false_iff_not
theorem ls_st {p:PC} (h:PCOk p) (i:PInk p):stP (lsP p)=false:=by
 have:=(lsP_ok h i).2.2.2
 unfold stP
 split
 ·rename_i s e
  rw[e] at this
  exact this
 ·rfl
theorem rsP_ok {p:PC} (h:PCOk p) (i:PInk p):PCOk (rsP p)/\(rsP p).isPlain=p.isPlain/\enP (rsP p)=false/\(stP p=false->stP (rsP p)=false):=by
 match p,h,i with
 | .one (.plain s),h,⟨l,e,hE,hI⟩=>
  subst e
  obtain ⟨e1,e2,e3⟩:=rs_edg hE hI
  have hl:Txt.rstripChars (S l) " "=S (rstripL ([32]:List Nat).contains l):=rstrip_S l [32]
  refine ⟨?_,rfl,?_,fun z=>?_⟩
  ·show okSg (Txt.rstripChars (S l) " ")=true/\StrG (Txt.rstripChars (S l) " ")
   rw[hl];exact ⟨e1.ok,e1.str⟩
  ·show Txt.endswith (Txt.rstripChars (S l) " ") " "=false
   rw[hl];exact ends_no.mpr e2
  ·show Txt.startswith (Txt.rstripChars (S l) " ") " "=false
   rw[hl];exact starts_no.mpr (e3 (starts_no.mp z))
 | .one (.code s),h,i=>exact ⟨h,rfl,rfl,fun _=>rfl⟩
 | .one (.link a b),h,i=>exact ⟨h,rfl,rfl,fun _=>rfl⟩
 | .one (.note s),h,i=>exact ⟨h,rfl,rfl,fun _=>rfl⟩
 | .strong ps,h,i=>exact ⟨h,rfl,rfl,fun _=>rfl⟩
theorem laL_snoc {α:Type} (f:α->α) (q:List α) (x:α):laL f (q++[x])=q++[f x]:=by
 unfold laL
 rw[List.reverse_append]
 show (f x::q.reverse).reverse=_
 rw[List.reverse_cons,List.reverse_reverse]
theorem endsOk_of {l:List PC} (h1:∀ p,l.head? = some p->stP p=false) (h2:∀ p,l.getLast? = some p->enP p=false):endsOk l=true:=by
 cases l with
 |nil=>rfl
 |cons p ps=>
  have a:=h1 p rfl
  have b:=h2 ((p::ps).getLast (by simp)) (List.getLast?_eq_some_getLast _)
  have e:endsOk (p::ps)=(!(stP p) && !(enP ((p::ps).getLast (by simp)))):=rfl
  rw[e,a,b]
  rfl
theorem partsF_ok (n:Int) (t:Nat):(partsF n t).length=t/\(∀ p∈partsF n t,PCOk p)/\Alt false ((partsF n t).map PC.isPlain)/\endsOk (partsF n t)=true:=by
 obtain ⟨h1,h2,h3⟩:=rawF_ok n t
 unfold partsF
 generalize (goF partF kdP n t).1=l at h1 h2 h3
 cases l with
 |nil=>exact ⟨h1,(fun _ z=>nomatch z),trivial,rfl⟩
 |cons a r=>
  have ha:=h2 a List.mem_cons_self
  obtain ⟨l1,l2,l3,_⟩:=lsP_ok ha.1 ha.2
  have l4:=ls_st ha.1 ha.2
  show (laL rsP (lsP a::r)).length=_/\(∀ p∈laL rsP (lsP a::r),_)/\Alt false ((laL rsP (lsP a::r)).map PC.isPlain)/\endsOk (laL rsP (lsP a::r))=true
  have k1:(lsP a::r).length=t:=h1
  have k2:∀ p∈lsP a::r,PCOk p/\PInk p:=fun p hp=>by
   rcases List.mem_cons.mp hp with rfl |z
   ·exact ⟨l1,l2⟩
   ·exact h2 p (List.mem_cons_of_mem _ z)
  have k3:Alt false ((lsP a::r).map PC.isPlain):=by
   rw[List.map_cons,l3];exact h3
  have k4:∀ p,(lsP a::r).head? = some p->stP p=false:=fun p hp=>by
   cases hp;exact l4
  generalize lsP a::r=l at k1 k2 k3 k4
  rcases List.eq_nil_or_concat l with rfl |⟨q,x,rfl⟩
  ·exact ⟨k1,(fun _ z=>nomatch z),trivial,rfl⟩
  ·rw[List.concat_eq_append] at k1 k2 k3 k4 ⊢
   rw[laL_snoc]
   have hx:=k2 x (List.mem_append_right _ (List.mem_singleton.mpr rfl))
   obtain ⟨r1,r2,r3,r4⟩:=rsP_ok hx.1 hx.2
   refine ⟨by rw[List.length_append] at k1 ⊢;exact k1,fun p hp=>?_,?_,endsOk_of (fun p hp=>?_) (fun p hp=>?_)⟩
   ·rcases List.mem_append.mp hp with z |z
    ·exact (k2 p (List.mem_append_left _ z)).1
    ·rw[List.mem_singleton.mp z];exact r1
   ·rw[List.map_append] at k3 ⊢
    rw[List.map_cons,r2];exact k3
   ·cases q with
    |nil=>cases hp;exact r4 (k4 _ rfl)
    |cons y q=>exact k4 p hp
   ·rw[List.getLast?_concat] at hp
    cases hp;exact r3
theorem partsF_norm (n:Int) (t:Nat):normD (.list ((partsF n t).map dP))=some (partsF n t):=by
 obtain ⟨_,h2,h3,h4⟩:=partsF_ok n t
 exact norm_of h2 h3 h4
end Lw
set_option Elab.async false
set_option linter.all false
set_option maxRecDepth 100000
set_option maxHeartbeats 2000000
namespace K5
open PySem L2 Lm Lw
def top (i:Nat):Stmt:=PySem.Challenge.pw_lightmark_k05_whole_parts_come_back.main.body.getD i (.Pass ⟨0,0,0,0⟩)
def clsBody (s:Stmt):List Stmt:=match s with
 | .ClassDef _ _ _ b _ _ _ _ _ _ _=>b
 |_=>[]
abbrev meth (i j:Nat):Stmt:=(clsBody (top i)).getD j (.Pass ⟨0,0,0,0⟩)
theorem s_join {f u:TS} {D:Ends} {σ:St} {H:Hp} (J:St->Hp->Prop) (h:∀ N:St->Hp->Prop,(∀ σ' H',J σ' H'->N σ' H')->f { D with nx:=N } σ H) (k:∀ σ' H',J σ' H'->u D σ' H'):tSeq f u D σ H:=h (u D) k
structure TxP (K:PySem.W.Frag) (mg:Str->Option Value) (c:Cp) (BT:Addr):Prop where
 n_list:mg "list"=none
 n_len:mg "len"=none
 n_isinstance:mg "isinstance"=none
 n_all:mg "all"=none
 n_str:mg "str"=none
 n_tuple:mg "tuple"=none
 g_NAME_SIGNS:∃ t,mg "NAME_SIGNS"=some (.str (S nameSigns) t)
 g_LONGEST_NAME:∃ t,mg "LONGEST_NAME"=some (.int 12 t)
 c_BadTree:mg "BadTree"=some (.ref BT)
 x_BadTree:OwnX K BT
 c_Plain:mg "Plain"=some (.ref c.Plain)
 o_Plain:Inst K c.Plain
 o_Code:Inst K c.Code
 o_Strong:Inst K c.Strong
 o_Link:Inst K c.Link
 o_Mark:Inst K c.Mark
 a_Plain:NoAttr K c.Plain "signs"
 a_Code:NoAttr K c.Code "signs"
 a_Strong:NoAttr K c.Strong "parts"
 a_Linkw:NoAttr K c.Link "words"
 a_Linkn:NoAttr K c.Link "name"
 a_Mark:NoAttr K c.Mark "name"
 i_Plain:PySem.W.kitOne K (.ref c.Plain) (.ref c.Plain)=some true
 i_Code:PySem.W.kitOne K (.ref c.Code) (.ref c.Plain)=some false
 i_Strong:PySem.W.kitOne K (.ref c.Strong) (.ref c.Plain)=some false
 i_Link:PySem.W.kitOne K (.ref c.Link) (.ref c.Plain)=some false
 i_Mark:PySem.W.kitOne K (.ref c.Mark) (.ref c.Plain)=some false
theorem TxP.isPlain {K:PySem.W.Frag} {mg:Str->Option Value} {c:Cp} {BT:Addr} (T:TxP K mg c BT) {H:Hp} {a:Addr}:∀ {p:PC},PCAt c H a p->∃ t,TyOf K H (.ref a) t/\PySem.W.kitOne K t (.ref c.Plain)=some p.isPlain
 | .one (.plain _),⟨_,_,e⟩=>⟨_,T.o_Plain.ty e,T.i_Plain⟩
 | .one (.code _),⟨_,_,e⟩=>⟨_,T.o_Code.ty e,T.i_Code⟩
 | .one (.link _ _),⟨_,_,_,e⟩=>⟨_,T.o_Link.ty e,T.i_Link⟩
 | .one (.note _),⟨_,_,e⟩=>⟨_,T.o_Mark.ty e,T.i_Mark⟩
 | .strong _,⟨_,_,_,e,_⟩=>⟨_,T.o_Strong.ty e,T.i_Strong⟩
section
variable {P:Program} {w:World} {K:PySem.W.Frag} {mg:Str->Option Value} {base:Heap} {c:Cp} {BT:Addr}
def spInit1 (C:Addr) (fl:Str):Sp:=fun vs H Q _=>∃ x dx v,vs=[.ref x,v]/\H x=some (.ins C dx [])/\Q .non (upd H x (.ins C dx [(fl,v)]))
def spInit2 (C:Addr) (fl gl:Str):Sp:=fun vs H Q _=>∃ x dx v u,vs=[.ref x,v,u]/\H x=some (.ins C dx [])/\Q .non (upd (upd H x (.ins C dx [(fl,v)])) x (.ins C dx [(fl,v),(gl,u)]))
def spInitS (C:Addr):Sp:=fun vs H Q _=>∃ x dx l xs,vs=[.ref x, .ref l]/\H x=some (.ins C dx [])/\H l=some (.lst xs)/\∀ p,H p=none->Q .non (upd (upd H p (.lst xs)) x (.ins C dx [("parts", .ref p)]))
abbrev sPlainInit:Stmt:=meth 3 0
abbrev sCodeInit:Stmt:=meth 4 0
abbrev sStrongInit:Stmt:=meth 5 0
abbrev sLinkInit:Stmt:=meth 6 0
abbrev sMarkInit:Stmt:=meth 7 0
abbrev sPlainTold:Stmt:=meth 3 1
abbrev sCodeTold:Stmt:=meth 4 1
abbrev sStrongTold:Stmt:=meth 5 1
abbrev sLinkTold:Stmt:=meth 6 1
abbrev sMarkTold:Stmt:=meth 7 1
theorem scPlainInit:FnScope ["self","signs"] ["self","signs"] (defScope sPlainInit):=⟨rfl,rfl,rfl,by decide +kernel,rfl,by decide +kernel,by decide +kernel⟩
theorem scCodeInit:FnScope ["self","signs"] ["self","signs"] (defScope sCodeInit):=⟨rfl,rfl,rfl,by decide +kernel,rfl,by decide +kernel,by decide +kernel⟩
theorem scStrongInit:FnScope ["self","parts"] ["self","parts"] (defScope sStrongInit):=⟨rfl,rfl,rfl,by decide +kernel,rfl,by decide +kernel,by decide +kernel⟩
theorem scLinkInit:FnScope ["self","words","name"] ["self","words","name"] (defScope sLinkInit):=⟨rfl,rfl,rfl,by decide +kernel,rfl,by decide +kernel,by decide +kernel⟩
theorem scMarkInit:FnScope ["self","name"] ["self","name"] (defScope sMarkInit):=⟨rfl,rfl,rfl,by decide +kernel,rfl,by decide +kernel,by decide +kernel⟩
theorem scPlainTold:FnScope ["self"] ["self"] (defScope sPlainTold):=⟨rfl,rfl,rfl,by decide +kernel,rfl,by decide +kernel,by decide +kernel⟩
theorem scCodeTold:FnScope ["self"] ["self"] (defScope sCodeTold):=⟨rfl,rfl,rfl,by decide +kernel,rfl,by decide +kernel,by decide +kernel⟩
theorem scStrongTold:FnScope ["self"] ["self"] (defScope sStrongTold):=⟨rfl,rfl,rfl,by decide +kernel,rfl,by decide +kernel,by decide +kernel⟩
theorem scLinkTold:FnScope ["self"] ["self"] (defScope sLinkTold):=⟨rfl,rfl,rfl,by decide +kernel,rfl,by decide +kernel,by decide +kernel⟩
theorem scMarkTold:FnScope ["self"] ["self"] (defScope sMarkTold):=⟨rfl,rfl,rfl,by decide +kernel,rfl,by decide +kernel,by decide +kernel⟩
theorem ok_PlainInit {f:Addr} {fd:FuncData} (F:Fun K "__init__" "Plain.__init__" sPlainInit f fd) (T:TxP K mg c BT):FnOk P w K mg base CX0 1 f fd ["self","signs"] (spInit1 c.Plain "signs"):=by
 have sc:=scPlainInit
 refine F.ok sc (fun vs H Q E h=>?_) (fun cdv A outer s H vs Q E hr h=>?_)
 ·obtain ⟨x,dx,v,rfl,_⟩:=h
  rfl
 obtain ⟨x,dx,v,rfl,e,q⟩:=h
 refine of_XB (xb1 (xsetfld (xv 0) (xv 1))) ?_
 exact ⟨_,rfl,_,rfl,x,_,dx,_,rfl,e,T.o_Plain.cls,T.a_Plain,by decide,q⟩
theorem ok_CodeInit {f:Addr} {fd:FuncData} (F:Fun K "__init__" "Code.__init__" sCodeInit f fd) (T:TxP K mg c BT):FnOk P w K mg base CX0 1 f fd ["self","signs"] (spInit1 c.Code "signs"):=by
 have sc:=scCodeInit
 refine F.ok sc (fun vs H Q E h=>?_) (fun cdv A outer s H vs Q E hr h=>?_)
 ·obtain ⟨x,dx,v,rfl,_⟩:=h
  rfl
 obtain ⟨x,dx,v,rfl,e,q⟩:=h
 refine of_XB (xb1 (xsetfld (xv 0) (xv 1))) ?_
 exact ⟨_,rfl,_,rfl,x,_,dx,_,rfl,e,T.o_Code.cls,T.a_Code,by decide,q⟩
theorem ok_MarkInit {f:Addr} {fd:FuncData} (F:Fun K "__init__" "Mark.__init__" sMarkInit f fd) (T:TxP K mg c BT):FnOk P w K mg base CX0 1 f fd ["self","name"] (spInit1 c.Mark "name"):=by
 have sc:=scMarkInit
 refine F.ok sc (fun vs H Q E h=>?_) (fun cdv A outer s H vs Q E hr h=>?_)
 ·obtain ⟨x,dx,v,rfl,_⟩:=h
  rfl
 obtain ⟨x,dx,v,rfl,e,q⟩:=h
 refine of_XB (xb1 (xsetfld (xv 0) (xv 1))) ?_
 exact ⟨_,rfl,_,rfl,x,_,dx,_,rfl,e,T.o_Mark.cls,T.a_Mark,by decide,q⟩
theorem ok_LinkInit {f:Addr} {fd:FuncData} (F:Fun K "__init__" "Link.__init__" sLinkInit f fd) (T:TxP K mg c BT):FnOk P w K mg base CX0 1 f fd ["self","words","name"] (spInit2 c.Link "words" "name"):=by
 have sc:=scLinkInit
 refine F.ok sc (fun vs H Q E h=>?_) (fun cdv A outer s H vs Q E hr h=>?_)
 ·obtain ⟨x,dx,v,u,rfl,_⟩:=h
  rfl
 obtain ⟨x,dx,v,u,rfl,e,q⟩:=h
 refine of_XB (xbc (xsetfld (xv 0) (xv 1))
  (xb1 (xsetfld (xv 0) (xv 2)))) ?_
 refine ⟨_,rfl,_,rfl,x,_,dx,_,rfl,e,T.o_Link.cls,T.a_Linkw,by decide,?_⟩
 exact ⟨_,rfl,_,rfl,x,_,dx,_,rfl,upd_same,T.o_Link.cls,T.a_Linkn,by show 1 < 1000;decide,q⟩
theorem ok_StrongInit {f:Addr} {fd:FuncData} (F:Fun K "__init__" "Strong.__init__" sStrongInit f fd) (T:TxP K mg c BT):FnOk P w K mg base CX0 1 f fd ["self","parts"] (spInitS c.Strong):=by
 have sc:=scStrongInit
 refine F.ok sc (fun vs H Q E h=>?_) (fun cdv A outer s H vs Q E hr h=>?_)
 ·obtain ⟨x,dx,l,xs,rfl,_⟩:=h
  rfl
 obtain ⟨x,dx,l,xs,rfl,e,el,q⟩:=h
 refine of_XB (xb1 (xsetfld (xv 0) (xcTy call_list_of T.n_list rfl (xac (xv 1) xa0)))) ?_
 exact ⟨_,rfl,l,_,rfl, .inl (SqL.of el),fun p hp=>⟨_,rfl,x,_,dx,_,rfl,same_new hp _ _ _ e,T.o_Strong.cls,T.a_Strong,by decide,q p hp⟩⟩
def R1 (p:PC):Prop:=one? p≠none
theorem ok_PlainTold {f:Addr} {fd:FuncData} (F:Fun K "told" "Plain.told" sPlainTold f fd) (T:TxP K mg c BT):FnOk P w K mg base CX0 1 f fd ["self"] (spTold c fun p=>∃ s,p = .one (.plain s)):=by
 have sc:=scPlainTold
 refine F.ok sc (fun vs H Q E h=>?_) (fun cdv A outer s H vs Q E hr h=>?_)
 ·obtain ⟨a,p,rfl,_⟩:=h
  rfl
 obtain ⟨a,p,rfl,ha,⟨s,rfl⟩,q⟩:=h
 obtain ⟨g,dx,e⟩:=ha
 refine of_XB (xb1 (xret (xtup (xac xstr (xac (xfld (xv 0)) xa0))))) ?_
 exact ⟨_,rfl,a,_,dx,_,_,rfl,e,T.o_Plain.cls,T.a_Plain,rfl,big (show (2:Nat)<=1000000 by decide),fun p hp=>q _ _ (same_new hp _) (.tup (by rw[dif_at hp,upd_same]) (.cons (.str _ (by decide +kernel) (by decide +kernel)) (.cons g.dn .nil)))⟩
theorem ok_CodeTold {f:Addr} {fd:FuncData} (F:Fun K "told" "Code.told" sCodeTold f fd) (T:TxP K mg c BT):FnOk P w K mg base CX0 1 f fd ["self"] (spTold c fun p=>∃ s,p = .one (.code s)):=by
 have sc:=scCodeTold
 refine F.ok sc (fun vs H Q E h=>?_) (fun cdv A outer s H vs Q E hr h=>?_)
 ·obtain ⟨a,p,rfl,_⟩:=h
  rfl
 obtain ⟨a,p,rfl,ha,⟨s,rfl⟩,q⟩:=h
 obtain ⟨g,dx,e⟩:=ha
 refine of_XB (xb1 (xret (xtup (xac xstr (xac (xfld (xv 0)) xa0))))) ?_
 exact ⟨_,rfl,a,_,dx,_,_,rfl,e,T.o_Code.cls,T.a_Code,rfl,big (show (2:Nat)<=1000000 by decide),fun p hp=>q _ _ (same_new hp _) (.tup (by rw[dif_at hp,upd_same]) (.cons (.str _ (by decide +kernel) (by decide +kernel)) (.cons g.dn .nil)))⟩
theorem ok_MarkTold {f:Addr} {fd:FuncData} (F:Fun K "told" "Mark.told" sMarkTold f fd) (T:TxP K mg c BT):FnOk P w K mg base CX0 1 f fd ["self"] (spTold c fun p=>∃ s,p = .one (.note s)):=by
 have sc:=scMarkTold
 refine F.ok sc (fun vs H Q E h=>?_) (fun cdv A outer s H vs Q E hr h=>?_)
 ·obtain ⟨a,p,rfl,_⟩:=h
  rfl
 obtain ⟨a,p,rfl,ha,⟨s,rfl⟩,q⟩:=h
 obtain ⟨g,dx,e⟩:=ha
 refine of_XB (xb1 (xret (xtup (xac xstr (xac (xfld (xv 0)) xa0))))) ?_
 exact ⟨_,rfl,a,_,dx,_,_,rfl,e,T.o_Mark.cls,T.a_Mark,rfl,big (show (2:Nat)<=1000000 by decide),fun p hp=>q _ _ (same_new hp _) (.tup (by rw[dif_at hp,upd_same]) (.cons (.str _ (by decide +kernel) (by decide +kernel)) (.cons g.dn .nil)))⟩
theorem ok_LinkTold {f:Addr} {fd:FuncData} (F:Fun K "told" "Link.told" sLinkTold f fd) (T:TxP K mg c BT):FnOk P w K mg base CX0 1 f fd ["self"] (spTold c fun p=>∃ s n,p = .one (.link s n)):=by
 have sc:=scLinkTold
 refine F.ok sc (fun vs H Q E h=>?_) (fun cdv A outer s H vs Q E hr h=>?_)
 ·obtain ⟨a,p,rfl,_⟩:=h
  rfl
 obtain ⟨a,p,rfl,ha,⟨s,n,rfl⟩,q⟩:=h
 obtain ⟨g,g2,dx,e⟩:=ha
 refine of_XB (xb1 (xret (xtup (xac xstr (xac (xfld (xv 0)) (xac (xfld (xv 0)) xa0)))))) ?_
 exact ⟨_,rfl,a,_,dx,_,_,rfl,e,T.o_Link.cls,T.a_Linkw,rfl,_,rfl,a,_,dx,_,_,rfl,e,T.o_Link.cls,T.a_Linkn,rfl,big (show (3:Nat)<=1000000 by decide),fun p hp=>q _ _ (same_new hp _) (.tup (by rw[dif_at hp,upd_same]) (.cons (.str _ (by decide +kernel) (by decide +kernel)) (.cons g.dn (.cons g2.dn .nil))))⟩
abbrev sTolds:Stmt:=top 9
theorem scTolds:FnScope ["parts"] ["parts"] (defScope sTolds):=⟨rfl,rfl,rfl,by decide +kernel,rfl,by decide +kernel,by decide +kernel⟩
theorem range_getD (ps:List PC):(List.range ps.length).map (fun i=>dP (ps.getD i (.one (.note ""))))=ps.map dP:=by
 apply List.ext_getElem?
 intro i
 rw[List.getElem?_map,List.getElem?_map]
 by_cases hi:i < ps.length
 ·rw[List.getElem?_range hi,List.getElem?_eq_getElem hi]
  simp only[Option.map_some,List.getD_eq_getElem?_getD,List.getElem?_eq_getElem hi,Option.getD_some]
 ·rw[List.getElem?_eq_none (by rw[List.length_range];omega),List.getElem?_eq_none (by omega)]
  rfl
theorem ok_tolds {f:Addr} {fd:FuncData} {k:Nat} {R:PC->Prop} (F:Fun K "told_parts" "told_parts" sTolds f fd) (hM:ToldV P w K mg base k c R):FnOk P w K mg base CX0 (k+1) f fd ["parts"] (spTolds c R):=by
 have sc:=scTolds
 refine F.ok sc (fun vs H Q E h=>?_) (fun cdv A outer s H vs Q E hr h=>?_)
 ·obtain ⟨l,as,ps,rfl,_⟩:=h
  rfl
 obtain ⟨l,as,ps,rfl,el,hps,hR,hl,q⟩:=h
 refine of_XB (xb1 (xret (xlc (cl:=[]) (own:=["part"]) (fr:=[]) (N':=["part"]) rfl (compN (xs:=[]) trivial trivial (by decide +kernel)) (by decide +kernel) (by decide +kernel) (by with_unfolding_all rfl)
  (xil (xv 0))
  (fun _ _ _ _=>xgn (i:=0) (show (["part"]:List Str).Nodup by decide +kernel) rfl (Or.inl rfl)) (fun _ _ _ _=>xq0) (fun _ _ _ _=>(xmV0C (k:=k) (xv 0) (hr.mono (by omega))))))) ?_
 refine ⟨_,rfl,l,rfl,⟨_,SqL.of el⟩,?_⟩
 have hlen:=hps.len
 refine lc_newD (fun i=>dP (ps.getD i (.one (.note "")))) (SqL.of el) (by rw[List.length_map];exact hl) ?_ ?_
 ·intro i x hx H2 s2 C N hC
  rw[List.getElem?_map] at hx
  cases hai:as[i]? with
  |none=>rw[hai] at hx;cases hx
  |some a=>
  rw[hai] at hx
  cases hx
  obtain ⟨p,hp1,hp2⟩:=hps.get hai
  obtain ⟨Cc,dx,fs,sp,e1,e2,V,hsp⟩:=hM p (hR p (List.mem_of_getElem? hp1)) H2 a (hp2.same s2)
  refine ⟨(nfLe.refl _ _ _).set (by decide) _,iteT (B:=N H2) ⟨_,rfl,a,Cc,dx,fs,_,sp,rfl,e1,e2,V,hsp _ _ fun v H4 s4 d4=>hC v H4 s4 ?_⟩⟩
  rw[List.getD_eq_getElem?_getD,hp1]
  exact d4
 ·intro D H2 hD s2 dD
  refine q D H2 s2 ?_
  rw[List.length_map,hlen,range_getD] at dD
  exact dD
theorem ok_StrongTold {f:Addr} {fd:FuncData} {k:Nat} (F:Fun K "told" "Strong.told" sStrongTold f fd) (T:TxP K mg c BT) (D_told_parts:Def P w K mg base k "told_parts" ["parts"] (spTolds c R1)):FnOk P w K mg base CX0 (k+1) f fd ["self"] (spTold c fun p=>∃ ps,p = .strong ps/\ps.length<=100000):=by
 have sc:=scStrongTold
 refine F.ok sc (fun vs H Q E h=>?_) (fun cdv A outer s H vs Q E hr h=>?_)
 ·obtain ⟨a,p,rfl,_⟩:=h
  rfl
 obtain ⟨a,p,rfl,ha,⟨ps,rfl,hpl⟩,q⟩:=h
 obtain ⟨dx,l,as,e,el,hps⟩:=ha
 refine of_XB (xb1 (xret (xtup (xac xstr (xac (xcD D_told_parts (hr.mono (by omega)) (xac (xfld (xv 0)) xa0)) xa0))))) ?_
 refine ⟨_,rfl,a,_,dx,_,_,rfl,e,T.o_Strong.cls,T.a_Strong,rfl,l,as,ps.map .one,rfl,el,hps.toC,fun p hp=>?_,by rw[hps.len];exact hpl,fun r H1 s1 d1'=>⟨big (show (2:Nat)<=1000000 by decide),fun t ht=>q _ _ (s1.trans (same_new ht _)) ?_⟩⟩
 ·obtain ⟨x,_,rfl⟩:=List.mem_map.mp hp
  unfold R1
  simp[one?]
 ·refine .tup (by rw[dif_at (s1.free ht),upd_same]) (.cons (.str _ (by decide +kernel) (by decide +kernel)) (.cons ?_ .nil))
  have:=d1'.same (dif_grow (Same.refl H) (same_new ht (.tup [V.str "strong", .ref r])))
  rw[List.map_map] at this
  exact this
abbrev sNeedSigns:Stmt:=top 38
theorem scNeedSigns:FnScope ["thing"] ["thing"] (defScope sNeedSigns):=⟨rfl,rfl,rfl,by decide +kernel,rfl,by decide +kernel,by decide +kernel⟩
theorem ok_needSigns {f:Addr} {fd:FuncData} (F:Fun K "need_signs" "need_signs" sNeedSigns f fd) (T:TxP K mg c BT):FnOk P w K mg base (CXr P w) 1 f fd ["thing"] (spStr BT sgD):=by
 have sc:=scNeedSigns
 refine F.okR sc (fun vs H Q E h=>?_) (fun cdv A outer s H vs Q E hr h=>?_)
 ·obtain ⟨v,d,rfl,_⟩:=h
  rfl
 obtain ⟨v,d,rfl,hd,q,qe⟩:=h
 refine of_XB (xbc (xif (xor (xnotT (xvalT (xcB call_isT T.n_isinstance rfl (xac (xv 0) (xac (xty (T:="str") T.n_str rfl) xa0))))) (xor1 (xcmpT op_eq (xv 0) xstr (nomark _)))).xt (xb1 (xraise T.x_BadTree T.c_BadTree rfl raises_cx (xac xstr xa0))) xb0)
  (xbc (xif (xor (xcmpT op_in_str xstr (xv 0) (by with_unfolding_all rfl)) (xor (xcmpT op_in_str xstr (xv 0) (by with_unfolding_all rfl)) (xor1 (xcmpT op_in_str xstr (xv 0) (by with_unfolding_all rfl))))).xt (xb1 (xraise T.x_BadTree T.c_BadTree rfl raises_cx (xac xstr xa0))) xb0)
  (xb1 (xret (xv 0))))) ?_
 have hk:=(kit_D K d).1
 rcases Dn.strCase hd with ⟨x,rfl,rfl,g⟩ |⟨h1,h2⟩
 ·have hk':PySem.W.kitOne K (.type (tyD (.str x))) (.type "str")=some true:=hk
  by_cases c1:x=("":Str)
  ·refine s_yes (t_or false true (t_not true (t_isT (ev_v rfl) hd hk')) (fun _ H1 s1=>?_)) fun H1 s1=>⟨big (show (1:Nat)<=1000000 by decide),qe ?_ H1 s1⟩
   ·have:=t_eqS (σ:=start ["thing"] [V.str x]) (H:=H1) (x:=x) (y:="") (ev_v (k:=0) rfl) ev_c
    rw[decide_eq_true c1] at this
    exact this
   ·show (if okSg x then some x else none)=none
    rw[if_neg]
    unfold okSg
    rw[decide_eq_true c1]
    simp
  ·refine s_no1 (t_or false false (t_not true (t_isT (ev_v rfl) hd hk')) (fun _ H1 s1=>?_)) fun H1 s1=>?_
   ·have:=t_eqS (σ:=start ["thing"] [V.str x]) (H:=H1) (x:=x) (y:="") (ev_v (k:=0) rfl) ev_c
    rw[decide_eq_false c1] at this
    exact this
   have hT:Tells _ (start ["thing"] [V.str x]) H1 (hasS "  " x||(hasS "\t" x||hasS "\n" x)):=t_or _ _ (t_hasS (ev_v (k:=0) rfl)) fun _ _ _=>t_or _ _ (t_hasS (ev_v (k:=0) rfl)) fun _ _ _=>t_hasS (ev_v (k:=0) rfl)
   by_cases c2:(hasS "  " x||(hasS "\t" x||hasS "\n" x))=true
   ·rw[c2] at hT
    refine s_yes hT fun H2 s2=>⟨big (show (1:Nat)<=1000000 by decide),qe ?_ H2 (s1.trans s2)⟩
    show (if okSg x then some x else none)=none
    rw[if_neg]
    unfold okSg
    rw[c2]
    simp
   ·have c2:=Bool.eq_false_iff.mpr c2
    rw[c2] at hT
    refine s_no1 hT fun H2 s2=>⟨_,rfl,q x ?_ g rfl H2 (s1.trans s2)⟩
    show (if okSg x then some x else none)=some x
    rw[if_pos]
    unfold okSg
    rw[c2,decide_eq_false c1]
    rfl
 ·rw[h1] at hk
  refine s_yes (t_or true false (t_not false (t_isT (ev_v rfl) hd hk)) (fun z=>Bool.noConfusion z)) fun H1 s1=>⟨big (show (1:Nat)<=1000000 by decide),qe ?_ H1 s1⟩
  cases d <;> first |rfl |exact absurd rfl (h2 _)
end
end K5
set_option Elab.async false
set_option linter.all false
set_option maxRecDepth 100000
set_option maxHeartbeats 2000000
namespace K5
open PySem L2 Lm Lw
section
variable {P:Program} {w:World} {K:PySem.W.Frag} {mg:Str->Option Value} {base:Heap} {c:Cp} {BT:Addr}
abbrev sName:Stmt:=top 19
theorem scName:FnScope ["thing"] ["thing"] (defScope sName):=⟨rfl,rfl,rfl,by decide +kernel,rfl,by decide +kernel,by decide +kernel⟩
theorem ok_nameD {f:Addr} {fd:FuncData} (F:Fun K "is_name" "is_name" sName f fd) (T:TxP K mg c BT):FnOk P w K mg base CX0 1 f fd ["thing"] spNameD:=by
 have sc:=scName
 refine F.ok sc (fun vs H Q E h=>?_) (fun cdv A outer s H vs Q E hr h=>?_)
 ·obtain ⟨v,d,rfl,_⟩:=h
  rfl
 obtain ⟨v,d,rfl,hd,q⟩:=h
 refine of_XB (xbc (xif (xnotT (xvalT (xcB call_isT T.n_isinstance rfl (xac (xv 0) (xac (xty (T:="str") T.n_str rfl) xa0))))) (xb1 (xret xbl)) xb0)
  (xbc (xif (xor (xcmpT op_lt (xcB call_len_str T.n_len PySem.boot_len (xac (xv 0) xa0)) xint (nomark _)) (xor1 (xcmpT op_gt (xcB call_len_str T.n_len PySem.boot_len (xac (xv 0) xa0)) (xgI T.g_LONGEST_NAME) (nomark _)))).xt (xb1 (xret xbl)) xb0)
  (xb1 (xret (xcB (call_all rfl) T.n_all rfl (xac (xlc (cl:=[]) (own:=["sign"]) (fr:=[]) (N':=["sign"]) rfl (compN (xs:=[]) trivial trivial (by decide +kernel)) (by decide +kernel) (by decide +kernel) (by with_unfolding_all rfl)
  (xis (xv 0))
  (fun _ _ _ _=>xgn (i:=0) (show (["sign"]:List Str).Nodup by decide +kernel) rfl (Or.inl rfl)) (fun _ _ _ _=>xq0) (fun _ _ _ _=>(xcmp op_in_str (xv 0) (xgS T.g_NAME_SIGNS) (by with_unfolding_all rfl)))) xa0)))))) ?_
 have hk:=(kit_D K d).1
 rcases Dn.strCase hd with ⟨x,rfl,rfl,g⟩ |⟨h1,h2⟩
 rotate_left
 ·rw[h1] at hk
  refine s_yes (t_not false (t_isT (ev_v rfl) hd hk)) fun H1 s1=>?_
  have:(isNmD d)=false:=by cases d <;> first |rfl |exact absurd rfl (h2 _)
  rw[this] at q
  exact q H1 s1
 obtain ⟨l,hl0⟩:∃ l:List Nat,x=S l:=⟨x.cps.toList,(S_of x).symm⟩
 subst hl0
 have hl:l.length<=1000000:=by have:=g.2;rw[S_len] at this;omega
 have q:∀ H',Same H H'->Q (.bl (isNameC l)) H':=fun H' s'=>by have:=q H' s';rw[isNm_S] at this;exact this
 refine ⟨_,rfl,_,_,_,true,rfl, .str _,kit_same _ _,_,rfl,?_⟩
 refine ite2 (fun c=>absurd c (by decide)) (fun _=>?_)
 refine ⟨_,rfl,_,rfl,bigS hl,_,_,rfl,rfl,_,rfl,?_⟩
 refine ite2 (fun c=>?_) (fun c=>?_)
 ·refine ite2 (fun _=>?_) (fun c=>absurd rfl c)
  have e:isNameC l=false:=by
   have:=of_decide_eq_true c
   rw[S_len] at this
   unfold isNameC
   rw[decide_eq_false (show ¬ 1<=l.length by omega)];rfl
  rw[e] at q
  exact q H (Same.refl H)
 refine ⟨_,rfl,_,rfl,bigS hl,_,_,rfl,rfl,_,rfl,?_⟩
 have h1:1<=l.length:=by
  have:=of_decide_eq_false (Bool.eq_false_iff.mpr c)
  rw[S_len] at this
  omega
 refine ite2 (fun d=>?_) (fun d=>?_)
 ·have e:isNameC l=false:=by
   have:=of_decide_eq_true d
   rw[S_len] at this
   unfold isNameC
   rw[decide_eq_false (show ¬ l.length<=12 by omega),Bool.and_false];rfl
  rw[e] at q
  exact q H (Same.refl H)
 have h2:l.length<=12:=by
  have:=of_decide_eq_false (Bool.eq_false_iff.mpr d)
  rw[S_len] at this
  omega
 refine ⟨_,rfl,_,rfl,?_⟩
 refine lc_str (fun _=>true) inNames (bigS hl) ?_ ?_
 ·intro c hc H' sm C N hC hN
  refine ⟨(nfLe.refl _ _ _).set (by decide) _,?_⟩
  refine ⟨_,rfl,_,_,rfl,rfl,?_⟩
  have:=hC H' (Same.refl H') rfl
  have e:inNames (.str ⟨#[c]⟩) = .bl (!(Builtin.Str.occurrences (S nameSigns) (S [c]) 0 (S nameSigns).length 1).isEmpty):=by
   rw[contains_S]
   show V.bl ([c].all nameSigns.contains)=_
   simp
  rw[e] at this
  exact this
 intro D H' hD sm eD
 refine ⟨D,l.map nameSigns.contains,rfl,SqL.of ?_,?_⟩
 ·rw[eD,S_list,List.filter_eq_self.mpr (fun _ _=>rfl),List.map_map,List.map_map]
  congr 2
  refine List.map_congr_left fun c _=>?_
  show V.bl ([c].all nameSigns.contains)=_
  simp
 ·have e:isNameC l=(l.map nameSigns.contains).all id:=by
   unfold isNameC
   rw[decide_eq_true h1,decide_eq_true h2,List.all_map]
   simp
  rw[<- e]
  exact q H' sm
abbrev sNameOf:Stmt:=top 20
theorem scNameOf:FnScope ["thing"] ["thing"] (defScope sNameOf):=⟨rfl,rfl,rfl,by decide +kernel,rfl,by decide +kernel,by decide +kernel⟩
theorem ok_nameOf {f:Addr} {fd:FuncData} (F:Fun K "name_of" "name_of" sNameOf f fd) (T:TxP K mg c BT) (D_is_name:Def P w K mg base 1 "is_name" ["thing"] spNameD):FnOk P w K mg base CX0 2 f fd ["thing"] spNameOf:=by
 have sc:=scNameOf
 refine F.ok sc (fun vs H Q E h=>?_) (fun cdv A outer s H vs Q E hr h=>?_)
 ·obtain ⟨l,rfl,_⟩:=h
  rfl
 obtain ⟨l,rfl,hl,hn,q⟩:=h
 have hl12:l.length<=12:=by unfold isNameC at hn;rw[Bool.and_eq_true,Bool.and_eq_true] at hn;exact of_decide_eq_true hn.1.2
 refine of_XB (xbc (xif (xnotT (xvalT (xcD D_is_name (hr.mono (by omega)) (xac (xv 0) xa0)))) (xb1 xnever) xb0)
  (xb1 (xret (xm0 PySem.F.plainAttrs_str PySem.F.slot_str_lower PySem.F.type_str_lower mt_lower (xv 0))))) ?_
 refine ⟨_,rfl,vS l, .str (S l),rfl, .str _ (strOk_S (name_asc hn)) (by rw[S_len];omega),fun H' sm=>⟨_,rfl,?_⟩⟩
 rw[isNm_S]
 refine ite2 (fun c=>by rw[hn] at c;cases c) (fun _=>?_)
 refine ⟨_,rfl,rfl,_,rfl,rfl,by rw[S_len];exact hl,?_⟩
 rw[lower_S l (name_asc hn)]
 exact q H' sm
abbrev sNeedCode:Stmt:=top 39
theorem scNeedCode:FnScope ["thing","signs"] ["thing"] (defScope sNeedCode):=⟨rfl,rfl,rfl,by decide +kernel,rfl,by decide +kernel,by decide +kernel⟩
theorem ok_needCode {f:Addr} {fd:FuncData} (F:Fun K "need_code" "need_code" sNeedCode f fd) (T:TxP K mg c BT) (D_need_signs:DefR P w K mg base 1 "need_signs" ["thing"] (spStr BT sgD)):FnOk P w K mg base (CXr P w) 2 f fd ["thing"] (spStr BT cdD):=by
 have sc:=scNeedCode
 refine F.okR sc (fun vs H Q E h=>?_) (fun cdv A outer s H vs Q E hr h=>?_)
 ·obtain ⟨v,d,rfl,_⟩:=h
  rfl
 obtain ⟨v,d,rfl,hd,q,qe⟩:=h
 refine of_XB (xbc (xset (i:=1) sc.nd rfl (Or.inl rfl) (xcP D_need_signs (hr.mono (by omega)) (xac (xv 0) xa0)))
  (xbc (xif (xcmpT op_in_str xstr (xv 1) (by with_unfolding_all rfl)) (xb1 (xraise T.x_BadTree T.c_BadTree rfl raises_cx (xac xstr xa0))) xb0)
  (xb1 (xret (xv 1))))) ?_
 rw[show start ["thing","signs"] [v]=[some v,none] from rfl]
 refine ⟨_,rfl,v,d,rfl,hd,fun x hx g hv H1 s1=>?_,fun hn H1 s1=>qe ?_ H1 s1⟩
 ·dsimp only[gName,List.set_cons_succ,List.set_cons_zero]
  have hde:=sgD_eq hx
  subst hde hv
  have hok:okSg x=true:=by
   have hx:(if okSg x=true then some x else none)=some x:=hx
   by_cases z:okSg x=true
   ·exact z
   ·rw[if_neg z] at hx;cases hx
  by_cases c1:hasS "`" x=true
  ·refine s_yes ((t_hasS (ev_v (k:=1) rfl)).eq c1) fun H2 s2=>⟨big (show (1:Nat)<=1000000 by decide),qe ?_ H2 (s1.trans s2)⟩
   show (if okCd x then some x else none)=none
   rw[if_neg]
   unfold okCd
   rw[c1]
   simp
  ·have c1:=Bool.eq_false_iff.mpr c1
   refine s_no1 ((t_hasS (ev_v (k:=1) rfl)).eq c1) fun H2 s2=>⟨_,rfl,q x ?_ g rfl H2 (s1.trans s2)⟩
   show (if okCd x then some x else none)=some x
   rw[if_pos]
   unfold okCd
   rw[c1,hok]
   rfl
 ·cases d with
  |str x=>
   show (if okCd x then some x else none)=none
   rw[if_neg]
   intro z
   unfold okCd at z
   rw[Bool.and_eq_true] at z
   have hn:(if okSg x=true then some x else none)=none:=hn
   rw[if_pos z.1] at hn
   cases hn
  |_=>rfl
abbrev sNeedName:Stmt:=top 40
theorem scNeedName:FnScope ["thing"] ["thing"] (defScope sNeedName):=⟨rfl,rfl,rfl,by decide +kernel,rfl,by decide +kernel,by decide +kernel⟩
theorem ok_needName {f:Addr} {fd:FuncData} (F:Fun K "need_small_name" "need_small_name" sNeedName f fd) (T:TxP K mg c BT) (D_is_name:Def P w K mg base 1 "is_name" ["thing"] spNameD) (D_name_of:Def P w K mg base 2 "name_of" ["thing"] spNameOf):FnOk P w K mg base (CXr P w) 3 f fd ["thing"] (spStr BT nmD):=by
 have sc:=scNeedName
 refine F.okR sc (fun vs H Q E h=>?_) (fun cdv A outer s H vs Q E hr h=>?_)
 ·obtain ⟨v,d,rfl,_⟩:=h
  rfl
 obtain ⟨v,d,rfl,hd,q,qe⟩:=h
 refine of_XB (xbc (xif (xor (xnotT (xvalT (xcD D_is_name (hr.mono (by omega)) (xac (xv 0) xa0)))) (xor1 (xcmpT op_ne (xv 0) (xcD D_name_of (hr.mono (by omega)) (xac (xv 0) xa0)) (nomark _)))).xt (xb1 (xraise T.x_BadTree T.c_BadTree rfl raises_cx (xac xstr xa0))) xb0)
  (xb1 (xret (xv 0)))) ?_
 have evN:Tells (tB (tCall spNameD [] E0 (tCons (tVar 0) tNil))) (start ["thing"] [v]) H (isNmD d):=fun R k=>⟨_,rfl,v,d,rfl,hd,fun H' s'=>⟨_,rfl,k _ s'⟩⟩
 by_cases c1:(isNmD d)=true
 ·rcases Dn.strCase hd with ⟨x,rfl,rfl,g⟩ |⟨h1,h2⟩
  rotate_left
  ·exfalso
   cases d <;> first |(simp[isNmD] at c1;done) |exact absurd rfl (h2 _)
  have c1:isNameC x.cps.toList=true:=c1
  have hx:V.str x=vS x.cps.toList:=by rw[show vS x.cps.toList=V.str (S x.cps.toList) from rfl,S_of]
  have hl:x.cps.toList.length<=1000000:=by have:=g.2;rw[<- S_of x,S_len] at this;omega
  have evM:∀ H1,Same H H1->Tells (tTest (tOp rNe (tVar 0) (tCall spNameOf [] E0 (tCons (tVar 0) tNil)))) (start ["thing"] [V.str x]) H1 (!decide (x=S (smallC x.cps.toList))):=fun H1 s1 R k=>⟨_,rfl,_,rfl,x.cps.toList,congrArg (fun z=>[z]) hx,hl,c1,fun H' s'=>⟨rfl,_,rfl,by
   rw[show decide (V.str x=vS (smallC x.cps.toList))=decide (x=S (smallC x.cps.toList)) by rw[decide_eq_decide];exact ⟨fun z=>V.str.inj z,fun z=>congrArg V.str z⟩]
   exact k _ s'⟩⟩
  by_cases c2:x=S (smallC x.cps.toList)
  ·refine s_no1 (t_or false false (t_not true (evN.eq c1)) fun _ H1 s1=>(evM H1 s1).eq (by rw[decide_eq_true c2];rfl)) fun H2 s2=>⟨_,rfl,q x ?_ g rfl H2 s2⟩
   show (if okNm x then some x else none)=some x
   rw[if_pos]
   unfold okNm
   rw[c1,decide_eq_true c2.symm]
   rfl
  ·refine s_yes (t_or false true (t_not true (evN.eq c1)) fun _ H1 s1=>(evM H1 s1).eq (by rw[decide_eq_false c2];rfl)) fun H2 s2=>⟨big (show (1:Nat)<=1000000 by decide),qe ?_ H2 s2⟩
   show (if okNm x then some x else none)=none
   rw[if_neg]
   unfold okNm
   rw[decide_eq_false (fun z=>c2 z.symm)]
   simp
 ·have c1:=Bool.eq_false_iff.mpr c1
  refine s_yes (t_or true false (t_not false (evN.eq c1)) fun z=>Bool.noConfusion z) fun H2 s2=>⟨big (show (1:Nat)<=1000000 by decide),qe ?_ H2 s2⟩
  cases d with
  |str x=>
   have c1:isNameC x.cps.toList=false:=c1
   show (if okNm x then some x else none)=none
   rw[if_neg]
   unfold okNm
   rw[c1]
   simp
  |_=>rfl
def begB:PC->Bool
 | .one (.plain s)=>Txt.startswith s " "
 |_=>false
def endB:PC->Bool
 | .one (.plain s)=>Txt.endswith s " "
 |_=>false
def spBlank (c:Cp) (g:PC->Bool):Sp:=fun vs H Q _=>∃ a p,vs=[.ref a]/\PCAt c H a p/\Q (.bl (g p)) H
abbrev sBegins:Stmt:=top 41
abbrev sEndsB:Stmt:=top 42
theorem scBegins:FnScope ["part"] ["part"] (defScope sBegins):=⟨rfl,rfl,rfl,by decide +kernel,rfl,by decide +kernel,by decide +kernel⟩
theorem scEndsB:FnScope ["part"] ["part"] (defScope sEndsB):=⟨rfl,rfl,rfl,by decide +kernel,rfl,by decide +kernel,by decide +kernel⟩
theorem ok_begins {f:Addr} {fd:FuncData} (F:Fun K "begins_with_blank" "begins_with_blank" sBegins f fd) (T:TxP K mg c BT):FnOk P w K mg base CX0 1 f fd ["part"] (spBlank c begB):=by
 have sc:=scBegins
 refine F.ok sc (fun vs H Q E h=>?_) (fun cdv A outer s H vs Q E hr h=>?_)
 ·obtain ⟨a,p,rfl,_⟩:=h
  rfl
 obtain ⟨a,p,rfl,ha,q⟩:=h
 refine of_XB (xb1 (xret (xandV (xcB call_isC T.n_isinstance rfl (xac (xv 0) (xac (xgC T.c_Plain) xa0))) (xone (xm PySem.F.plainAttrs_str PySem.F.slot_str_startswith PySem.F.type_str_startswith mt_startswith (xfld (xv 0)) (xac xstr xa0)))))) ?_
 obtain ⟨t,ht,hk⟩:=T.isPlain ha
 refine ⟨_,rfl,_,t,_,_,rfl,ht,hk,_,rfl,?_⟩
 match p,ha,hk,q with
 | .one (.plain x),⟨g,dx,e⟩,hk,q=>exact iteT ⟨_,rfl,a,_,dx,_,_,rfl,e,T.o_Plain.cls,T.a_Plain,rfl,rfl,_,_,rfl,rfl,by rw[sizeLine_eq];have:=g.2;omega,q⟩
 | .one (.code x),_,hk,q=>exact iteF q
 | .one (.link x y),_,hk,q=>exact iteF q
 | .one (.note x),_,hk,q=>exact iteF q
 | .strong x,_,hk,q=>exact iteF q
theorem ok_endsB {f:Addr} {fd:FuncData} (F:Fun K "ends_with_blank" "ends_with_blank" sEndsB f fd) (T:TxP K mg c BT):FnOk P w K mg base CX0 1 f fd ["part"] (spBlank c endB):=by
 have sc:=scEndsB
 refine F.ok sc (fun vs H Q E h=>?_) (fun cdv A outer s H vs Q E hr h=>?_)
 ·obtain ⟨a,p,rfl,_⟩:=h
  rfl
 obtain ⟨a,p,rfl,ha,q⟩:=h
 refine of_XB (xb1 (xret (xandV (xcB call_isC T.n_isinstance rfl (xac (xv 0) (xac (xgC T.c_Plain) xa0))) (xone (xm PySem.F.plainAttrs_str PySem.F.slot_str_endswith PySem.F.type_str_endswith mt_endswith (xfld (xv 0)) (xac xstr xa0)))))) ?_
 obtain ⟨t,ht,hk⟩:=T.isPlain ha
 refine ⟨_,rfl,_,t,_,_,rfl,ht,hk,_,rfl,?_⟩
 match p,ha,hk,q with
 | .one (.plain x),⟨g,dx,e⟩,hk,q=>exact iteT ⟨_,rfl,a,_,dx,_,_,rfl,e,T.o_Plain.cls,T.a_Plain,rfl,rfl,_,_,rfl,rfl,by rw[sizeLine_eq];have:=g.2;omega,q⟩
 | .one (.code x),_,hk,q=>exact iteF q
 | .one (.link x y),_,hk,q=>exact iteF q
 | .one (.note x),_,hk,q=>exact iteF q
 | .strong x,_,hk,q=>exact iteF q
end
end K5
set_option Elab.async false
set_option linter.all false
set_option maxRecDepth 100000
set_option maxHeartbeats 4000000
namespace K5
open PySem L2 Lm Lw
theorem made_same {H H2:Hp} {x dx:Addr} {o1 o2:HO} (s:Same H H2) (hx:H2 x=none) (hd:H2 dx=none):Same H (upd (upd H2 dx o1) x o2):=same_grow (s.free hx) (same_grow (s.free hd) s)
section
variable {P:Program} {w:World} {K:PySem.W.Frag} {mg:Str->Option Value} {base:Heap} {c:Cp} {BT:Addr}
abbrev sNeedPart:Stmt:=top 36
theorem scNeedPart:FnScope ["thing","strong_too","sort"] ["thing","strong_too"] (defScope sNeedPart):=⟨rfl,rfl,rfl,by decide +kernel,rfl,by decide +kernel,by decide +kernel⟩
theorem ok_needPart {f:Addr} {fd:FuncData} {n:Nat} {st:Bool} {spI:Sp} (F:Fun K "need_part" "need_part" sNeedPart f fd) (T:TxP K mg c BT)
  (D_Link:New P w K mg base 1 "Link" c.Link ["self","words","name"] (spInit2 c.Link "words" "name")) (D_Plain:New P w K mg base 1 "Plain" c.Plain ["self","signs"] (spInit1 c.Plain "signs")) (D_Code:New P w K mg base 1 "Code" c.Code ["self","signs"] (spInit1 c.Code "signs"))
  (D_Mark:New P w K mg base 1 "Mark" c.Mark ["self","name"] (spInit1 c.Mark "name")) (D_Strong:New P w K mg base 1 "Strong" c.Strong ["self","parts"] (spInitS c.Strong))
  (D_need_signs:DefR P w K mg base 1 "need_signs" ["thing"] (spStr BT sgD)) (D_need_code:DefR P w K mg base 2 "need_code" ["thing"] (spStr BT cdD)) (D_need_small_name:DefR P w K mg base 3 "need_small_name" ["thing"] (spStr BT nmD))
  (D_need_inner:DefR P w K mg base n "need_inner" ["told"] spI) (hI:st=true->∀ vs H Q E,spInner BT c vs H Q E->spI vs H Q E):FnOk P w K mg base (CXr P w) (n+4) f fd ["thing","strong_too"] (spPart BT c st):=by
 have sc:=scNeedPart
 refine F.okR sc (fun vs H Q E h=>?_) (fun cdv A outer s H vs Q E hr h=>?_)
 ·obtain ⟨v,d,rfl,_⟩:=h
  rfl
 obtain ⟨v,d,rfl,hd,q,qe⟩:=h
 refine of_XB (xbc (xif (xor (xnotT (xvalT (xcB call_isT T.n_isinstance rfl (xac (xv 0) (xac (xty (T:="tuple") T.n_tuple rfl) xa0))))) (xor (xcmpT op_lt (xcB call_len_seq T.n_len PySem.boot_len (xac (xv 0) xa0)) xint (nomark _)) (xor1 (xnotT (xvalT (xcB call_isT T.n_isinstance rfl (xac (xix ix_tup (xv 0) xint (fun _ _=>rfl)) (xac (xty (T:="str") T.n_str rfl) xa0)))))))).xt (xb1 (xraise T.x_BadTree T.c_BadTree rfl raises_cx (xac xstr xa0))) xb0)
  (xbc (xset (i:=2) sc.nd rfl (Or.inl rfl) (xix ix_tup (xv 0) xint (fun _ _=>rfl)))
  (xbc (xif (xand (xcmpT op_eq (xv 2) xstr (nomark _)) (xand1 (xcmpT op_eq (xcB call_len_seq T.n_len PySem.boot_len (xac (xv 0) xa0)) xint (nomark _)))).xt (xb1 (xret (xnew D_Link (hr.mono (by omega)) (xac (xcP D_need_signs (hr.mono (by omega)) (xac (xix ix_tup (xv 0) xint (fun _ _=>rfl)) xa0)) (xac (xcP D_need_small_name (hr.mono (by omega)) (xac (xix ix_tup (xv 0) xint (fun _ _=>rfl)) xa0)) xa0))))) xb0)
  (xbc (xif (xand (xcmpT op_eq (xcB call_len_seq T.n_len PySem.boot_len (xac (xv 0) xa0)) xint (nomark _)) (xand1 (xcmpT op_eq (xv 2) xstr (nomark _)))).xt (xb1 (xret (xnew D_Plain (hr.mono (by omega)) (xac (xcP D_need_signs (hr.mono (by omega)) (xac (xix ix_tup (xv 0) xint (fun _ _=>rfl)) xa0)) xa0)))) xb0)
  (xbc (xif (xand (xcmpT op_eq (xcB call_len_seq T.n_len PySem.boot_len (xac (xv 0) xa0)) xint (nomark _)) (xand1 (xcmpT op_eq (xv 2) xstr (nomark _)))).xt (xb1 (xret (xnew D_Code (hr.mono (by omega)) (xac (xcP D_need_code (hr.mono (by omega)) (xac (xix ix_tup (xv 0) xint (fun _ _=>rfl)) xa0)) xa0)))) xb0)
  (xbc (xif (xand (xcmpT op_eq (xcB call_len_seq T.n_len PySem.boot_len (xac (xv 0) xa0)) xint (nomark _)) (xand1 (xcmpT op_eq (xv 2) xstr (nomark _)))).xt (xb1 (xret (xnew D_Mark (hr.mono (by omega)) (xac (xcP D_need_small_name (hr.mono (by omega)) (xac (xix ix_tup (xv 0) xint (fun _ _=>rfl)) xa0)) xa0)))) xb0)
  (xbc (xif (xand (xcmpT op_eq (xcB call_len_seq T.n_len PySem.boot_len (xac (xv 0) xa0)) xint (nomark _)) (xand (xcmpT op_eq (xv 2) xstr (nomark _)) (xand1 (xvalT (xv 1))))).xt (xb1 (xret (xnew D_Strong (hr.mono (by omega)) (xac (xcP D_need_inner (hr.mono (by omega)) (xac (xix ix_tup (xv 0) xint (fun _ _=>rfl)) xa0)) xa0)))) xb0)
  (xb1 (xraise T.x_BadTree T.c_BadTree rfl raises_cx (xac xstr xa0)))))))))) ?_
 rw[show start ["thing","strong_too","sort"] [v,V.bl st]=[some v,some (V.bl st),none] from rfl]
 have hk:=(kit_D K d).2.2
 rcases Dn.tupCase hd with ⟨a,xs,ds,rfl,rfl,ea,hxs⟩ |⟨h1,h2⟩
 rotate_left
 ·rw[h1] at hk
  refine s_yes (t_or true false (t_not false (t_isT (ev_v rfl) hd hk)) (fun z=>Bool.noConfusion z)) fun H1 s1=>⟨big (show (1:Nat)<=1000000 by decide),qe ?_ H1 s1⟩
  cases d <;> first |rfl |exact absurd rfl (h2 _)
 have hk:PySem.W.kitOne K (.type (tyD (.tuple ds))) (.type "tuple")=some true:=hk
 have hlen:=hxs.len
 have evL:∀ {x2:Option V} {H1:Hp},Same H H1->Ev (tCB (fun xs H Q=>∃ p ys,xs=[.ref p]/\(SqL K H p ys ∨ SqT K H p ys)/\Q (.int ys.length) H) (tCons (tVar 0) tNil)) [some (.ref a),some (.bl st),x2] H1 (.int xs.length):=fun s1=>ev_lenS (ev_v rfl) (.inr (SqT.of (s1 _ _ ea)))
 by_cases hl2:xs.length < 2
 ·refine s_yes (t_or false true (t_not true (t_isT (ev_v rfl) hd hk)) fun _ H1 s1=>(t_or true false ((t_relG (p:=fun i j=>decide (i < j)) (evL s1) ev_c).eq (decide_eq_true (by omega))) (fun z=>Bool.noConfusion z))) fun H1 s1=>⟨big (show (1:Nat)<=1000000 by decide),qe ?_ H1 s1⟩
  match ds,hlen with
  | [],_=>rfl
  | [d0],_=>cases d0 <;> rfl
  |d0::d1::r,h=>(rw[h,List.length_cons,List.length_cons] at hl2;omega)
 obtain ⟨d0,d1',rest,rfl⟩:∃ d0 d1' rest,ds=d0::d1'::rest:=by
  match ds,hlen with
  | [],h=>exact absurd (show xs.length < 2 by rw[h];decide) hl2
  | [_],h=>exact absurd (show xs.length < 2 by rw[h];exact Nat.lt_succ_self 1) hl2
  |d0::d1::r,_=>exact ⟨_,_,_,rfl⟩
 obtain ⟨x0,e0,hd0⟩:=hxs.get (i:=0) rfl
 obtain ⟨x1,e1,hd1⟩:=hxs.get (i:=1) rfl
 have hk0:=(kit_D K d0).1
 have ev0:∀ {x2:Option V} {H1:Hp},Same H H1->Ev (tOp (rIxT K) (tVar 0) (tC (.int 0))) [some (.ref a),some (.bl st),x2] H1 x0:=fun s1=>ev_ixT (ev_v rfl) ev_c (SqT.of (s1 _ _ ea)) (atI_nat (j:=0) e0)
 have ev1:∀ {x2:Option V} {H1:Hp},Same H H1->Ev (tOp (rIxT K) (tVar 0) (tC (.int 1))) [some (.ref a),some (.bl st),x2] H1 x1:=fun s1=>ev_ixT (ev_v rfl) ev_c (SqT.of (s1 _ _ ea)) (atI_nat (j:=1) e1)
 have tL2:∀ H1,Same H H1->Tells (tTest (tOp (rI0 fun i j => .bl (decide (i < j))) (tCB (fun xs H Q=>∃ p ys,xs=[.ref p]/\(SqL K H p ys ∨ SqT K H p ys)/\Q (.int ys.length) H) (tCons (tVar 0) tNil)) (tC (.int 2)))) [some (.ref a),some (.bl st),none] H1 false:=fun H1 s1=>(t_relG (p:=fun i j=>decide (i < j)) (evL s1) ev_c).eq (decide_eq_false (by omega))
 rcases Dn.strCase hd0 with ⟨k,rfl,rfl,gk⟩ |⟨h1,h2⟩
 rotate_left
 ·rw[h1] at hk0
  refine s_yes (t_or false true (t_not true (t_isT (ev_v rfl) hd hk)) fun _ H1 s1=>(t_or false true (tL2 H1 s1) fun _ H2 s2=>t_not false (t_isT (ev0 (s1.trans s2)) (hd0.same (s1.trans s2)) hk0))) fun H1 s1=>⟨big (show (1:Nat)<=1000000 by decide),qe ?_ H1 s1⟩
  cases d0 <;> first | exact absurd rfl (h2 _) | (match rest with
   | []=>rfl
   | [_]=>rfl
   |_::_::_=>rfl)
 have hk0:PySem.W.kitOne K (.type (tyD (.str k))) (.type "str")=some true:=hk0
 refine s_no1 (t_or false false (t_not true (t_isT (ev_v rfl) hd hk)) fun _ H1 s1=>(t_or false false (tL2 H1 s1) fun _ H2 s2=>t_not true (t_isT (ev0 (s1.trans s2)) (hd0.same (s1.trans s2)) hk0))) fun H1 s1=>?_
 refine ev0 s1 _ ?_
 dsimp only[gName,List.set_cons_succ,List.set_cons_zero]
 have tK:∀ (y:Str) H2,Tells (tTest (tOp rEq (tVar 2) (tC (.str y)))) [some (.ref a),some (.bl st),some (.str k)] H2 (decide (k=y)):=fun y H2=>t_eqS (ev_v rfl) ev_c
 have tM:∀ (m:Int) H2,Same H H2->Tells (tTest (tOp rEq (tCB (fun xs H Q=>∃ p ys,xs=[.ref p]/\(SqL K H p ys ∨ SqT K H p ys)/\Q (.int ys.length) H) (tCons (tVar 0) tNil)) (tC (.int m)))) [some (.ref a),some (.bl st),some (.str k)] H2 (decide ((xs.length:Int)=m)):=fun m H2 s2=>t_eqi (evL s2) ev_c
 have tF:∀ (y:Str) (m:Int) (b:Bool) H2,Same H H2->(decide (k=y)&&decide ((xs.length:Int)=m))=b->Tells (tAnd (tTest (tOp rEq (tVar 2) (tC (.str y)))) (tTest (tOp rEq (tCB (fun xs H Q=>∃ p ys,xs=[.ref p]/\(SqL K H p ys ∨ SqT K H p ys)/\Q (.int ys.length) H) (tCons (tVar 0) tNil)) (tC (.int m))))) [some (.ref a),some (.bl st),some (.str k)] H2 b:=fun y m b H2 s2 e=>(t_and _ _ (tK y H2) fun _ H3 s3=>tM m H3 (s2.trans s3)).eq e
 have tG:∀ (y:Str) (m:Int) (b:Bool) H2,Same H H2->(decide ((xs.length:Int)=m)&&decide (k=y))=b->Tells (tAnd (tTest (tOp rEq (tCB (fun xs H Q=>∃ p ys,xs=[.ref p]/\(SqL K H p ys ∨ SqT K H p ys)/\Q (.int ys.length) H) (tCons (tVar 0) tNil)) (tC (.int m)))) (tTest (tOp rEq (tVar 2) (tC (.str y))))) [some (.ref a),some (.bl st),some (.str k)] H2 b:=fun y m b H2 s2 e=>(t_and _ _ (tM m H2 s2) fun _ H3 s3=>tK y H3).eq e
 have tS:∀ (y:Str) (m:Int) (b:Bool) H2,Same H H2->(decide ((xs.length:Int)=m)&&(decide (k=y)&&st))=b->Tells (tAnd (tTest (tOp rEq (tCB (fun xs H Q=>∃ p ys,xs=[.ref p]/\(SqL K H p ys ∨ SqT K H p ys)/\Q (.int ys.length) H) (tCons (tVar 0) tNil)) (tC (.int m)))) (tAnd (tTest (tOp rEq (tVar 2) (tC (.str y)))) (tB (tVar 1)))) [some (.ref a),some (.bl st),some (.str k)] H2 b:=fun y m b H2 s2 e=>(t_and _ _ (tM m H2 s2) fun _ H3 s3=>t_and _ _ (tK y H3) fun _ H4 s4=>t_bv (ev_v rfl)).eq e
 obtain ⟨n1,n2,n3,n4,n5,n6,n7,n8,n9,n10⟩:=kinds
 have hxl:xs.length=rest.length+2:=by rw[hlen];rfl
 by_cases h3:rest.length=1
 ·obtain ⟨d2,rfl⟩:∃ d2,rest=[d2]:=by
   match rest,h3 with
   | [d2],_=>exact ⟨d2,rfl⟩
  obtain ⟨x2,e2,hd2⟩:=hxs.get (i:=2) rfl
  have h23:decide ((xs.length:Int)=2)=false:=decide_eq_false (by omega)
  by_cases hkl:k=kLink
  ·subst hkl
   refine s_yes (tF "link" 3 true H1 s1 (by rw[decide_eq_true rfl,decide_eq_true (by omega)];rfl)) fun H2 s2=>?_
   have s12:=s1.trans s2
   refine ev1 s12 _ ⟨x1,d1',rfl,hd1.same s12,fun wd hw gw ew H3 s3=>?_,fun hn H3 s3=>qe ?_ H3 (s12.trans s3)⟩
   ·have s13:=s12.trans s3
    refine ev_ixT (ev_v rfl) ev_c (SqT.of (s13 _ _ ea)) (atI_nat (j:=2) e2) _ ⟨x2,d2,rfl,hd2.same s13,fun nm hn gn en H4 s4 x dx hx hdx hne=>?_,fun hn H4 s4=>qe ?_ H4 (s13.trans s4)⟩
    ·have s14:=s13.trans s4
     subst ew en
     refine ⟨x,dx,_,_,rfl,upd_same,rfl,q (.one (.link wd nm)) ?_ x _ (same_grow (s14.free hx) (same_grow (s14.free hx) (made_same s14 hx hdx))) ⟨gw,gn,dx,by rw[dif_at (s14.free hx)];exact upd_same⟩⟩
     rw[partD_3,if_pos rfl]
     unfold lnD
     rw[hw,hn]
     rfl
    ·rw[partD_3,if_pos rfl]
     unfold lnD
     rw[hw,hn]
     rfl
   ·rw[partD_3,if_pos rfl]
    unfold lnD
    rw[hn]
    rfl
  ·refine s_no1 (tF "link" 3 false H1 s1 (by rw[decide_eq_false hkl];rfl)) fun H2 s2=>?_
   refine s_no1 (tG "plain" 2 false H2 (s1.trans s2) (by rw[h23];rfl)) fun H3 s3=>?_
   refine s_no1 (tG "code" 2 false H3 ((s1.trans s2).trans s3) (by rw[h23];rfl)) fun H4 s4=>?_
   refine s_no1 (tG "note" 2 false H4 (((s1.trans s2).trans s3).trans s4) (by rw[h23];rfl)) fun H5 s5=>?_
   refine s_no1 (tS "strong" 2 false H5 ((((s1.trans s2).trans s3).trans s4).trans s5) (by rw[h23];rfl)) fun H6 s6=>⟨big (show (1:Nat)<=1000000 by decide),qe ?_ H6 (((((s1.trans s2).trans s3).trans s4).trans s5).trans s6)⟩
   rw[partD_3,if_neg hkl]
 have hl3:decide ((xs.length:Int)=3)=false:=decide_eq_false (by omega)
 refine s_no1 (tF "link" 3 false H1 s1 (by rw[hl3,Bool.and_false])) fun H2 s2'=>?_
 have s2:=s1.trans s2'
 by_cases h0:rest=[]
 rotate_left
 ·have h22:decide ((xs.length:Int)=2)=false:=decide_eq_false (by have:rest.length≠0:=fun z=>h0 (List.eq_nil_of_length_eq_zero z);omega)
  refine s_no1 (tG "plain" 2 false H2 s2 (by rw[h22];rfl)) fun H3 s3=>?_
  refine s_no1 (tG "code" 2 false H3 (s2.trans s3) (by rw[h22];rfl)) fun H4 s4=>?_
  refine s_no1 (tG "note" 2 false H4 ((s2.trans s3).trans s4) (by rw[h22];rfl)) fun H5 s5=>?_
  refine s_no1 (tS "strong" 2 false H5 (((s2.trans s3).trans s4).trans s5) (by rw[h22];rfl)) fun H6 s6=>⟨big (show (1:Nat)<=1000000 by decide),qe ?_ H6 ((((s2.trans s3).trans s4).trans s5).trans s6)⟩
  match rest,h0,h3 with
  | [],z,_=>exact absurd rfl z
  | [_],_,z=>exact absurd rfl z
  |_::_::_,_,_=>rfl
 subst h0
 have h22:decide ((xs.length:Int)=2)=true:=decide_eq_true (by have:xs.length=2:=hxl;omega)
 by_cases hp:k=kPlain
 ·subst hp
  refine s_yes (tG "plain" 2 true H2 s2 (by rw[h22,decide_eq_true rfl];rfl)) fun H3 s3'=>?_
  have s3:=s2.trans s3'
  refine ev1 s3 _ ⟨x1,d1',rfl,hd1.same s3,fun wd hw gw ew H4 s4' x dx hx hdx hne=>?_,fun hn H4 s4=>qe (by rw[partD_2,if_pos rfl,hn];rfl) H4 (s3.trans s4)⟩
  have s4:=s3.trans s4'
  subst ew
  exact ⟨x,dx,_,rfl,upd_same,rfl,q (.one (.plain wd)) (by rw[partD_2,if_pos rfl,hw];rfl) x _ (same_grow (s4.free hx) (made_same s4 hx hdx)) ⟨gw,dx,by rw[dif_at (s4.free hx)];exact upd_same⟩⟩
 refine s_no1 (tG "plain" 2 false H2 s2 (by rw[decide_eq_false hp,Bool.and_false])) fun H3 s3'=>?_
 have s3:=s2.trans s3'
 by_cases hc:k=kCode
 ·subst hc
  refine s_yes (tG "code" 2 true H3 s3 (by rw[h22,decide_eq_true rfl];rfl)) fun H4 s4'=>?_
  have s4:=s3.trans s4'
  refine ev1 s4 _ ⟨x1,d1',rfl,hd1.same s4,fun wd hw gw ew H5 s5' x dx hx hdx hne=>?_,fun hn H5 s5=>qe (by rw[partD_2,if_neg (Ne.symm n1),if_pos rfl,hn];rfl) H5 (s4.trans s5)⟩
  have s5:=s4.trans s5'
  subst ew
  exact ⟨x,dx,_,rfl,upd_same,rfl,q (.one (.code wd)) (by rw[partD_2,if_neg (Ne.symm n1),if_pos rfl,hw];rfl) x _ (same_grow (s5.free hx) (made_same s5 hx hdx)) ⟨gw,dx,by rw[dif_at (s5.free hx)];exact upd_same⟩⟩
 refine s_no1 (tG "code" 2 false H3 s3 (by rw[decide_eq_false hc,Bool.and_false])) fun H4 s4'=>?_
 have s4:=s3.trans s4'
 by_cases hn':k=kNote
 ·subst hn'
  refine s_yes (tG "note" 2 true H4 s4 (by rw[h22,decide_eq_true rfl];rfl)) fun H5 s5'=>?_
  have s5:=s4.trans s5'
  refine ev1 s5 _ ⟨x1,d1',rfl,hd1.same s5,fun wd hw gw ew H6 s6' x dx hx hdx hne=>?_,fun hn H6 s6=>qe (by rw[partD_2,if_neg (Ne.symm n2),if_neg (Ne.symm n4),if_pos rfl,hn];rfl) H6 (s5.trans s6)⟩
  have s6:=s5.trans s6'
  subst ew
  exact ⟨x,dx,_,rfl,upd_same,rfl,q (.one (.note wd)) (by rw[partD_2,if_neg (Ne.symm n2),if_neg (Ne.symm n4),if_pos rfl,hw];rfl) x _ (same_grow (s6.free hx) (made_same s6 hx hdx)) ⟨gw,dx,by rw[dif_at (s6.free hx)];exact upd_same⟩⟩
 refine s_no1 (tG "note" 2 false H4 s4 (by rw[decide_eq_false hn',Bool.and_false])) fun H5 s5'=>?_
 have s5:=s4.trans s5'
 by_cases hs:k=kStrong/\st=true
 ·obtain ⟨rfl,rfl⟩:=hs
  refine s_yes (tS "strong" 2 true H5 s5 (by rw[h22,decide_eq_true rfl];rfl)) fun H6 s6'=>?_
  have s6:=s5.trans s6'
  refine ev1 s6 _ (hI rfl _ _ _ _ ⟨x1,d1',rfl,hd1.same s6,fun ps hps r as H7 s7' hr7 er hP x dx hx hdx hne=>?_,fun hn H7 s7=>qe (by rw[partD_2,if_neg hp,if_neg hc,if_neg hn',if_pos rfl,if_pos rfl,hn];rfl) H7 (s6.trans s7)⟩)
  have s7:=s6.trans s7'
  have sm:=made_same (H:=H7) (Same.refl _) (o1 := .own x) (o2 := .ins c.Strong dx []) hx hdx
  refine ⟨x,dx,r,_,rfl,upd_same,sm _ _ er,fun p hp'=>⟨rfl,q (.strong ps) (by rw[partD_2,if_neg hp,if_neg hc,if_neg hn',if_pos rfl,if_pos rfl,hps];rfl) x _ ?_ ?_⟩⟩
  ·have sA:=made_same s7 (o1 := .own x) (o2 := .ins c.Strong dx []) hx hdx
   exact same_grow (s7.free hx) (same_grow (sA.free hp') sA)
  ·have npx:p≠x:=fun z=>by rw[z,upd_same] at hp';cases hp'
   have sA:=made_same s7 (o1 := .own x) (o2 := .ins c.Strong dx []) hx hdx
   refine ⟨dx,p,as,by rw[dif_at (s7.free hx)];exact upd_same,by rw[dif_at (sA.free hp'),upd_ne npx,upd_same],hP.same (dif_grow s6 fun b o e=>?_)⟩
   have nb:b≠x:=fun z=>by rw[z,hx] at e;cases e
   rw[upd_ne nb]
   exact same_new hp' _ _ _ (sm _ _ e)
 ·refine s_no1 (tS "strong" 2 false H5 s5 ?_) fun H6 s6=>⟨big (show (1:Nat)<=1000000 by decide),qe ?_ H6 (s5.trans s6)⟩
  ·by_cases z:k=kStrong
   ·have:st=false:=Bool.eq_false_iff.mpr fun y=>hs ⟨z,y⟩
    rw[this,Bool.and_false,Bool.and_false]
   ·rw[decide_eq_false z,Bool.false_and,Bool.and_false]
  ·rw[partD_2,if_neg hp,if_neg hc,if_neg hn']
   by_cases z:k=kStrong
   ·have:st=false:=Bool.eq_false_iff.mpr fun y=>hs ⟨z,y⟩
    rw[this,if_pos z]
    rfl
   ·rw[if_neg z]
abbrev sNeedRun:Stmt:=top 35
theorem scNeedRun:FnScope ["told","strong_too","parts","thing","part"] ["told","strong_too"] (defScope sNeedRun):=⟨rfl,rfl,rfl,by decide +kernel,rfl,by decide +kernel,by decide +kernel⟩
def NewP (c:Cp) (H0:Hp) (p:Addr) (H:Hp) (as:List Addr) (ps:List PC):Prop:=∃ G,Same G H/\G p=none/\(∀ b,H0 b≠none->G b=none)/\PCs c G as ps
theorem NewP.same {c:Cp} {H0 H H':Hp} {p:Addr} {as:List Addr} {ps:List PC} (h:NewP c H0 p H as ps) (s:Same H H'):NewP c H0 p H' as ps:=let ⟨G,a,b,d,e⟩:=h;⟨G,a.trans s,b,d,e⟩
theorem NewP.upd {c:Cp} {H0 H:Hp} {p:Addr} {as:List Addr} {ps:List PC} {o:HO} (h:NewP c H0 p H as ps):NewP c H0 p (L2.upd H p o) as ps:=
 let ⟨G,a,b,d,e⟩:=h;⟨G,fun x u q=>(upd_ne (fun z=>by rw[z,b] at q;cases q)).trans (a x u q),b,d,e⟩
theorem NewP.out {c:Cp} {H0 H:Hp} {p:Addr} {as:List Addr} {ps:List PC} (h:NewP c H0 p H as ps):PCs c H as ps:=let ⟨G,a,b,d,e⟩:=h;e.same a
theorem NewP.dif {c:Cp} {H0 H:Hp} {p:Addr} {as:List Addr} {ps:List PC} (h:NewP c H0 p H as ps):PCs c (L2.dif H0 H) as ps:=
 let ⟨G,a,b,d,e⟩:=h;e.same fun x u q=>by
  have:H0 x=none:=Classical.byContradiction fun z=>by rw[d x z] at q;cases q
  rw[dif_at this]
  exact a _ _ q
theorem NewP.snoc {c:Cp} {H0 H H':Hp} {p b:Addr} {as:List Addr} {ps:List PC} {pc:PC} (h:NewP c H0 p H as ps) (s0:Same H0 H) (s:Same H H') (hp:H p≠none) (k:PCAt c (L2.dif H H') b pc):NewP c H0 p H' (as++[b]) (ps++[pc]):=by
 obtain ⟨G,a,b',d,e⟩:=h
 have i1:=a.trans s
 refine ⟨both G (L2.dif H H'),both_in i1 dif_same,?_,fun x hx=>?_,(e.same both_l).snoc (k.same (both_r i1 dif_same))⟩
 ·unfold both
  rw[b']
  exact dif_none hp
 ·unfold both
  rw[d x hx]
  refine dif_none ?_
  cases q:H0 x with
  |none=>exact absurd q hx
  |some o=>rw[s0 _ _ q];simp
theorem run_step {part:PyData->Option PC} {ds:List PyData} {i:Nat} {d:PyData} {prev:Bool} (h:ds[i]? = some d):runG part prev (ds.drop i)=match part d with
  |none=>none
  |some p=>if prev&&p.isPlain then none else (runG part p.isPlain (ds.drop (i+1))).map (p :: ·):=by
 obtain ⟨hi,he⟩:=List.getElem?_eq_some_iff.mp h
 rw[List.drop_eq_getElem_cons hi,he]
 rfl
def lastP (ps:List PC):Bool:=match ps.getLast? with
 |some p=>p.isPlain
 |none=>false
theorem lastP_snoc (ps:List PC) (p:PC):lastP (ps++[p])=p.isPlain:=by unfold lastP;rw[List.getLast?_concat]
theorem ok_needRun {f:Addr} {fd:FuncData} {n:Nat} {st:Bool} (F:Fun K "need_run" "need_run" sNeedRun f fd) (T:TxP K mg c BT) (D_need_part:DefR P w K mg base n "need_part" ["thing","strong_too"] (spPart BT c st)):FnOk P w K mg base (CXr P w) (n+1) f fd ["told","strong_too"] (spRun K BT c st):=by
 have sc:=scNeedRun
 refine F.okR sc (fun vs H Q E h=>?_) (fun cdv A outer s H vs Q E hr h=>?_)
 ·obtain ⟨v,rfl,_⟩:=h
  rfl
 obtain ⟨v,rfl,h⟩:=h
 have hu:(A.deeper (PyProof.Rows.envOfC "need_run" (defScope sNeedRun) s.heap.objs.size f cdv)).units+64 < cLine:=by
  have:=hr.un
  omega
 refine of_XB (xbc (xif (xnotT (xvalT (xcB call_isT T.n_isinstance rfl (xac (xv 0) (xac (xty (T:="list") T.n_list rfl) xa0))))) (xb1 (xraise T.x_BadTree T.c_BadTree rfl raises_cx (xac xstr xa0))) xb0)
  (xbc (xset (i:=2) sc.nd rfl (Or.inl rfl) (xlst xa0))
  (xbc (xfor PassesOwn.leaving rfl (xil (xv 0)) (xgn (i:=3) sc.nd rfl (Or.inl rfl))
  (xbc (xset (i:=4) sc.nd rfl (Or.inl rfl) (xcP D_need_part (hr.mono (by omega)) (xac (xv 3) (xac (xv 1) xa0))))
  (xbc (xif (xand (xcmpT (op_ne0 hu) (xv 2) (xlst xa0) (nomark _)) (xand (xvalT (xcB call_isC T.n_isinstance rfl (xac (xv 4) (xac (xgC T.c_Plain) xa0)))) (xand1 (xvalT (xcB call_isC T.n_isinstance rfl (xac (xix ix_list (xv 2) (xun un_neg xint) (fun _ _=>rfl)) (xac (xgC T.c_Plain) xa0))))))).xt (xb1 (xraise T.x_BadTree T.c_BadTree rfl raises_cx (xac xstr xa0))) xb0)
  (xb1 (xexpr (xm PySem.F.plainAttrs_list PySem.F.slot_list_append PySem.F.type_list_append mt_append (xv 2) (xac (xv 4) xa0)))))))
  (xb1 (xret (xv 2)))))) ?_
 rw[show start ["told","strong_too","parts","thing","part"] [v,V.bl st]=[some v,some (V.bl st),none,none,none] from rfl]
 rcases h with ⟨a,xs,ds,rfl,ea,hds,hdl,q,qe⟩ |⟨⟨t,ht,hk⟩,qe⟩
 rotate_left
 ·exact s_yes (t_not false fun R k=>⟨_,rfl,_,_,_,_,rfl,ht,hk,_,rfl,k _ (Same.refl _)⟩) fun H1 s1=>⟨big (show (1:Nat)<=1000000 by decide),qe H1 s1⟩
 refine s_no1 (t_not true fun R k=>⟨_,rfl,_,_,_,_,rfl, .lst ea,kit_same _ _,_,rfl,k _ (Same.refl _)⟩) fun H1 s1=>?_
 have hlen:=hds.len
 refine ⟨big (show (0:Nat)<=1000000 by decide),fun p hp=>?_⟩
 have s2:=s1.trans (same_new hp (.lst []))
 have hp0:H p=none:=s1.free hp
 have ep2:upd H1 p (.lst []) p=some (.lst []):=upd_same
 dsimp only[gName,List.set_cons_succ,List.set_cons_zero]
 generalize upd H1 p (.lst [])=H2 at s2 ep2 ⊢
 have hs:sizeLine=16777216:=sizeLine_eq
 refine ⟨_,rfl,a,rfl,⟨_,SqL.of (s2 _ _ ea)⟩,?_⟩
 refine for_list (xs:=xs) (fun i σ H'=>∃ as ps x3 x4,σ=[some (.ref a),some (.bl st),some (.ref p),x3,x4]/\Same H H'/\H' p=some (.lst (as.map V.ref))/\NewP c H p H' as ps/\as.length=i/\runG (partD st) false ds=(runG (partD st) (lastP ps) (ds.drop i)).map (ps ++ ·))
  ⟨[],[],none,none,rfl,s2,ep2,⟨fun _=>none,(fun _ _ z=>nomatch z),rfl,(fun _ _=>rfl),trivial⟩,rfl,by show _=(runG _ false ds).map _;cases runG (partD st) false ds <;> rfl⟩ ?_ ?_ ?_
 ·rintro i σ H3 _ ⟨as,ps,x3,x4,_,s3,_⟩
  exact SqL.of (s3 _ _ ea)
 ·rintro i x σ H3 hx ⟨as,ps,x3,x4,rfl,s3,ep3,hnew,hal,hrun⟩
  obtain ⟨d,hdi,hdx⟩:=hds.getV hx
  rw[run_step hdi] at hrun
  dsimp only[gName,List.set_cons_succ,List.set_cons_zero]
  have hil:=(List.getElem?_eq_some_iff.mp hx).1
  refine ⟨_,rfl,_,rfl,x,d,rfl,hdx.same s3,fun pc hpc b H4 s4 hPb'=>?_,fun hn H4 s4=>qe (by rw[hrun,hn];rfl) H4 (s3.trans s4)⟩
  have hps:=hnew.out
  have hPb:=hPb'.same dif_same
  rw[hpc] at hrun
  dsimp only at hrun
  dsimp only[gName,List.set_cons_succ,List.set_cons_zero]
  have s34:=s3.trans s4
  have ep4:=s4 _ _ ep3
  have hps4:=hps.same s4
  obtain ⟨t1,ht1,hk1⟩:=T.isPlain hPb
  have hpl:=hps.len
  have hT:Tells (tAnd (tTest (tOp (rEq0 K true) (tVar 2) (tLst tNil))) (tAnd (tB (tCB (rIsC K) (tCons (tVar 4) (tCons (tC (.ref c.Plain)) tNil)))) (tB (tCB (rIsC K) (tCons (tOp (rIxL K) (tVar 2) (tUn (rU fun i => .int (-i)) (tC (.int 1)))) (tCons (tC (.ref c.Plain)) tNil)))))) [some (.ref a),some (.bl st),some (.ref p),some x,some (.ref b)] H4 (lastP ps&&pc.isPlain):=by
   rcases List.eq_nil_or_concat ps with hz |⟨ps',pl,hz⟩
   ·have hz2:as=[]:=List.eq_nil_of_length_eq_zero (by rw[hpl,hz];rfl)
    refine (t_and false false (fun R k=>t_ne0 (ev_v rfl) (SqL.of ep4) R fun H' s'=>by rw[hz2];exact k H' s') (fun z=>Bool.noConfusion z)).eq ?_
    rw[hz]
    rfl
   ·rw[List.concat_eq_append] at hz
    obtain ⟨as',al,hal2⟩:∃ as' al,as=as'++[al]:=by
     rcases List.eq_nil_or_concat as with hz2 |⟨as',al,hz2⟩
     ·rw[hz2,hz] at hpl;simp at hpl
     ·exact ⟨as',al,by rw[hz2,List.concat_eq_append]⟩
    have hat:PCAt c H4 al pl:=by
     have h1:as[as'.length]? = some al:=by rw[hal2,List.getElem?_append_right (Nat.le_refl _),Nat.sub_self];rfl
     obtain ⟨pp,h2,h3⟩:=hps4.get h1
     have h4:as'.length=ps'.length:=by rw[hal2,hz,List.length_append,List.length_append] at hpl;simpa using hpl
     rw[hz,h4,List.getElem?_append_right (Nat.le_refl _),Nat.sub_self] at h2
     cases h2
     exact h3
    obtain ⟨t2,ht2,hk2⟩:=T.isPlain hat
    have hlast:lastP ps=pl.isPlain:=by rw[hz];exact lastP_snoc ps' pl
    have hev:∀ H5,Same H4 H5->Ev (tOp (rIxL K) (tVar 2) (tUn (rU fun i => .int (-i)) (tC (.int 1)))) [some (.ref a),some (.bl st),some (.ref p),some x,some (.ref b)] H5 (.ref al):=fun H5 s5=>ev_ixL (ev_v rfl) (ev_un ev_c rfl) (SqL.of (s5 _ _ ep4)) (by rw[hal2,List.map_append];exact atI_last _ _)
    refine (t_and true (pc.isPlain&&pl.isPlain) (fun R k=>t_ne0 (ev_v rfl) (SqL.of ep4) R fun H' s'=>by rw[hal2,show (!(List.map V.ref (as'++[al])).isEmpty)=true by simp];exact k H' s') (fun _ H5 s5=>t_and _ _ (fun R k=>?_) (fun _ H6 s6 R k=>?_))).eq ?_
    ·obtain ⟨t3,h3,k3⟩:=T.isPlain (hPb.same s5)
     exact t_isC (ev_v rfl) h3 k3 R k
    ·obtain ⟨t3,h3,k3⟩:=T.isPlain (hat.same (s5.trans s6))
     exact t_isC (hev H6 (s5.trans s6)) h3 k3 R k
    ·rw[hlast]
     cases pc.isPlain <;> cases pl.isPlain <;> rfl
  by_cases hc2:(lastP ps&&pc.isPlain)=true
  ·rw[if_pos hc2] at hrun
   refine s_yes (hT.eq hc2) fun H5 s5=>⟨big (show (1:Nat)<=1000000 by decide),qe (by rw[hrun];rfl) H5 (s34.trans s5)⟩
  ·rw[if_neg hc2] at hrun
   refine s_no1 (hT.eq (Bool.eq_false_iff.mpr hc2)) fun H5 s5=>?_
   have ep5:=s5 _ _ ep4
   refine ⟨_,rfl, .inl ⟨rfl,_,SqL.of ep5⟩,_,rfl,p,_,_,rfl,rfl,ep5,by rw[List.length_map];omega,?_⟩
   refine ⟨as++[b],ps++[pc],_,_,rfl,same_grow hp0 (s34.trans s5),by rw[upd_same,List.map_append];rfl,(((hnew.snoc s3 s4 (by rw[ep3];simp) hPb').same s5).upd),by rw[List.length_append,hal];rfl,?_⟩
   ·rw[hrun,lastP_snoc]
    cases runG (partD st) pc.isPlain (ds.drop (i+1)) with
    |none=>rfl
    |some qs=>show some _=some _;simp
 ·rintro σ H3 ⟨as,ps,x3,x4,rfl,s3,ep3,hnew,hal,hrun⟩
  rw[hlen,List.drop_length] at hrun
  exact ⟨_,rfl,q ps (by rw[hrun];show (some []).map _=_;simp) p as H3 s3 hp0 ep3 hnew.dif⟩
end
end K5
set_option Elab.async false
set_option linter.all false
set_option maxRecDepth 100000
set_option maxHeartbeats 4000000
namespace K5
open PySem L2 Lm Lw
theorem partD_false:partD false=partG noGo:=rfl
theorem Dn.noList {K:PySem.W.Frag} {H:Hp} {v:V} {d:PyData} (h:Dn H v d) (hn:(tyD d=="list")=false):∃ t,TyOf K H v t/\PySem.W.kitOne K t (.type "list")=some false:=⟨_,h.ty,by rw[(kit_D K d).2.1,hn]⟩
section
variable {P:Program} {w:World} {K:PySem.W.Frag} {mg:Str->Option Value} {base:Heap} {c:Cp} {BT:Addr}
abbrev sNeedInner:Stmt:=top 37
theorem scNeedInner:FnScope ["told","parts"] ["told"] (defScope sNeedInner):=⟨rfl,rfl,rfl,by decide +kernel,rfl,by decide +kernel,by decide +kernel⟩
theorem ok_needInner {f:Addr} {fd:FuncData} {n:Nat} (F:Fun K "need_inner" "need_inner" sNeedInner f fd) (T:TxP K mg c BT) (D_need_run:DefR P w K mg base n "need_run" ["told","strong_too"] (spRun K BT c false)):FnOk P w K mg base (CXr P w) (n+1) f fd ["told"] (spInner BT c):=by
 have sc:=scNeedInner
 refine F.okR sc (fun vs H Q E h=>?_) (fun cdv A outer s H vs Q E hr h=>?_)
 ·obtain ⟨v,d,rfl,_⟩:=h
  rfl
 obtain ⟨v,d,rfl,hd,q,qe⟩:=h
 have hu:(A.deeper (PyProof.Rows.envOfC "need_inner" (defScope sNeedInner) s.heap.objs.size f cdv)).units+64 < cLine:=by
  have:=hr.un
  omega
 refine of_XB (xbc (xset (i:=1) sc.nd rfl (Or.inl rfl) (xcP D_need_run (hr.mono (by omega)) (xac (xv 0) (xac xbl xa0))))
  (xbc (xif (xcmpT (op_eq0 hu) (xv 1) (xlst xa0) (nomark _)) (xb1 (xraise T.x_BadTree T.c_BadTree rfl raises_cx (xac xstr xa0))) xb0)
  (xb1 (xret (xv 1))))) ?_
 rw[show start ["told","parts"] [v]=[some v,none] from rfl]
 rcases Dn.lstCase hd with ⟨a,xs,ds,rfl,rfl,ea,hds,hl⟩ |⟨h1,h2⟩
 rotate_left
 ·refine ⟨_,rfl,v,rfl, .inr ⟨Dn.noList hd h1,fun H' s'=>qe ?_ H' s'⟩⟩
  cases d <;> first |rfl |exact absurd rfl (h2 _)
 refine ⟨_,rfl, .ref a,rfl, .inl ⟨a,xs,ds,rfl,ea,hds,hl,fun ps hps r as H1 s1 hr1 er hP=>?_,fun hn H1 s1=>qe ?_ H1 s1⟩⟩
 ·dsimp only[gName,List.set_cons_succ,List.set_cons_zero]
  rw[partD_false] at hps
  have hlen:=hP.len
  cases ps with
  |nil=>
   have hz:as=[]:=List.eq_nil_of_length_eq_zero hlen
   refine s_yes (fun R k=>t_eq0 (ev_v rfl) (SqL.of er) R fun H' s'=>by rw[hz];exact k H' s') fun H2 s2=>⟨big (show (1:Nat)<=1000000 by decide),qe ?_ H2 (s1.trans s2)⟩
   show (match runG (partG noGo) false ds with |some (p::ps)=>some (ones (p::ps)) |_=>none)=none
   rw[hps]
  |cons p0 ps=>
   have hz:(as.map V.ref).isEmpty=false:=by
    cases as with
    |nil=>simp at hlen
    |cons _ _=>rfl
   refine s_no1 ((t_eq0 (ev_v rfl) (SqL.of er)).eq hz) fun H2 s2=>⟨_,rfl,q (ones (p0::ps)) ?_ r as H2 (s1.trans s2) hr1 (s2 _ _ er) ((hP.same (dif_grow (Same.refl _) s2)).ones (run0_ones hps))⟩
   show (match runG (partG noGo) false ds with |some (p::ps)=>some (ones (p::ps)) |_=>none)=_
   rw[hps]
 ·rw[partD_false] at hn
  show (match runG (partG noGo) false ds with |some (p::ps)=>some (ones (p::ps)) |_=>none)=none
  rw[hn]
abbrev sNeedParts:Stmt:=top 34
theorem scNeedParts:FnScope ["told","parts"] ["told"] (defScope sNeedParts):=⟨rfl,rfl,rfl,by decide +kernel,rfl,by decide +kernel,by decide +kernel⟩
theorem ends_cons (p:PC) (ps:List PC) {pl:PC} {ps':List PC} (h:p::ps=ps'++[pl]):endsOk (p::ps)=(!begB p && !endB pl):=by
 have hl:(p::ps).getLast (by simp)=pl:=by
  have:(p::ps).getLast? = some pl:=by rw[h,List.getLast?_concat]
  rw[List.getLast?_eq_some_getLast (by simp)] at this
  exact Option.some.inj this
 unfold endsOk
 dsimp only
 rw[hl]
 cases p with
 | one p => cases p <;> (cases pl with
  |one q=>cases q <;> rfl
  |strong _=>rfl)
 | strong _ => (cases pl with
  |one q=>cases q <;> rfl
  |strong _=>rfl)
theorem ok_needParts {f:Addr} {fd:FuncData} {n:Nat} (F:Fun K "need_parts" "need_parts" sNeedParts f fd) (T:TxP K mg c BT) (D_need_run:DefR P w K mg base (n+1) "need_run" ["told","strong_too"] (spRun K BT c true)) (D_begins_with_blank:Def P w K mg base 1 "begins_with_blank" ["part"] (spBlank c begB)) (D_ends_with_blank:Def P w K mg base 1 "ends_with_blank" ["part"] (spBlank c endB)):
  FnOk P w K mg base (CXr P w) (n+2) f fd ["told"] (spNeed K BT c):=by
 have sc:=scNeedParts
 refine F.okR sc (fun vs H Q E h=>?_) (fun cdv A outer s H vs Q E hr h=>?_)
 ·obtain ⟨v,rfl,_⟩:=h
  rfl
 obtain ⟨v,rfl,h⟩:=h
 have hu:(A.deeper (PyProof.Rows.envOfC "need_parts" (defScope sNeedParts) s.heap.objs.size f cdv)).units+64 < cLine:=by
  have:=hr.un
  omega
 refine of_XB (xbc (xset (i:=1) sc.nd rfl (Or.inl rfl) (xcP D_need_run (hr.mono (by omega)) (xac (xv 0) (xac xbl xa0))))
  (xbc (xif (xand (xcmpT (op_ne0 hu) (xv 1) (xlst xa0) (nomark _)) (xand1 (xor (xvalT (xcD D_begins_with_blank (hr.mono (by omega)) (xac (xix ix_list (xv 1) xint (fun _ _=>rfl)) xa0))) (xor1 (xvalT (xcD D_ends_with_blank (hr.mono (by omega)) (xac (xix ix_list (xv 1) (xun un_neg xint) (fun _ _=>rfl)) xa0))))).xt)).xt (xb1 (xraise T.x_BadTree T.c_BadTree rfl raises_cx (xac xstr xa0))) xb0)
  (xb1 (xret (xv 1))))) ?_
 rw[show start ["told","parts"] [v]=[some v,none] from rfl]
 rcases h with ⟨a,xs,ds,rfl,ea,hds,hdl,q,qe⟩ |⟨ht,qe⟩
 rotate_left
 ·exact ⟨_,rfl,v,rfl, .inr ⟨ht,fun H' s'=>qe H' s'⟩⟩
 refine ⟨_,rfl, .ref a,rfl, .inl ⟨a,xs,ds,rfl,ea,hds,hdl,fun ps hps r as H1 s1 hr1 er hP=>?_,fun hn H1 s1=>qe ?_ H1 s1⟩⟩
 rotate_left
 ·show (match runG (partD true) false ds with |some ps=>if endsOk ps then some ps else none |none=>none)=none
  rw[hn]
 dsimp only[gName,List.set_cons_succ,List.set_cons_zero]
 have hlen:=hP.len
 have hP1:=hP.same dif_same
 have hnorm:normD (.list ds)=if endsOk ps then some ps else none:=by
  show (match runG (partD true) false ds with |some ps=>if endsOk ps then some ps else none |none=>none)=_
  rw[hps]
 rcases List.eq_nil_or_concat ps with hz |⟨ps',pl,hz⟩
 ·subst hz
  have hz:as=[]:=List.eq_nil_of_length_eq_zero hlen
  refine s_no1 (t_and false false (fun R k=>t_ne0 (ev_v rfl) (SqL.of er) R fun H' s'=>by rw[hz];exact k H' s') (fun z=>Bool.noConfusion z)) fun H2 s2=>⟨_,rfl,q [] (by rw[hnorm];rfl) r as H2 (s1.trans s2) hr1 (s2 _ _ er) (hP.same (dif_grow (Same.refl _) s2))⟩
 rw[List.concat_eq_append] at hz
 obtain ⟨p0,pr,hp0⟩:∃ p0 pr,ps=p0::pr:=by
  cases ps with
  |nil=>simp at hz
  |cons p0 pr=>exact ⟨p0,pr,rfl⟩
 obtain ⟨a0,ar,ha0⟩:∃ a0 ar,as=a0::ar:=by
  cases as with
  |nil=>rw[hp0] at hlen;simp at hlen
  |cons a0 ar=>exact ⟨a0,ar,rfl⟩
 obtain ⟨as',al,hal⟩:∃ as' al,as=as'++[al]:=by
  rcases List.eq_nil_or_concat as with hz2 |⟨as',al,hz2⟩
  ·rw[hz2] at ha0;cases ha0
  ·exact ⟨as',al,by rw[hz2,List.concat_eq_append]⟩
 have hA0:PCAt c H1 a0 p0:=by
  obtain ⟨pp,h2,h3⟩:=hP1.get (i:=0) (a:=a0) (by rw[ha0];rfl)
  rw[hp0] at h2
  cases h2
  exact h3
 have hAl:PCAt c H1 al pl:=by
  have h1:as[as'.length]? = some al:=by rw[hal,List.getElem?_append_right (Nat.le_refl _),Nat.sub_self];rfl
  obtain ⟨pp,h2,h3⟩:=hP1.get h1
  have h4:as'.length=ps'.length:=by rw[hal,hz,List.length_append,List.length_append] at hlen;simpa using hlen
  rw[hz,h4,List.getElem?_append_right (Nat.le_refl _),Nat.sub_self] at h2
  cases h2
  exact h3
 have hends:endsOk ps=(!begB p0 && !endB pl):=by rw[hp0];exact ends_cons p0 pr (by rw[<- hp0];exact hz)
 have hT:Tells (tAnd (tTest (tOp (rEq0 K true) (tVar 1) (tLst tNil))) (tOr (tB (tCall (spBlank c begB) [] E0 (tCons (tOp (rIxL K) (tVar 1) (tC (.int 0))) tNil))) (tB (tCall (spBlank c endB) [] E0 (tCons (tOp (rIxL K) (tVar 1) (tUn (rU fun i => .int (-i)) (tC (.int 1)))) tNil))))) [some (.ref a),some (.ref r)] H1 (true&&(begB p0||endB pl)):=by
  refine t_and true _ (fun R k=>t_ne0 (ev_v rfl) (SqL.of er) R fun H' s'=>by rw[ha0];exact k H' s') (fun _ H2 s2=>t_or _ _ (fun R k=>?_) (fun _ H3 s3 R k=>?_))
  ·exact ⟨_,rfl,r,_,_,_,rfl,rfl,SqL.of (s2 _ _ er),atI_nat (j:=0) (by rw[ha0];rfl),a0,p0,rfl,hA0.same s2,_,rfl,k _ (Same.refl _)⟩
  ·exact ⟨_,rfl,_,rfl,r,_,_,_,rfl,rfl,SqL.of ((s2.trans s3) _ _ er),(by rw[hal,List.map_append];exact atI_last _ _),al,pl,rfl,hAl.same (s2.trans s3),_,rfl,k _ (Same.refl _)⟩
 by_cases hb:(begB p0||endB pl)=true
 ·refine s_yes (hT.eq (by rw[hb];rfl)) fun H2 s2=>⟨big (show (1:Nat)<=1000000 by decide),qe ?_ H2 (s1.trans s2)⟩
  rw[hnorm,if_neg]
  rw[hends,<- Bool.not_or,hb]
  simp
 ·have hb:=Bool.eq_false_iff.mpr hb
  refine s_no1 (hT.eq (by rw[hb];rfl)) fun H2 s2=>⟨_,rfl,q ps ?_ r as H2 (s1.trans s2) hr1 (s2 _ _ er) (hP.same (dif_grow (Same.refl _) s2))⟩
  rw[hnorm,if_pos]
  rw[hends,<- Bool.not_or,hb]
  rfl
end
end K5
set_option Elab.async false
set_option linter.all false
set_option maxRecDepth 100000
set_option maxHeartbeats 2000000
namespace K5
open PySem L2 Lm Lw PySem.Builtin.Int
structure TxL (mg:Str->Option Value):Prop where
 n_len:mg "len"=none
 n_range:mg "range"=none
 n_int:mg "int"=none
abbrev vI (ns:List Int):List V:=ns.map V.int
theorem bits64 {i:Int} (h1 : -(2 ^ 64) < i) (h2:i < 2 ^ 64):intBits i<=1048576:=Nat.le_trans (intBits_le_64 h1 h2) (by decide)
section
variable {P:Program} {w:World} {K:PySem.W.Frag} {mg:Str->Option Value} {base:Heap}
abbrev sCell:Stmt:=top 44
theorem scCell:FnScope ["_law_script","_law_k"] ["_law_script","_law_k"] (defScope sCell):=⟨rfl,rfl,rfl,by decide +kernel,rfl,by decide +kernel,by decide +kernel⟩
def spCell (K:PySem.W.Frag):Sp:=fun vs H Q _=>∃ (a:Addr) (ns:List Int) (k:Int),vs=[.ref a, .int k]/\0<=k/\SqL K H a (vI ns)/\(∀ n∈ns,intBits n<=1048576)/\∀ i,intBits i<=1048576->Q (.int i) H
theorem ok_cell {f:Addr} {fd:FuncData} (F:Fun K "_law_cell" "_law_cell" sCell f fd) (T:TxL mg):FnOk P w K mg base CX0 1 f fd ["_law_script","_law_k"] (spCell K):=by
 have sc:=scCell
 refine F.ok sc (fun vs H Q E h=>?_) (fun cdv A outer s H vs Q E hr h=>?_)
 ·obtain ⟨a,ns,k,rfl,_⟩:=h
  rfl
 obtain ⟨a,ns,k,rfl,k0,hq,hn,q⟩:=h
 refine of_XB (xbc (xif (xcmpT op_lt (xv 1) (xcB call_len_seq T.n_len PySem.boot_len (xac (xv 0) xa0)) (nomark _)) (xb1 (xret (xix ix_list (xv 0) (xv 1) (fun _ _=>rfl)))) xb0)
  (xb1 (xret xint))) ?_
 refine ⟨_,rfl,_,rfl,a,_,rfl, .inl hq,_,_,rfl,rfl,_,rfl,?_⟩
 rw[List.length_map]
 refine ite2 (fun c=>?_) (fun _=>q 0 (by decide))
 have c:=of_decide_eq_true c
 obtain ⟨j,rfl⟩:∃ j:Nat,k=(j:Int):=⟨k.toNat,(Int.toNat_of_nonneg k0).symm⟩
 have hk:j < ns.length:=by omega
 exact ⟨_,rfl,_,rfl,a,_,_, .int ns[j],rfl,rfl,hq,atI_nat (by rw[List.getElem?_map,List.getElem?_eq_getElem hk];rfl),q _ (hn _ (List.getElem_mem hk))⟩
abbrev sMixed:Stmt:=top 45
theorem scMixed:FnScope ["_law_cell_here","_law_k","_law_number"] ["_law_cell_here","_law_k"] (defScope sMixed):=⟨rfl,rfl,rfl,by decide +kernel,rfl,by decide +kernel,by decide +kernel⟩
def spMixed:Sp:=fun vs H Q _=>∃ c k:Int,vs=[.int c, .int k]/\intBits c<=1048576/\0<=k/\k<=10000/\Q (.int (mixF c k)) H
theorem ok_mixed {f:Addr} {fd:FuncData} (F:Fun K "_law_mixed" "_law_mixed" sMixed f fd):FnOk P w K mg base CX0 1 f fd ["_law_cell_here","_law_k"] spMixed:=by
 have sc:=scMixed
 refine F.ok sc (fun vs H Q E h=>?_) (fun cdv A outer s H vs Q E hr h=>?_)
 ·obtain ⟨c,k,rfl,_⟩:=h
  rfl
 obtain ⟨c,k,rfl,hc,h0,h1,q⟩:=h
 refine of_XB (xbc (xset (i:=2) sc.nd rfl (Or.inl rfl) (xop op_add (xop op_add (xop op_add (xv 0) (xop op_mul (xop op_mul xint (xv 1)) (xv 1))) (xop op_mul xint (xv 1))) xint))
  (xb1 (xret (xop op_fdiv (xop op_mod (xop op_mul (xop op_mod (xop op_mulB (xv 2) (xv 2)) xint) xint) xint) xint)))) ?_
 have hk2:0<=7919 * k * k/\7919 * k * k<=791900000000:=by
  constructor
  ·exact Int.mul_nonneg (by omega) h0
  ·calc 7919 * k * k<=79190000 * 10000:=Int.mul_le_mul (by omega) h1 h0 (by omega)
    _=791900000000:=rfl
 have hn:intBits (c+7919 * k * k+13 * k+5)<=1048580:=by
  have h2:=intBits_add_le (intBits_add_le (intBits_add_le hc (intBits_le_64 (k:=7919 * k * k) (by omega) (by omega))) (intBits_le_64 (k:=13 * k) (by omega) (by omega))) (intBits_le_64 (k:=5) (by omega) (by omega))
  exact Nat.le_trans h2 (by decide)
 refine ⟨_,rfl,_,rfl,_,_,rfl,rfl, .inl ⟨by decide,by decide⟩,_,rfl,_,_,rfl,rfl, .inr ⟨by omega,by omega⟩,_,_,rfl,rfl,_,rfl,_,_,rfl,rfl, .inl ⟨by decide,by decide⟩,_,_,rfl,rfl,_,_,rfl,rfl,?_⟩
 refine ⟨_,rfl,_,rfl,_,_,rfl,rfl,IntMulOk.of_le hn hn (by decide),_,_,rfl,rfl,show (0:Int) < 1000000007 by decide,_,_,rfl,rfl, .inr ⟨by decide,by decide⟩,_,_,rfl,rfl,show (0:Int) < 998244353 by decide,_,_,rfl,rfl,⟨by decide,by decide⟩,q⟩
abbrev sMenu:Stmt:=top 46
theorem scMenu:FnScope ["_law_kind","_law_letters","_law_marks"] ["_law_kind"] (defScope sMenu):=⟨rfl,rfl,rfl,by decide +kernel,rfl,by decide +kernel,by decide +kernel⟩
def spMenu:Sp:=fun vs H Q _=>∃ k:Int,vs=[.int k]/\∀ H',Same H H'->Q (vS (menuF k)) H'
theorem ok_menu {f:Addr} {fd:FuncData} (F:Fun K "_law_menu" "_law_menu" sMenu f fd):FnOk P w K mg base CX0 1 f fd ["_law_kind"] spMenu:=by
 have sc:=scMenu
 refine F.ok sc (fun vs H Q E h=>?_) (fun cdv A outer s H vs Q E hr h=>?_)
 ·obtain ⟨k,rfl,_⟩:=h
  rfl
 obtain ⟨k,rfl,q⟩:=h
 refine of_XB (xbc (xset (i:=1) sc.nd rfl (Or.inl rfl) xstr)
  (xbc (xset (i:=2) sc.nd rfl (Or.inl rfl) xstr)
  (xb1 (xret (xix ix_list (xlst (xac (xv 1) (xac (xop op_add_str (xv 2) xstr) (xac (xop op_add_str (xop op_add_str (xv 1) (xv 2)) xstr) xa0)))) (xop op_mod (xv 0) xint) (fun _ _=>rfl)))))) ?_
 have hs:sizeLine=16777216:=sizeLine_eq
 refine ⟨_,rfl,_,rfl,_,_,rfl,rfl,by rw[hs];decide +kernel,_,rfl,_,rfl,_,_,rfl,rfl,by rw[hs];decide +kernel,_,_,rfl,rfl,by rw[hs];decide +kernel,big (show (3:Nat)<=1000000 by decide),fun p hp=>?_⟩
 have e1:V.str (Str.ofString "abcdefghijklmnopqrstuvwxyzABCDEFGHIJKLMNOPQRSTUVWXYZ0123456789")=vS mnLet:=by decide +kernel
 have e2:V.str (Str.ofString "\\*`[]|-+=>~:^()"++Str.ofString "ab")=vS (mnMark++[97,98]):=by decide +kernel
 have e3:V.str (Str.ofString "abcdefghijklmnopqrstuvwxyzABCDEFGHIJKLMNOPQRSTUVWXYZ0123456789"++Str.ofString "\\*`[]|-+=>~:^()"++Str.ofString "!\"#$&',./;<?@_{}")=vS (mnLet++mnMark++mnMore):=by decide +kernel
 have hm:=Int.emod_nonneg k (show (3:Int)≠0 by decide)
 have hm2:=Int.emod_lt_of_pos k (show (0:Int) < 3 by decide)
 refine ⟨_,rfl,_,_,rfl,rfl,show (0:Int) < 3 by decide,p,_,k % 3,vS (menuF k),rfl,rfl,SqL.of upd_same,?_,q _ (same_new hp _)⟩
 unfold menuF
 rcases (show k % 3=0 ∨ k % 3=1 ∨ k % 3=2 by omega) with z |z |z
 ·rw[z,if_pos rfl];exact atI_nat (j:=0) (congrArg some e1)
 ·rw[z,if_neg (by decide),if_pos rfl];exact atI_nat (j:=1) (congrArg some e2)
 ·rw[z,if_neg (by decide),if_neg (by decide)];exact atI_nat (j:=2) (congrArg some e3)
abbrev sSigns:Stmt:=top 47
theorem scSigns:FnScope ["_law_number","_law_size","_law_menu_here","_law_found","_law_turn"] ["_law_number","_law_size","_law_menu_here"] (defScope sSigns):=⟨rfl,rfl,rfl,by decide +kernel,rfl,by decide +kernel,by decide +kernel⟩
def spSigns:Sp:=fun vs H Q _=>∃ (n size:Int) (m:List Nat),vs=[.int n, .int size,vS m]/\Menu m/\0<=size/\size<=1000/\0<=n/\n<=4294967296/\Q (vS (signsF n size m)) H
theorem ok_signs {f:Addr} {fd:FuncData} (F:Fun K "_law_signs" "_law_signs" sSigns f fd) (T:TxL mg):FnOk P w K mg base CX0 1 f fd ["_law_number","_law_size","_law_menu_here"] spSigns:=by
 have sc:=scSigns
 refine F.ok sc (fun vs H Q E h=>?_) (fun cdv A outer s H vs Q E hr h=>?_)
 ·obtain ⟨n,size,m,rfl,_⟩:=h
  rfl
 obtain ⟨n,size,m,rfl,hm,s0,s1,n0,n1,q⟩:=h
 refine of_XB (xbc (xset (i:=3) sc.nd rfl (Or.inl rfl) xstr)
  (xbc (xfor PassesOwn.never rfl (xir1 rfl T.n_range (xac (xv 1) xa0)) (xgn (i:=4) sc.nd rfl (Or.inl rfl))
  (xbc (xset (i:=0) sc.nd rfl (Or.inl rfl) (xop op_mod (xop op_add (xop op_add (xop op_mul (xv 0) xint) (xop op_mul (xop op_mul xint (xv 4)) (xv 4))) xint) xint))
  (xb1 (xset (i:=3) sc.nd rfl (Or.inl rfl) (xop op_add_str (xv 3) (xix ix_str (xv 2) (xop op_mod (xop op_fdiv (xv 0) xint) (xcB call_len_str T.n_len PySem.boot_len (xac (xv 2) xa0))) (fun _ _=>rfl)))))))
  (xb1 (xret (xv 3))))) ?_
 have hs:sizeLine=16777216:=sizeLine_eq
 rw[show start ["_law_number","_law_size","_law_menu_here","_law_found","_law_turn"] [V.int n,V.int size,vS m]=[some (V.int n),some (V.int size),some (vS m),none,none] from rfl]
 obtain ⟨sz,rfl⟩:∃ sz:Nat,size=(sz:Int):=⟨size.toNat,(Int.toNat_of_nonneg s0).symm⟩
 refine ⟨_,rfl,_,rfl,by omega,by omega,?_⟩
 rw[Int.toNat_natCast]
 have hbd:∀ t:Nat,0<=(sgGo m n t).1/\(sgGo m n t).1<=4294967296:=fun t=>by
  cases t with
  |zero=>exact ⟨n0,n1⟩
  |succ t=>
   have h1:=Int.emod_nonneg ((sgGo m n t).1 * 48271+7 * (t:Int) * (t:Int)+11) (show (2147483647:Int)≠0 by decide)
   have h2:=Int.emod_lt_of_pos ((sgGo m n t).1 * 48271+7 * (t:Int) * (t:Int)+11) (show (0:Int) < 2147483647 by decide)
   show 0<=sgStep t (sgGo m n t).1/\sgStep t (sgGo m n t).1<=4294967296
   unfold sgStep
   omega
 have hml:=hm.2.1
 refine for_range (n:=sz) (fun t σ H'=>∃ x4,σ=[some (.int (sgGo m n t).1),some (.int (sz:Nat)),some (vS m),some (vS (sgGo m n t).2),x4]/\H'=H) ⟨none,rfl,rfl⟩ ?_ ?_
 ·rintro t σ H' ht ⟨x4,rfl,rfl⟩
  obtain ⟨b1,b2⟩:=hbd t
  obtain ⟨l1,l2⟩:=sgGo_ok hm n t
  have ht2:0<=7 * (t:Int) * (t:Int):=Int.mul_nonneg (by omega) (by omega)
  refine ⟨_,rfl,_,_,rfl,rfl, .inr ⟨by decide,by decide⟩,_,rfl,_,_,rfl,rfl, .inl ⟨by decide,by decide⟩,_,rfl,_,_,rfl,rfl, .inr ⟨by omega,by omega⟩,_,_,rfl,rfl,_,_,rfl,rfl,_,_,rfl,rfl,show (0:Int) < 2147483647 by decide,?_⟩
  dsimp only[gName,List.set_cons_succ,List.set_cons_zero]
  rw[show ((sgGo m n t).1 * 48271+7 * (0+(t:Int)) * (0+(t:Int))+11) % 2147483647=sgStep t (sgGo m n t).1 by rw[Int.zero_add];rfl]
  have hat:=sg_at hm (sgStep t (sgGo m n t).1 / 13)
  have evI:Ev (tOp rIxS (tVar 2) (tOp (rI (fun _ j=>0 < j) fun i j => .int (i % j)) (tOp (rI CDiv fun i j => .int (i / j)) (tVar 0) (tC (.int 13))) (tCB (fun xs H Q=>∃ z,xs=[.str z]/\z.length<=sizeLine/\Q (.int z.length) H) (tCons (tVar 2) tNil)))) [some (.int (sgStep t (sgGo m n t).1)),some (.int (sz:Nat)),some (vS m),some (vS (sgGo m n t).2),some (.int (0+(t:Int)))] H' (vS [m.getD (sgStep t (sgGo m n t).1 / 13 % (m.length:Int)).toNat 0]):=by
   intro R r
   refine ⟨_,rfl,_,rfl,_,_,rfl,rfl,⟨by decide,by decide⟩,_,rfl,_,rfl,bigS (by omega),_,_,rfl,rfl,by rw[S_len];have:=hm.1;omega,?_⟩
   rw[S_len]
   exact w_ixs (by omega) hat.1 (by omega) r
  refine ⟨_,rfl,evI _ ⟨_,_,rfl,rfl,?_,?_⟩⟩
  ·rw[S_len,S_len,hs];show _+1<=_;omega
  ·rw[catS]
   exact ⟨_,rfl,rfl⟩
 ·rintro σ H' ⟨x4,rfl,rfl⟩
  exact ⟨_,rfl,q⟩
abbrev sText:Stmt:=top 48
theorem scText:FnScope ["_law_number","_law_most","_law_words","_law_turn","_law_own"] ["_law_number","_law_most"] (defScope sText):=⟨rfl,rfl,rfl,by decide +kernel,rfl,by decide +kernel,by decide +kernel⟩
def spText:Sp:=fun vs H Q _=>∃ n most:Int,vs=[.int n, .int most]/\0<=n/\n<=4294967296/\1<=most/\most<=100/\∀ H',Same H H'->Q (vS (textF n most)) H'
theorem ok_text {f:Addr} {fd:FuncData} (F:Fun K "_law_text" "_law_text" sText f fd) (T:TxL mg) (D_l_mixed:Def P w K mg base 1 "_law_mixed" ["_law_cell_here","_law_k"] spMixed) (D_l_menu:Def P w K mg base 1 "_law_menu" ["_law_kind"] spMenu) (D_l_signs:Def P w K mg base 1 "_law_signs" ["_law_number","_law_size","_law_menu_here"] spSigns):
  FnOk P w K mg base CX0 2 f fd ["_law_number","_law_most"] spText:=by
 have sc:=scText
 refine F.ok sc (fun vs H Q E h=>?_) (fun cdv A outer s H vs Q E hr h=>?_)
 ·obtain ⟨n,most,rfl,_⟩:=h
  rfl
 obtain ⟨n,most,rfl,n0,n1,m0,m1,q⟩:=h
 refine of_XB (xbc (xset (i:=2) sc.nd rfl (Or.inl rfl) (xlst xa0))
  (xbc (xfor PassesOwn.never rfl (xir1 rfl T.n_range (xac (xop op_add xint (xop op_mod (xv 0) (xv 1))) xa0)) (xgn (i:=3) sc.nd rfl (Or.inl rfl))
  (xbc (xset (i:=4) sc.nd rfl (Or.inl rfl) (xcD D_l_mixed (hr.mono (by omega)) (xac (xv 0) (xac (xop op_add (xop op_mul xint (xv 3)) xint) xa0))))
  (xb1 (xexpr (xm PySem.F.plainAttrs_list PySem.F.slot_list_append PySem.F.type_list_append mt_append (xv 2) (xac (xcD D_l_signs (hr.mono (by omega)) (xac (xv 4) (xac (xop op_add xint (xop op_mod (xop op_fdiv (xv 4) xint) xint)) (xac (xcD D_l_menu (hr.mono (by omega)) (xac (xop op_fdiv (xv 4) xint) xa0)) xa0)))) xa0))))))
  (xb1 (xret (xm PySem.F.plainAttrs_str PySem.F.slot_str_join PySem.F.type_str_join mt_join xstr (xac (xv 2) xa0)))))) ?_
 have hs:sizeLine=16777216:=sizeLine_eq
 rw[show start ["_law_number","_law_most","_law_words","_law_turn","_law_own"] [V.int n,V.int most]=[some (V.int n),some (V.int most),none,none,none] from rfl]
 have hm:=Int.emod_nonneg n (show most≠0 by omega)
 have hm2:=Int.emod_lt_of_pos n (show 0 < most by omega)
 refine ⟨big (show (0:Nat)<=1000000 by decide),fun p hp=>?_⟩
 have s1:=same_new hp (.lst [])
 have ep1:upd H p (.lst []) p=some (.lst []):=upd_same
 dsimp only[gName,List.set_cons_succ,List.set_cons_zero]
 generalize upd H p (.lst [])=H1 at s1 ep1 ⊢
 refine ⟨_,rfl,_,rfl,_,_,rfl,rfl,show (0:Int) < most by omega,_,_,rfl,rfl,_,rfl,by omega,by omega,?_⟩
 obtain ⟨cnt,hcnt⟩:∃ cnt:Nat,cnt=(1+n % most).toNat:=⟨_,rfl⟩
 rw[<- hcnt]
 refine for_range (n:=cnt) (fun t σ H'=>∃ x3 x4,σ=[some (.int n),some (.int most),some (.ref p),x3,x4]/\Same H H'/\H' p=some (.lst (((List.range t).map (wordF n)).map vS))) ⟨none,none,rfl,s1,ep1⟩ ?_ ?_
 ·rintro t σ H2 ht ⟨x3,x4,rfl,s2,ep2⟩
  have hmx:=mixF_ok n (3 * (t:Int)+1)
  refine ⟨_,rfl,_,rfl,_,_,rfl,rfl, .inl ⟨by decide,by decide⟩,_,_,rfl,rfl,n,3 * (0+(t:Int))+1,rfl,bits64 (by omega) (by omega),by omega,by omega,?_⟩
  dsimp only[gName,List.set_cons_succ,List.set_cons_zero]
  rw[Int.zero_add,show mixF n (3 * (t:Int)+1)=ownF n t from rfl]
  rw[show mixF n (3 * (t:Int)+1)=ownF n t from rfl] at hmx
  have hw:=word_ok n t
  refine ⟨_,rfl, .inl ⟨rfl,_,SqL.of ep2⟩,_,rfl,_,rfl,_,_,rfl,rfl,⟨by decide,by decide⟩,_,_,rfl,rfl,show (0:Int) < 6 by decide,_,_,rfl,rfl,_,rfl,_,_,rfl,rfl,⟨by decide,by decide⟩,ownF n t / 50,rfl,fun H3 s3=>?_⟩
  have ep3:=s3 _ _ ep2
  refine ⟨ownF n t,1+ownF n t / 7 % 6,menuF (ownF n t / 50),rfl,menu_ok _,by omega,by omega,by omega,by omega,p,_,_,rfl,rfl,ep3,by rw[List.length_map,List.length_map,List.length_range];omega,?_⟩
  refine ⟨_, _, rfl, same_grow (by
   cases e:H p with
   |none=>rfl
   |some o=>rw[e] at hp;cases hp) (s2.trans s3),?_⟩
  rw[upd_same,List.range_succ,List.map_append,List.map_append]
  rfl
 ·rintro σ H2 ⟨x3,x4,rfl,s2,ep2⟩
  have hl:=(text_ok n most m0 m1).2
  refine ⟨rfl,_,rfl,S [32],p,((List.range cnt).map (wordF n)).map S,rfl,rfl,SqL.of (by rw[ep2,map_S_V]),glue_fit (by unfold textF at hl;rw[<- hcnt] at hl;omega),?_⟩
  rw[joinT_S]
  have:=q H2 s2
  unfold textF at this
  rw[<- hcnt] at this
  exact this
abbrev sName7:Stmt:=top 49
theorem scName7:FnScope ["_law_number","_law_size","_law_at"] ["_law_number"] (defScope sName7):=⟨rfl,rfl,rfl,by decide +kernel,rfl,by decide +kernel,by decide +kernel⟩
def spName7:Sp:=fun vs H Q _=>∃ n:Int,vs=[.int n]/\0<=n/\n<=4294967296/\∀ H',Same H H'->Q (vS (nameF n)) H'
theorem ok_name7 {f:Addr} {fd:FuncData} (F:Fun K "_law_name" "_law_name" sName7 f fd) (T:TxL mg) (D_l_menu:Def P w K mg base 1 "_law_menu" ["_law_kind"] spMenu) (D_l_signs:Def P w K mg base 1 "_law_signs" ["_law_number","_law_size","_law_menu_here"] spSigns):
  FnOk P w K mg base CX0 2 f fd ["_law_number"] spName7:=by
 have sc:=scName7
 refine F.ok sc (fun vs H Q E h=>?_) (fun cdv A outer s H vs Q E hr h=>?_)
 ·obtain ⟨n,rfl,_⟩:=h
  rfl
 obtain ⟨n,rfl,n0,n1,q⟩:=h
 refine of_XB (xbc (xset (i:=1) sc.nd rfl (Or.inl rfl) (xop op_add xint (xop op_mod (xop op_fdiv (xv 0) xint) xint)))
  (xbc (xif (xcmpT op_eq (xop op_mod (xv 0) xint) xint (nomark _)) (xb1 (xret (xcD D_l_signs (hr.mono (by omega)) (xac (xop op_fdiv (xv 0) xint) (xac (xv 1) (xac (xcD D_l_menu (hr.mono (by omega)) (xac xint xa0)) xa0)))))) xb0)
  (xbc (xset (i:=2) sc.nd rfl (Or.inl rfl) (xop op_mod (xop op_fdiv (xv 0) xint) (xv 1)))
  (xb1 (xret (xop op_add_str (xop op_add_str (xop op_mulS xstr (xv 2)) (xcD D_l_signs (hr.mono (by omega)) (xac (xop op_fdiv (xv 0) xint) (xac xint (xac (xcD D_l_menu (hr.mono (by omega)) (xac xint xa0)) xa0))))) (xop op_mulS xstr (xop op_sub (xop op_sub (xv 1) xint) (xv 2))))))))) ?_
 have hs:sizeLine=16777216:=sizeLine_eq
 rw[show start ["_law_number","_law_size","_law_at"] [V.int n]=[some (V.int n),none,none] from rfl]
 refine ⟨_,rfl,_,_,rfl,rfl,⟨by decide,by decide⟩,_,_,rfl,rfl,show (0:Int) < 12 by decide,_,_,rfl,rfl,?_⟩
 dsimp only[gName,List.set_cons_succ,List.set_cons_zero]
 have hz:1<=1+n / 3 % 12/\1+n / 3 % 12<=12:=by omega
 have hmenu:menuF 0=mnLet:=rfl
 by_cases h3:n % 3=0
 ·refine s_yes (fun R k=>⟨_,rfl,_,_,rfl,rfl,show (0:Int) < 3 by decide,rfl,_,rfl,?_⟩) fun H1 s1=>?_
  ·rw[decide_eq_true (congrArg V.int h3)]
   exact k _ (Same.refl _)
  ·refine ⟨_,rfl,_,_,rfl,rfl,⟨by decide,by decide⟩,_,rfl,0,rfl,fun H2 s2=>⟨n / 40,1+n / 3 % 12,mnLet,rfl,menu_let,by omega,by omega,by omega,by omega,?_⟩⟩
   have:=q H2 (s1.trans s2)
   unfold nameF at this
   rw[if_pos h3] at this
   exact this
 ·refine s_no1 (fun R k=>⟨_,rfl,_,_,rfl,rfl,show (0:Int) < 3 by decide,rfl,_,rfl,?_⟩) fun H1 s1=>?_
  ·rw[decide_eq_false (fun z=>h3 (V.int.inj z))]
   exact k _ (Same.refl _)
  generalize hsz:1+n / 3 % 12=size at hz ⊢
  have hm:=Int.emod_nonneg (n / 40) (show size≠0 by omega)
  have hm2:=Int.emod_lt_of_pos (n / 40) (show 0 < size by omega)
  refine ⟨_,rfl,_,_,rfl,rfl,⟨by decide,by decide⟩,_,rfl,_,_,rfl,rfl,show 0 < size by omega,?_⟩
  dsimp only[gName,List.set_cons_succ,List.set_cons_zero]
  obtain ⟨at_,hat⟩:∃ at_:Nat,n / 40 % size=(at_:Int):=⟨_,(Int.toNat_of_nonneg hm).symm⟩
  have hsg:=(signs_ok menu_let (n / 500) 1 (by omega)).2
  refine ⟨_,rfl,_,_,rfl,rfl,by decide,by rw[hat];omega,by rw[hat];omega,_,rfl,_,_,rfl,rfl,⟨by decide,by decide⟩,0,rfl,fun H2 s2=>⟨n / 500,1,mnLet,rfl,menu_let,by omega,by omega,by omega,by omega,_,_,rfl,rfl,?_,_,rfl,_,_,rfl,rfl,_,rfl,_,_,rfl,rfl,_,_,rfl,rfl,by decide,by rw[hat];omega,by rw[hat];omega,_,_,rfl,rfl,?_,?_⟩⟩
  ·rw[hat,show Txt.mul (Str.ofString "n") (at_:Int)=S (List.replicate at_ 110) from mul_S 110 at_,S_len,S_len,List.length_replicate,hsg,hs]
   omega
  ·rw[hat,show Txt.mul (Str.ofString "n") (at_:Int)=S (List.replicate at_ 110) from mul_S 110 at_,S_app,S_len,List.length_append,List.length_replicate,hsg,hs]
   rw[show size - 1 - (at_:Int)=((size - 1 - at_).toNat:Nat) by omega,show Txt.mul (Str.ofString "n") (((size - 1 - (at_:Int)).toNat:Nat):Int)=S (List.replicate (size - 1 - at_).toNat 110) from mul_S 110 _,S_len,List.length_replicate]
   omega
  ·have:=q H2 (s1.trans s2)
   unfold nameF at this
   rw[if_neg h3,hsz,hat,Int.toNat_natCast,show ∀ a b c:List Nat,vS (a++b++c)=V.str (S a++S b++S c) from fun a b c=>by rw[S_app,S_app]] at this
   rw[hat,show Txt.mul (Str.ofString "n") (at_:Int)=S (List.replicate at_ 110) from mul_S 110 at_]
   rw[show size - 1 - (at_:Int)=((size - 1 - at_).toNat:Nat) by omega,show Txt.mul (Str.ofString "n") (((size - 1 - (at_:Int)).toNat:Nat):Int)=S (List.replicate (size - 1 - at_).toNat 110) from mul_S 110 _]
   exact this
abbrev sEnds:Stmt:=top 50
theorem scEnds:FnScope ["_law_signs_here","_law_number"] ["_law_signs_here","_law_number"] (defScope sEnds):=⟨rfl,rfl,rfl,by decide +kernel,rfl,by decide +kernel,by decide +kernel⟩
def spEnds:Sp:=fun vs H Q _=>∃ (l:List Nat) (n:Int),vs=[vS l, .int n]/\l.length<=10000/\Q (vS (endsF l n)) H
theorem mul1 (b:Bool):Txt.mul (Str.ofString " ") (if b then 1 else 0)=S (if b then [32] else []):=by
 cases b
 ·exact mul_S 32 0
 ·exact mul_S 32 1
theorem ok_ends {f:Addr} {fd:FuncData} (F:Fun K "_law_ends" "_law_ends" sEnds f fd) (T:TxL mg):FnOk P w K mg base CX0 1 f fd ["_law_signs_here","_law_number"] spEnds:=by
 have sc:=scEnds
 refine F.ok sc (fun vs H Q E h=>?_) (fun cdv A outer s H vs Q E hr h=>?_)
 ·obtain ⟨l,n,rfl,_⟩:=h
  rfl
 obtain ⟨l,n,rfl,hl,q⟩:=h
 refine of_XB (xb1 (xret (xop op_add_str (xop op_add_str (xop op_mulS xstr (xcTy call_int1 T.n_int rfl (xac (xcmp op_eq (xop op_mod (xv 1) xint) xint (nomark _)) xa0))) (xv 0)) (xop op_mulS xstr (xcTy call_int1 T.n_int rfl (xac (xcmp op_eq (xop op_mod (xop op_fdiv (xv 1) xint) xint) xint (nomark _)) xa0)))))) ?_
 have hs:sizeLine=16777216:=sizeLine_eq
 have hb:∀ b:Bool,0<=(if b then (1:Int) else 0)/\(if b then (1:Int) else 0)<=1000:=fun b=>by cases b <;> decide
 have hbl:∀ b:Bool,(if b then [32] else []:List Nat).length<=1:=fun b=>by cases b <;> decide
 have hd:∀ i j:Int,decide (V.int i=V.int j)=decide (i=j):=fun i j=>by rw[decide_eq_decide];exact ⟨V.int.inj,congrArg V.int⟩
 refine ⟨_,rfl,_,_,rfl,rfl,show (0:Int) < 4 by decide,rfl, .inr ⟨_,rfl,_,_,rfl,rfl,by decide,(hb _).1,(hb _).2,_,rfl,_,_,rfl,rfl,?_,_,rfl,_,_,rfl,rfl,⟨by decide,by decide⟩,_,_,rfl,rfl,show (0:Int) < 4 by decide,rfl, .inr ⟨_,rfl,_,_,rfl,rfl,by decide,(hb _).1,(hb _).2,_,_,rfl,rfl,?_,?_⟩⟩⟩
 ·dsimp only
  rw[mul1,S_len,S_len,hs]
  have:=hbl (decide (V.int (n % 4)=V.int 1))
  omega
 ·dsimp only
  rw[mul1,mul1,S_app,S_len,S_len,hs,List.length_append]
  have:=hbl (decide (V.int (n % 4)=V.int 1))
  have:=hbl (decide (V.int (n / 4 % 4)=V.int 1))
  omega
 ·dsimp only
  rw[mul1,mul1,hd,hd]
  unfold endsF at q
  rw[S_app,S_app]
  simpa only[decide_eq_true_eq] using q
end
end K5
set_option Elab.async false
set_option linter.all false
set_option maxRecDepth 100000
set_option maxHeartbeats 4000000
namespace K5
open PySem L2 Lm Lw PySem.Builtin.Int
def outD (inner:Bool) (n:Int) (before:Str):PyData:=if inner then d1 (innerF n before) else dP (partF n before)
def outsD (inner:Bool) (n:Int) (size:Nat):List PyData:=if inner then (inF n size).map d1 else (partsF n size).map dP
def spPart7 (inner:Bool):Sp:=fun vs H Q _=>∃ (n:Int) (before:Str),vs=[.int n, .str before, .bl inner]/\0<=n/\n<=4294967296/\∀ t xs H',Same H H'->H t=none->H' t=some (.tup xs)->DnAll (dif H H') xs (match outD inner n before with | .tuple ds=>ds |_=>[])->Q (.ref t) H'
def spParts7 (inner:Bool):Sp:=fun vs H Q _=>∃ (n size:Int),vs=[.int n, .int size, .bl inner]/\0<=n/\n<=4294967296/\1<=size/\size<=100/\∀ r xs H',Same H H'->H r=none->H' r=some (.lst xs)->Offs (fun b=>b=r ∨ H b≠none) H' xs (outsD inner n size.toNat)->Q (.ref r) H'
section
variable {P:Program} {w:World} {K:PySem.W.Frag} {mg:Str->Option Value} {base:Heap}
abbrev sPart7:Stmt:=top 51
theorem scPart7:FnScope ["_law_number","_law_before","_law_is_inner","_law_kind","_law_more","_law_signs_here"] ["_law_number","_law_before","_law_is_inner"] (defScope sPart7):=⟨rfl,rfl,rfl,by decide +kernel,rfl,by decide +kernel,by decide +kernel⟩
theorem ok_part7 {f:Addr} {fd:FuncData} {m:Nat} {inner:Bool} {spP:Sp} (F:Fun K "_law_part" "_law_part" sPart7 f fd) (T:TxL mg) (D_l_mixed:Def P w K mg base 1 "_law_mixed" ["_law_cell_here","_law_k"] spMixed) (D_l_text:Def P w K mg base 2 "_law_text" ["_law_number","_law_most"] spText)
  (D_l_name:Def P w K mg base 2 "_law_name" ["_law_number"] spName7) (D_l_ends:Def P w K mg base 1 "_law_ends" ["_law_signs_here","_law_number"] spEnds) (D_l_parts:Def P w K mg base m "_law_parts" ["_law_number","_law_size","_law_is_inner"] spP) (hP:inner=false->∀ vs H Q E,spParts7 true vs H Q E->spP vs H Q E):
  FnOk P w K mg base CX0 (m+3) f fd ["_law_number","_law_before","_law_is_inner"] (spPart7 inner):=by
 have sc:=scPart7
 refine F.ok sc (fun vs H Q E h=>?_) (fun cdv A outer s H vs Q E hr h=>?_)
 ·obtain ⟨n,before,rfl,_⟩:=h
  rfl
 obtain ⟨n,before,rfl,n0,n1,q⟩:=h
 refine of_XB (xbc (xset (i:=3) sc.nd rfl (Or.inl rfl) (xix ix_list (xlst (xac xstr (xac xstr (xac xstr (xac xstr (xac xstr (xac xstr xa0))))))) (xop op_mod (xv 0) xint) (fun _ _=>rfl)))
  (xbc (xset (i:=4) sc.nd rfl (Or.inl rfl) (xop op_fdiv (xv 0) xint))
  (xbc (xif (xor (xand (xvalT (xv 2)) (xand1 (xcmpT op_eq (xv 3) xstr (nomark _)))).xt (xor1 (xand (xcmpT op_eq (xv 1) xstr (nomark _)) (xand1 (xcmpT op_eq (xv 3) xstr (nomark _)))).xt)).xt (xb1 (xset (i:=3) sc.nd rfl (Or.inl rfl) (xix ix_list (xlst (xac xstr (xac xstr (xac xstr xa0)))) (xop op_mod (xv 4) xint) (fun _ _=>rfl)))) xb0)
  (xbc (xif (xcmpT op_eq (xv 3) xstr (nomark _)) (xb1 (xret (xtup (xac (xv 3) (xac (xm0 PySem.F.plainAttrs_str PySem.F.slot_str_lower PySem.F.type_str_lower mt_lower (xcD D_l_name (hr.mono (by omega)) (xac (xop op_fdiv (xv 4) xint) xa0))) xa0))))) xb0)
  (xbc (xif (xcmpT op_eq (xv 3) xstr (nomark _)) (xb1 (xret (xtup (xac (xv 3) (xac (xcD D_l_parts (hr.mono (by omega)) (xac (xcD D_l_mixed (hr.mono (by omega)) (xac (xv 4) (xac xint xa0))) (xac (xop op_add xint (xop op_mod (xv 4) xint)) (xac xbl xa0)))) xa0))))) xb0)
  (xbc (xset (i:=5) sc.nd rfl (Or.inl rfl) (xcD D_l_ends (hr.mono (by omega)) (xac (xcD D_l_text (hr.mono (by omega)) (xac (xcD D_l_mixed (hr.mono (by omega)) (xac (xv 4) (xac xint xa0))) (xac xint xa0))) (xac (xop op_fdiv (xv 4) xint) xa0))))
  (xbc (xif (xcmpT op_eq (xv 3) xstr (nomark _)) (xb1 (xret (xtup (xac (xv 3) (xac (xop op_add_str (xop op_mulS xstr (xcTy call_int1 T.n_int rfl (xac (xcmp op_eq (xop op_mod (xv 4) xint) xint (nomark _)) xa0))) (xv 5)) (xac (xm0 PySem.F.plainAttrs_str PySem.F.slot_str_lower PySem.F.type_str_lower mt_lower (xcD D_l_name (hr.mono (by omega)) (xac (xop op_fdiv (xv 4) xint) xa0))) xa0)))))) xb0)
  (xbc (xif (xcmpT op_eq (xv 3) xstr (nomark _)) (xb1 (xret (xtup (xac (xv 3) (xac (xrepl (xv 5) (by decide +kernel) (by decide +kernel)) xa0))))) xb0)
  (xbc (xif (xand (xcmpT op_eq (xv 1) xstr (nomark _)) (xand1 (xcmpT op_eq (xop op_mod (xv 4) xint) xint (nomark _)))).xt (xb1 (xret (xtup (xac (xv 3) (xac (xop op_add_str xstr (xv 5)) xa0))))) xb0)
  (xb1 (xret (xtup (xac (xv 3) (xac (xv 5) xa0)))))))))))))) ?_
 have hs:sizeLine=16777216:=sizeLine_eq
 rw[show start ["_law_number","_law_before","_law_is_inner","_law_kind","_law_more","_law_signs_here"] [V.int n,V.str before,V.bl inner]=[some (V.int n),some (V.str before),some (V.bl inner),none,none,none] from rfl]
 have k6:atI ([V.str "plain",V.str "plain",V.str "code",V.str "link",V.str "note",V.str "strong"]:List V) (n % 6)=some (V.str (kinds6.getD (n % 6).toNat kPlain)):=by
  obtain ⟨j,hj,hj6⟩:∃ j:Nat,n % 6=(j:Int)/\j < 6:=⟨(n % 6).toNat,by omega,by omega⟩
  rw[hj,Int.toNat_natCast]
  refine atI_nat ?_
  match j,hj6 with
  |0,_=>rfl
  |1,_=>rfl
  |2,_=>rfl
  |3,_=>rfl
  |4,_=>rfl
  |5,_=>rfl
 have k3:atI ([V.str "code",V.str "link",V.str "note"]:List V) (n / 6 % 3)=some (V.str (kinds3.getD (n / 6 % 3).toNat kCode)):=by
  obtain ⟨j,hj,hj6⟩:∃ j:Nat,n / 6 % 3=(j:Int)/\j < 3:=⟨(n / 6 % 3).toNat,by omega,by omega⟩
  rw[hj,Int.toNat_natCast]
  refine atI_nat ?_
  match j,hj6 with
  |0,_=>rfl
  |1,_=>rfl
  |2,_=>rfl
 refine ⟨big (show (6:Nat)<=1000000 by decide),fun l0 hl0=>⟨_,rfl,_,_,rfl,rfl,show (0:Int) < 6 by decide,l0,_,n % 6,_,rfl,rfl,SqL.of upd_same,k6,?_⟩⟩
 have s1:=same_new hl0 (.lst ([V.str "plain",V.str "plain",V.str "code",V.str "link",V.str "note",V.str "strong"]:List V))
 dsimp only[gName,List.set_cons_succ,List.set_cons_zero]
 generalize upd H l0 (.lst ([V.str "plain",V.str "plain",V.str "code",V.str "link",V.str "note",V.str "strong"]:List V))=H1 at s1 ⊢
 refine ⟨_,rfl,_,_,rfl,rfl,⟨by decide,by decide⟩,?_⟩
 dsimp only[gName,List.set_cons_succ,List.set_cons_zero]
 refine s_join (fun σ' H'=>σ'=[some (.int n),some (.str before),some (.bl inner),some (.str (kindF n before inner)),some (.int (n / 6)),none]/\Same H H') (fun N hN=>?_) ?_
 ·refine s_if ((inner&&decide (kinds6.getD (n % 6).toNat kPlain=kStrong))||(decide (before=kPlain)&&decide (kinds6.getD (n % 6).toNat kPlain=kPlain))) (t_or _ _ (t_and _ _ (t_bv (ev_v rfl)) fun _ _ _=>t_eqS (ev_v rfl) ev_c) fun _ _ _=>t_and _ _ (t_eqS (ev_v rfl) ev_c) fun _ _ _=>t_eqS (ev_v rfl) ev_c) (fun H2 s2 c=>?_) (fun H2 s2 c=>?_)
  ·have hc:(inner=true/\kinds6.getD (n % 6).toNat kPlain=kStrong) ∨ (before=kPlain/\kinds6.getD (n % 6).toNat kPlain=kPlain):=by simpa using c
   refine ⟨big (show (3:Nat)<=1000000 by decide),fun l1 hl1=>⟨_,rfl,_,_,rfl,rfl,show (0:Int) < 3 by decide,l1,_,n / 6 % 3,_,rfl,rfl,SqL.of upd_same,k3,hN _ _ ⟨?_,(s1.trans s2).trans (same_new hl1 _)⟩⟩⟩
   unfold kindF
   rw[if_pos hc]
   rfl
  ·have hc:¬ ((inner=true/\kinds6.getD (n % 6).toNat kPlain=kStrong) ∨ (before=kPlain/\kinds6.getD (n % 6).toNat kPlain=kPlain)):=by simpa using c
   refine hN _ _ ⟨?_,s1.trans s2⟩
   unfold kindF
   rw[if_neg hc]
 clear s1
 rintro σ2 H2 ⟨rfl,s2⟩
 generalize hk:kindF n before inner=k
 obtain ⟨n1',n2,n3,n4,n5,n6,n7,n8,n9,n10⟩:=kinds
 have gK:StrG k:=by
  have:K4 k ∨ k=kStrong:=by
   cases inner with
   |true=>exact .inl (hk▸kindF_in n0)
   |false=>
    by_cases z:kindF n before false=kStrong
    ·exact .inr (hk▸z)
    ·exact .inl (hk▸kindF_out n0 z)
  rcases this with (z |z |z |z) |z <;> (rw[z];exact ⟨by decide +kernel,by decide +kernel⟩)
 have tK:∀ (y:Str) {x5:Option V} (b:Bool) H',decide (k=y)=b->Tells (tTest (tOp rEq (tVar 3) (tC (.str y)))) [some (.int n),some (.str before),some (.bl inner),some (.str k),some (.int (n / 6)),x5] H' b:=fun y x5 b H' e=>(t_eqS (ev_v rfl) ev_c).eq e
 have out4:k≠kStrong->outD inner n before=d1 (p1F n before k)/\K4 k:=fun hne=>by
  unfold outD innerF partF
  cases inner with
  |true=>rw[if_pos rfl,hk];exact ⟨rfl,hk▸kindF_in n0⟩
  |false=>rw[if_neg Bool.false_ne_true,hk,if_neg hne];exact ⟨rfl,by have:=kindF_out (before:=before) n0 (by rw[hk];exact hne);rw[hk] at this;exact this⟩
 have name_go:∀ (j:Int),0<=j->Txt.lower (S (nameF j))=smallN j:=fun j hj=>by rw[lower_S _ (name_asc (name_ok j hj))];rfl
 have nameL:∀ (j:Int),0<=j->(S (nameF j)).length<=1000000:=fun j hj=>by
  have:=name_ok j hj
  unfold isNameC at this
  rw[Bool.and_eq_true,Bool.and_eq_true] at this
  have:=of_decide_eq_true this.1.2
  rw[S_len]
  omega
 by_cases hnote:k=kNote
 ·refine s_yes (tK "note" true H2 (decide_eq_true hnote)) fun H3 s3=>?_
  obtain ⟨o1,o2⟩:=out4 (by rw[hnote];exact n6)
  have hok:=p1F_ok (before:=before) n0 o2
  refine ⟨_,rfl,_,rfl,_,_,rfl,rfl,⟨by decide,by decide⟩,n / 6 / 3,rfl,by omega,by omega,fun H4 s4=>⟨rfl,_,rfl,rfl,nameL _ (by omega),big (show (2:Nat)<=1000000 by decide),fun t ht=>?_⟩⟩
  have s24:=(s2.trans s3).trans s4
  refine q t _ _ (s24.trans (same_new ht _)) (s24.free ht) upd_same ?_
  rw[o1,name_go _ (by omega)]
  have e:p1F n before k = .note (smallN (n / 6 / 3)):=by unfold p1F;rw[if_pos hnote]
  rw[e] at hok ⊢
  refine .cons (.str _ gK.1 gK.2|>fun z=>hnote▸z) (.cons hok.1.2.dn .nil)
 refine s_no1 (tK "note" false H2 (decide_eq_false hnote)) fun H3 s3'=>?_
 have s3:=s2.trans s3'
 by_cases hstr:k=kStrong
 ·have hin:inner=false:=by
   cases inner with
   |false=>rfl
   |true=>
    exfalso
    rcases hk▸kindF_in (before:=before) n0 with z |z |z |z
    ·exact hnote z
    ·rw[z] at hstr;exact n10 hstr.symm
    ·rw[z] at hstr;exact n5 hstr
    ·rw[z] at hstr;exact n3 hstr
  subst hin
  have hmx:=mixF_ok (n / 6) 70
  refine s_yes (tK "strong" true H3 (decide_eq_true hstr)) fun H4 s4'=>?_
  have s4:=s3.trans s4'
  refine ⟨_,rfl,_,rfl,n / 6,70,rfl,bits64 (by omega) (by omega),by omega,by omega,_,rfl,_,_,rfl,rfl,show (0:Int) < 3 by decide,_,_,rfl,rfl,hP rfl _ _ _ _ ⟨mixF (n / 6) 70,1+n / 6 % 3,rfl,by omega,by omega,by omega,by omega,fun r xs H5 s5 hr5 er hof=>⟨big (show (2:Nat)<=1000000 by decide),fun t ht=>?_⟩⟩⟩
  have s5':=s4.trans s5
  refine q t _ _ (s5'.trans (same_new ht _)) (s5'.free ht) upd_same ?_
  have ho:outD false n before = .tuple [.str kStrong, .list ((inF (mixF (n / 6) 70) (1+n / 6 % 3).toNat).map d1)]:=by
   show dP (partF n before)=_
   unfold partF
   rw[hk,if_pos hstr]
   rfl
  rw[ho]
  have hlen:=hof.len
  refine .cons (hstr ▸ .str _ gK.1 gK.2) (.cons (.lst (xs:=xs) ?_ ?_ ?_) .nil)
  ·rw[dif_at (s4.free hr5)]
   exact same_new ht _ _ _ er
  ·have h2:=hof.toDif (H0:=H4) (fun b hb => .inr hb)
   exact h2.same (dif_grow s4 (same_new ht _))
  ·rw[hlen]
   show ((inF _ _).map d1).length<=_
   rw[List.length_map]
   have hg:∀ c:Nat,(goF innerF kd1 (mixF (n / 6) 70) c).1.length=c:=fun c=>by
    induction c with
    |zero=>rfl
    |succ c ih=>show ((goF innerF kd1 (mixF (n / 6) 70) c).1++[_]).length=_;rw[List.length_append,ih];rfl
   rw[show (inF (mixF (n / 6) 70) (1+n / 6 % 3).toNat).length=(1+n / 6 % 3).toNat from hg _]
   omega
 refine s_no1 (tK "strong" false H3 (decide_eq_false hstr)) fun H4 s4'=>?_
 have s4:=s3.trans s4'
 obtain ⟨o1,o2⟩:=out4 hstr
 have hok:=p1F_ok (before:=before) n0 o2
 have hmx:=mixF_ok (n / 6) 71
 have htx:=text_ok (mixF (n / 6) 71) 3 (by omega) (by omega)
 refine ⟨_,rfl,n / 6,71,rfl,bits64 (by omega) (by omega),by omega,by omega,mixF (n / 6) 71,3,rfl,by omega,by omega,by omega,by omega,fun H5 s5'=>⟨_,rfl,_,_,rfl,rfl,⟨by decide,by decide⟩,textF (mixF (n / 6) 71) 3,n / 6 / 3,rfl,by omega,?_⟩⟩
 have s5:=s4.trans s5'
 obtain ⟨he,hel⟩:=sig_ok n
 dsimp only[gName,List.set_cons_succ,List.set_cons_zero]
 generalize hsig:endsF (textF (mixF (n / 6) 71) 3) (n / 6 / 3)=sig at he hel
 have hb1:∀ b:Bool,0<=(if b then (1:Int) else 0)/\(if b then (1:Int) else 0)<=1000:=fun b=>by cases b <;> decide
 by_cases hlink:k=kLink
 ·refine s_yes (tK "link" true H5 (decide_eq_true hlink)) fun H6 s6'=>?_
  have s6:=s5.trans s6'
  have hm94:∀ b:Bool,Txt.mul (Str.ofString "^") (if b then 1 else 0)=S (if b then [94] else []):=fun b=>by
   cases b
   ·exact mul_S 94 0
   ·exact mul_S 94 1
  have hbl:∀ b:Bool,(if b then [94] else []:List Nat).length<=1:=fun b=>by cases b <;> decide
  have hd:decide (V.int (n / 6 % 5)=V.int 0)=decide (n / 6 % 5=0):=by rw[decide_eq_decide];exact ⟨V.int.inj,congrArg V.int⟩
  refine ⟨_,rfl,_,rfl,_,_,rfl,rfl,show (0:Int) < 5 by decide,rfl, .inr ⟨_,rfl,_,_,rfl,rfl,by decide,(hb1 _).1,(hb1 _).2,_,rfl,_,_,rfl,rfl,?_,_,rfl,_,_,rfl,rfl,⟨by decide,by decide⟩,n / 6 / 7,rfl,by omega,by omega,fun H7 s7=>⟨rfl,_,rfl,rfl,nameL _ (by omega),big (show (3:Nat)<=1000000 by decide),fun t ht=>?_⟩⟩⟩
  ·dsimp only
   rw[hm94,S_len,S_len,hs]
   have:=hbl (decide (V.int (n / 6 % 5)=V.int 0))
   omega
  ·have s67:=s6.trans s7
   refine q t _ _ (s67.trans (same_new ht _)) (s67.free ht) upd_same ?_
   dsimp only
   rw[o1,name_go _ (by omega),hm94,hd,S_app]
   have e:p1F n before k = .link (S ((if n / 6 % 5=0 then [94] else [])++sig)) (smallN (n / 6 / 7)):=by unfold p1F;rw[if_neg hnote,if_pos hlink,hsig]
   rw[e] at hok ⊢
   refine .cons (hlink ▸ .str _ gK.1 gK.2) (.cons ?_ (.cons hok.1.2.2.dn .nil))
   have:=(hok.1.1.2).dn (H:=dif H (upd H7 t (.tup [V.str k,V.str (S ((if decide (n / 6 % 5=0)=true then [94] else [])++sig)),V.str (smallN (n / 6 / 7))])))
   simpa only[decide_eq_true_eq] using this
 refine s_no1 (tK "link" false H5 (decide_eq_false hlink)) fun H6 s6'=>?_
 have s6:=s5.trans s6'
 by_cases hcode:k=kCode
 ·refine s_yes (tK "code" true H6 (decide_eq_true hcode)) fun H7 s7'=>?_
  have s7:=s6.trans s7'
  refine ⟨_,rfl,_,rfl,_,rfl,by rw[S_len];omega,big (show (2:Nat)<=1000000 by decide),fun t ht=>?_⟩
  refine q t _ _ (s7.trans (same_new ht _)) (s7.free ht) upd_same ?_
  rw[o1,show Txt.replace (S sig) (Str.ofString "`") (Str.ofString "'")=S (tickF sig) from replace_one 96 [39] sig]
  have e:p1F n before k = .code (S (tickF sig)):=by unfold p1F;rw[if_neg hnote,if_neg hlink,if_pos hcode,hsig]
  rw[e] at hok ⊢
  exact .cons (hcode ▸ .str _ gK.1 gK.2) (.cons hok.1.2.dn .nil)
 refine s_no1 (tK "code" false H6 (decide_eq_false hcode)) fun H7 s7'=>?_
 have s7:=s6.trans s7'
 have hplain:k=kPlain:=by
  rcases o2 with z |z |z |z
  ·exact absurd z hnote
  ·exact absurd z hlink
  ·exact absurd z hcode
  ·exact z
 have tB:Tells (tAnd (tTest (tOp rEq (tVar 1) (tC (.str "note")))) (tTest (tOp rEq (tOp (rI (fun _ j=>0 < j) fun i j => .int (i % j)) (tVar 4) (tC (.int 2))) (tC (.int 0))))) [some (.int n),some (.str before),some (.bl inner),some (.str k),some (.int (n / 6)),some (vS sig)] H7 (decide (before=kNote)&&decide (n / 6 % 2=0)):=t_and _ _ (t_eqS (ev_v rfl) ev_c) fun _ _ _ R kk=>⟨_,rfl,_,_,rfl,rfl,show (0:Int) < 2 by decide,rfl,_,rfl,by
  dsimp only
  rw[show decide (V.int (n / 6 % 2)=V.int 0)=decide (n / 6 % 2=0) by rw[decide_eq_decide];exact ⟨V.int.inj,congrArg V.int⟩]
  exact kk _ (Same.refl _)⟩
 by_cases hb:before=kNote/\n / 6 % 2=0
 ·refine s_yes (tB.eq (by rw[decide_eq_true hb.1,decide_eq_true hb.2];rfl)) fun H8 s8'=>?_
  have s8:=s7.trans s8'
  refine ⟨_,rfl,_,rfl,_,_,rfl,rfl,(by show (S [58]).length+(S sig).length<=_;rw[S_len,S_len,hs];show 1+sig.length<=_;omega),big (show (2:Nat)<=1000000 by decide),fun t ht=>?_⟩
  refine q t _ _ (s8.trans (same_new ht _)) (s8.free ht) upd_same ?_
  rw[o1,show V.str (Str.ofString ":"++S sig)=vS (58::sig) from catS [58] sig]
  have e:p1F n before k = .plain (S (58::sig)):=by unfold p1F;rw[if_neg hnote,if_neg hlink,if_neg hcode,if_pos hb,hsig]
  rw[e] at hok ⊢
  exact .cons (hplain ▸ .str _ gK.1 gK.2) (.cons hok.1.2.dn .nil)
 ·refine s_no1 (tB.eq (by
   rw[Bool.and_eq_false_iff]
   by_cases z:before=kNote
   ·exact .inr (decide_eq_false fun y=>hb ⟨z,y⟩)
   ·exact .inl (decide_eq_false z))) fun H8 s8'=>?_
  have s8:=s7.trans s8'
  refine ⟨_,rfl,_,rfl,big (show (2:Nat)<=1000000 by decide),fun t ht=>?_⟩
  refine q t _ _ (s8.trans (same_new ht _)) (s8.free ht) upd_same ?_
  rw[o1]
  have e:p1F n before k = .plain (S sig):=by unfold p1F;rw[if_neg hnote,if_neg hlink,if_neg hcode,if_neg hb,hsig]
  rw[e] at hok ⊢
  exact .cons (hplain ▸ .str _ gK.1 gK.2) (.cons hok.1.2.dn .nil)
end
end K5
set_option Elab.async false
set_option linter.all false
set_option maxRecDepth 100000
set_option maxHeartbeats 4000000
namespace K5
open PySem L2 Lm Lw PySem.Builtin.Int
def SameX (x:Addr) (H H':Hp):Prop:=∀ b o,b≠x->H b=some o->H' b=some o
def rawD (inner:Bool) (n:Int) (t:Nat):List PyData:=if inner then (goF innerF kd1 n t).1.map d1 else (goF partF kdP n t).1.map dP
def befD (inner:Bool) (n:Int) (t:Nat):Str:=if inner then (goF innerF kd1 n t).2 else (goF partF kdP n t).2
theorem raw_succ (inner:Bool) (n:Int) (t:Nat):rawD inner n (t+1)=rawD inner n t++[outD inner (mixF n ((t:Int)+2)) (befD inner n t)]:=by
 unfold rawD befD outD
 cases inner with
 |true=>rw[if_pos rfl,if_pos rfl,if_pos rfl,if_pos rfl];show ((goF innerF kd1 n t).1++[_]).map d1=_;rw[List.map_append];rfl
 |false=>rw[if_neg Bool.false_ne_true,if_neg Bool.false_ne_true,if_neg Bool.false_ne_true,if_neg Bool.false_ne_true];show ((goF partF kdP n t).1++[_]).map dP=_;rw[List.map_append];rfl
theorem d1_kd (p:P1):∃ r,d1 p = .tuple (.str (kd1 p)::r):=by cases p <;> exact ⟨_,rfl⟩
theorem dP_kd (p:PC):∃ r,dP p = .tuple (.str (kdP p)::r):=by
 cases p with
 |one p=>exact d1_kd p
 |strong ps=>exact ⟨_,rfl⟩
theorem bef_succ (inner:Bool) (n:Int) (t:Nat):∃ r,outD inner (mixF n ((t:Int)+2)) (befD inner n t) = .tuple (.str (befD inner n (t+1))::r):=by
 unfold outD
 cases inner with
 |true=>exact d1_kd _
 |false=>exact dP_kd _
theorem raw_len (inner:Bool) (n:Int):∀ t:Nat,(rawD inner n t).length=t
 |0=>by cases inner <;> rfl
 |t+1=>by rw[raw_succ,List.length_append,raw_len inner n t];rfl
theorem dn_str {G:Hp} {v:V} {s:Str} (h:Dn G v (.str s)):v = .str s:=by cases h;rfl
theorem dn_tup {G:Hp} {v:V} {ds:List PyData} (h:Dn G v (.tuple ds)):∃ a xs,v = .ref a/\G a=some (.tup xs)/\DnAll G xs ds:=by
 cases h with
 |tup e k=>exact ⟨_,_,rfl,e,k⟩
theorem map_set {α β:Type} (f:α->β) (l:List α) (j:Nat) (a:α):(l.set j a).map f=(l.map f).set j (f a):=List.map_set
theorem ixN_nat {n j:Nat} (h:j < n):ixN n (j:Int)=some j:=by
 unfold ixN
 rw[if_pos (by omega),if_pos (by omega),Int.toNat_natCast]
theorem strip_if {K:PySem.W.Frag} {ti:TE} {sf:Str->Str->Str} {fP:PC->PC} {D:Ends} {σ:St} {H:Hp} {W:Addr->Prop} {r:Addr} {xs:List V} {l:List PC} {j:Nat} {p:PC}
  (hf:∀ s,fP (.one (.plain s)) = .one (.plain (sf s " "))) (hn:∀ p,kdP p≠kPlain->fP p=p) (h2:σ[2]? = some (some (.bl false))) (h3:σ[3]? = some (some (.ref r))) (hti:∀ H',Ev ti σ H' (.int (j:Int))) (hr:H r=some (.lst xs)) (ho:Offs W H xs (l.map dP)) (hWr:W r) (hW:∀ b,W b->H b≠none)
  (hl:l[j]? = some p) (hp:PCOk (fP p)) (hq:PCOk p) (k:∀ xs' H',SameX r H H'->H' r=some (.lst xs')->Offs W H' xs' ((l.set j (fP p)).map dP)->D.nx σ H'):
  tIfS (tAnd (tNot (tB (tVar 2))) (tTest (tOp rEq (tOp (rIxT K) (tOp (rIxL K) (tVar 3) ti) (tC (.int 0))) (tC (.str "plain"))))) (tAsg (tTup (tCons (tC (.str "plain")) (tCons (tBM K "str" (rS2 fun z y=>V.str (sf z y)) (tOp (rIxT K) (tOp (rIxL K) (tVar 3) ti) (tC (.int 1))) (tCons (tC (.str " ")) tNil)) tNil))) (gSub (tVar 3) ti rSetL)) tNext D σ H:=by
 obtain ⟨rest,hd⟩:=dP_kd p
 have hj:(l.map dP)[j]? = some (dP p):=by rw[List.getElem?_map,hl];rfl
 obtain ⟨v,hv,hoff⟩:=ho.get hj
 obtain ⟨a,us,rfl,ha,hus⟩:=dn_tup (hd▸hoff.dn)
 have hu0:us[0]? = some (.str (kdP p)):=by
  obtain ⟨z,z1,z2⟩:=hus.get (i:=0) rfl
  rw[dn_str z2] at z1
  exact z1
 have hlen:=ho.len
 rw[List.length_map] at hlen
 have hjl:j < xs.length:=by
  rw[hlen]
  exact (List.getElem?_eq_some_iff.mp hl).1
 have evA:∀ H',Same H H'->Ev (tOp (rIxL K) (tVar 3) ti) σ H' (.ref a):=fun H' s'=>ev_ixL (ev_v h3) (hti _) (SqL.of (s' _ _ hr)) (atI_nat hv)
 have hT:Tells (tAnd (tNot (tB (tVar 2))) (tTest (tOp rEq (tOp (rIxT K) (tOp (rIxL K) (tVar 3) ti) (tC (.int 0))) (tC (.str "plain"))))) σ H (!false&&decide (kdP p=kPlain)):=t_and _ _ (t_not _ (t_bv (ev_v h2))) fun _ H1 s1=>t_eqS (ev_ixT (evA _ s1) ev_c (SqT.of (s1 _ _ ha)) (atI_nat (j:=0) hu0)) ev_c
 refine s_if _ hT (fun H1 s1 c=>?_) (fun H1 s1 c=>?_)
 ·have hc:kdP p=kPlain:=by simpa using c
  obtain ⟨s,rfl⟩:∃ s,p = .one (.plain s):=by
   have:=(kd_plain p).mpr hc
   cases p with
   |one q=>cases q with
    |plain s=>exact ⟨s,rfl⟩
    |code s=>exact absurd this (by simp[PC.isPlain])
    |link a b=>exact absurd this (by simp[PC.isPlain])
    |note s=>exact absurd this (by simp[PC.isPlain])
   |strong ps=>exact absurd this (by simp[PC.isPlain])
  rw[hf] at hp
  have hsl:s.length<=sizeLine:=by have:=hq.2.2;rw[sizeLine_eq];omega
  have hus1:us[1]? = some (.str s):=by
   obtain ⟨z, z1, z2⟩ := (show DnAll H us [.str kPlain, .str s] from by
    have e:[PyData.str kPlain, .str s] = .str (kdP (PC.one (P1.plain s)))::rest:=PyData.tuple.inj hd
    rw[e];exact hus).get (i:=1) rfl
   rw[dn_str z2] at z1
   exact z1
  refine ev_ixT (evA _ s1) ev_c (SqT.of (s1 _ _ ha)) (atI_nat (j:=1) hus1) _ ⟨rfl,s," ",rfl,rfl,hsl,big (show (2:Nat)<=1000000 by decide),fun t ht=>?_⟩
  have s2:=s1.trans (same_new ht (.tup [V.str "plain",V.str (sf s " ")]))
  refine ev_v h3 _ (hti _ _ ⟨r,xs,(j:Int),j,rfl,rfl,s2 _ _ hr,ixN_nat hjl,?_⟩)
  refine k _ _ (fun b o hb hh=>by rw[upd_ne hb];exact s2 _ _ hh) upd_same ?_
  rw[hf,map_set]
  refine ((ho.same s2).upd hWr).set j (Off.upd (Off.new (H:=H1) ?_ fun b hb=>?_) hWr)
  ·refine .tup (xs:=[V.str "plain",V.str (sf s " ")]) ?_ (.cons (.str _ (by decide +kernel) (by decide +kernel)) (.cons hp.2.dn .nil))
   rw[dif_at ht,upd_same]
  ·have:=hW b hb
   cases e:H b with
   |none=>exact absurd e this
   |some o=>rw[s1 _ _ e];exact fun z=>nomatch z
 ·have hc:kdP p≠kPlain:=by simpa using c
  refine k _ _ (fun b o _ hh=>s1 _ _ hh) (s1 _ _ hr) ?_
  rw[hn p hc,map_set,show (l.map dP).set j (dP p)=l.map dP from ?_]
  ·exact ho.same s1
  ·rw[<- List.map_set]
   rw[show l.set j p=l from by
    refine List.ext_getElem? fun i=>?_
    rw[List.getElem?_set]
    split
    ·rename_i e
     subst e
     rw[hl]
     split
     ·rfl
     ·rename_i h;exact absurd (List.getElem?_eq_some_iff.mp hl).1 h
    ·rfl]
section
variable {P:Program} {w:World} {K:PySem.W.Frag} {mg:Str->Option Value} {base:Heap}
abbrev sParts7:Stmt:=top 52
theorem scParts7:FnScope ["_law_number","_law_size","_law_is_inner","_law_found","_law_before","_law_turn","_law_part_here"] ["_law_number","_law_size","_law_is_inner"] (defScope sParts7):=⟨rfl,rfl,rfl,by decide +kernel,rfl,by decide +kernel,by decide +kernel⟩
theorem ok_parts7 {f:Addr} {fd:FuncData} {m:Nat} {inner:Bool} (F:Fun K "_law_parts" "_law_parts" sParts7 f fd) (T:TxL mg) (D_l_mixed:Def P w K mg base 1 "_law_mixed" ["_law_cell_here","_law_k"] spMixed) (D_l_part:Def P w K mg base m "_law_part" ["_law_number","_law_before","_law_is_inner"] (spPart7 inner)):
  FnOk P w K mg base CX0 (m+2) f fd ["_law_number","_law_size","_law_is_inner"] (spParts7 inner):=by
 have sc:=scParts7
 refine F.ok sc (fun vs H Q E h=>?_) (fun cdv A outer s H vs Q E hr h=>?_)
 ·obtain ⟨n,size,rfl,_⟩:=h
  rfl
 obtain ⟨n,size,rfl,n0,n1,z0,z1,q⟩:=h
 refine of_XB (xbc (xset (i:=3) sc.nd rfl (Or.inl rfl) (xlst xa0))
  (xbc (xset (i:=4) sc.nd rfl (Or.inl rfl) xstr)
  (xbc (xfor PassesOwn.never rfl (xir1 rfl T.n_range (xac (xv 1) xa0)) (xgn (i:=5) sc.nd rfl (Or.inl rfl))
  (xbc (xset (i:=6) sc.nd rfl (Or.inl rfl) (xcD D_l_part (hr.mono (by omega)) (xac (xcD D_l_mixed (hr.mono (by omega)) (xac (xv 0) (xac (xop op_add (xv 5) xint) xa0))) (xac (xv 4) (xac (xv 2) xa0)))))
  (xbc (xset (i:=4) sc.nd rfl (Or.inl rfl) (xix ix_tup (xv 6) xint (fun _ _=>rfl)))
  (xb1 (xexpr (xm PySem.F.plainAttrs_list PySem.F.slot_list_append PySem.F.type_list_append mt_append (xv 3) (xac (xv 6) xa0)))))))
  (xbc (xif (xand (xnotT (xvalT (xv 2))) (xand1 (xcmpT op_eq (xix ix_tup (xix ix_list (xv 3) xint (fun _ _=>rfl)) xint (fun _ _=>rfl)) xstr (nomark _)))).xt (xb1 (xasg (xtup (xac xstr (xac (xm PySem.F.plainAttrs_str PySem.F.slot_str_lstrip PySem.F.type_str_lstrip mt_lstrip (xix ix_tup (xix ix_list (xv 3) xint (fun _ _=>rfl)) xint (fun _ _=>rfl)) (xac xstr xa0)) xa0))) (xgsub (xv 3) xint set_list))) xb0)
  (xbc (xif (xand (xnotT (xvalT (xv 2))) (xand1 (xcmpT op_eq (xix ix_tup (xix ix_list (xv 3) (xop op_sub (xv 1) xint) (fun _ _=>rfl)) xint (fun _ _=>rfl)) xstr (nomark _)))).xt (xb1 (xasg (xtup (xac xstr (xac (xm PySem.F.plainAttrs_str PySem.F.slot_str_rstrip PySem.F.type_str_rstrip mt_rstrip (xix ix_tup (xix ix_list (xv 3) (xop op_sub (xv 1) xint) (fun _ _=>rfl)) xint (fun _ _=>rfl)) (xac xstr xa0)) xa0))) (xgsub (xv 3) (xop op_sub (xv 1) xint) set_list))) xb0)
  (xb1 (xret (xv 3)))))))) ?_
 have hs:sizeLine=16777216:=sizeLine_eq
 rw[show start ["_law_number","_law_size","_law_is_inner","_law_found","_law_before","_law_turn","_law_part_here"] [V.int n,V.int size,V.bl inner]=[some (V.int n),some (V.int size),some (V.bl inner),none,none,none,none] from rfl]
 obtain ⟨sz,rfl⟩:∃ sz:Nat,size=(sz:Int):=⟨size.toNat,(Int.toNat_of_nonneg (by omega)).symm⟩
 refine ⟨big (show (0:Nat)<=1000000 by decide),fun r hr0=>?_⟩
 have s1:=same_new hr0 (.lst [])
 have er1:upd H r (.lst []) r=some (.lst []):=upd_same
 dsimp only[gName,List.set_cons_succ,List.set_cons_zero]
 generalize upd H r (.lst [])=H1 at s1 er1 ⊢
 refine ⟨_,rfl,_,rfl,by omega,by omega,?_⟩
 rw[Int.toNat_natCast]
 refine for_range (n:=sz) (fun t σ H'=>∃ x5 x6 xs,σ=[some (.int n),some (.int (sz:Nat)),some (.bl inner),some (.ref r),some (.str (befD inner n t)),x5,x6]/\Same H H'/\H' r=some (.lst xs)/\Offs (fun b=>b=r ∨ H b≠none) H' xs (rawD inner n t)) ⟨none,none,[],by cases inner <;> rfl,s1,er1,by cases inner <;> exact .nil⟩ ?_ ?_
 ·rintro t σ H2 ht ⟨x5,x6,xs,rfl,s2,e2,o2⟩
  have hmx:=mixF_ok n ((t:Int)+2)
  have hW:∀ b,(b=r ∨ H b≠none)->H2 b≠none:=fun b hb=>by
   rcases hb with rfl |hb
   ·rw[e2];exact fun z=>nomatch z
   ·cases e:H b with
    |none=>exact absurd e hb
    |some o=>rw[s2 _ _ e];exact fun z=>nomatch z
  refine ⟨_,rfl,_,rfl,_,_,rfl,rfl,n,0+(t:Int)+2,rfl,bits64 (by omega) (by omega),by omega,by omega,_,rfl,_,rfl,mixF n (0+(t:Int)+2),befD inner n t,rfl,by rw[Int.zero_add];exact hmx.1,by rw[Int.zero_add];omega,fun p us H3 s3 hp3 ep3 k3=>?_⟩
  rw[Int.zero_add] at k3 ⊢
  dsimp only[gName,List.set_cons_succ,List.set_cons_zero]
  obtain ⟨rest,hb⟩:=bef_succ inner n t
  rw[hb] at k3
  have hu0:us[0]? = some (.str (befD inner n (t+1))):=by
   obtain ⟨z,z1,z2⟩:=k3.get (i:=0) rfl
   rw[dn_str z2] at z1
   exact z1
  have hl:=o2.len
  rw[raw_len] at hl
  have e3:=s3 _ _ e2
  refine ⟨_,rfl,p,us,0,_,rfl,rfl,SqT.of ep3,atI_nat (j:=0) hu0,_,rfl, .inl ⟨rfl,_,SqL.of e3⟩,_,rfl,r,xs,_,rfl,rfl,e3,by rw[hl,hs];omega,?_⟩
  refine ⟨_, _, _, rfl, same_grow (by
   cases e:H r with
   |none=>rfl
   |some o=>rw[e] at hr0;cases hr0) (s2.trans s3),upd_same,?_⟩
  rw[raw_succ]
  refine ((o2.same s3).upd (.inl rfl)).snoc (Off.upd (Off.new (H:=H2) ?_ hW) (.inl rfl))
  rw[hb]
  exact .tup (by rw[dif_at hp3];exact ep3) k3
 ·rintro σ H2 ⟨x5,x6,xs,rfl,s2,e2,o2⟩
  have hW:∀ {H':Hp},SameX r H2 H'->(∃ ys,H' r=some (.lst ys))->∀ b,(b=r ∨ H b≠none)->H' b≠none:=fun {H'} s' e' b hb=>by
   obtain ⟨ys,e'⟩:=e'
   by_cases hbr:b=r
   ·rw[hbr,e'];exact fun z=>nomatch z
   ·cases e:H b with
    |none=>exact absurd e (hb.resolve_left hbr)
    |some o=>rw[s' _ _ hbr (s2 _ _ e)];exact fun z=>nomatch z
  cases inner with
  |true=>
   have hT:∀ {u:TT} {H'},Tells (tAnd (tNot (tB (tVar 2))) u) [some (.int n),some (.int (sz:Nat)),some (.bl true),some (.ref r),some (.str (befD true n sz)),x5,x6] H' false:=fun {u H'}=>t_and (!true) false (t_not _ (t_bv (ev_v rfl))) fun z=>Bool.noConfusion z
   refine s_no1 hT fun H3 s3=>s_no1 hT fun H4 s4=>?_
   refine ⟨_,rfl,?_⟩
   have s24:=s3.trans s4
   refine q r xs H4 (s2.trans s24) hr0 (s24 _ _ e2) ?_
   rw[Int.toNat_natCast]
   exact o2.same s24
  |false=>
   obtain ⟨r1,r2,r3⟩:=rawF_ok n sz
   have o2':Offs (fun b=>b=r ∨ H b≠none) H2 xs ((goF partF kdP n sz).1.map dP):=o2
   have hpf:partsF n sz=laL rsP (hdL lsP (goF partF kdP n sz).1):=rfl
   generalize hraw:(goF partF kdP n sz).1=raw at r1 r2 r3 o2' hpf
   obtain ⟨p0,tl,rfl⟩:∃ p0 tl,raw=p0::tl:=by
    cases raw with
    |nil=>exact absurd r1 (by simp;omega)
    |cons p0 tl=>exact ⟨p0,tl,rfl⟩
   obtain ⟨g1,g2⟩:=r2 p0 List.mem_cons_self
   obtain ⟨l1,l2,l3,_⟩:=lsP_ok g1 g2
   refine strip_if (fP:=lsP) (sf:=Txt.lstripChars) (l:=p0::tl) (j:=0) (p:=p0) (fun s=>rfl) (fun p hp=>?_) rfl rfl (fun _=>ev_c) e2 o2' (.inl rfl) (hW (fun _ _ _ h=>h) ⟨_,e2⟩) rfl l1 g1 fun xs3 H3 s3 e3 o3=>?_
   ·match p,hp with
    | .one (.plain s),hp=>exact absurd rfl hp
    | .one (.code s),_=>rfl
    | .one (.link a b),_=>rfl
    | .one (.note s),_=>rfl
    | .strong ps,_=>rfl
   have o3':Offs (fun b=>b=r ∨ H b≠none) H3 xs3 ((lsP p0::tl).map dP):=o3
   have hpf':partsF n sz=laL rsP (lsP p0::tl):=hpf
   have k1:(lsP p0::tl).length=sz:=r1
   have k2:∀ p∈lsP p0::tl,PCOk p/\PInk p:=fun p hp=>by
    rcases List.mem_cons.mp hp with rfl |z
    ·exact ⟨l1,l2⟩
    ·exact r2 p (List.mem_cons_of_mem _ z)
   generalize lsP p0::tl=A at o3' hpf' k1 k2
   rcases List.eq_nil_or_concat A with rfl |⟨qq,x,rfl⟩
   ·exact absurd k1 (by simp;omega)
   rw[List.concat_eq_append] at o3' hpf' k1 k2
   rw[laL_snoc] at hpf'
   have hx:=k2 x (List.mem_append_right _ (List.mem_singleton.mpr rfl))
   obtain ⟨c1,c2,c3,c4⟩:=rsP_ok hx.1 hx.2
   have hqq:qq.length+1=sz:=by rw[List.length_append] at k1;exact k1
   refine strip_if (fP:=rsP) (sf:=Txt.rstripChars) (l:=qq++[x]) (j:=qq.length) (p:=x) (fun s=>rfl) (fun p hp=>?_) rfl rfl (fun _=>?_) e3 o3' (.inl rfl) (hW s3 ⟨_,e3⟩) ?_ c1 hx.1 fun xs4 H4 s4 e4 o4=>?_
   ·match p,hp with
    | .one (.plain s),hp=>exact absurd rfl hp
    | .one (.code s),_=>rfl
    | .one (.link a b),_=>rfl
    | .one (.note s),_=>rfl
    | .strong ps,_=>rfl
   ·intro R k
    refine ⟨_,rfl,_,_,rfl,rfl,?_⟩
    dsimp only
    rw[show ((sz:Nat):Int) - 1=(qq.length:Int) by omega]
    exact k
   ·rw[List.getElem?_append_right (Nat.le_refl _),Nat.sub_self];rfl
   refine ⟨_,rfl,?_⟩
   have sx:SameX r H2 H4:=fun b o hb hh=>s4 _ _ hb (s3 _ _ hb hh)
   refine q r xs4 H4 (fun b o hh=>sx _ _ (fun z=>by rw[z,hr0] at hh;cases hh) (s2 _ _ hh)) hr0 e4 ?_
   rw[Int.toNat_natCast]
   show Offs _ H4 xs4 ((partsF n sz).map dP)
   rw[hpf']
   rw[show (qq++[x]).set qq.length (rsP x)=qq++[rsP x] by rw[List.set_append_right _ _ (Nat.le_refl _),Nat.sub_self];rfl] at o4
   exact o4
end
end K5
set_option Elab.async false
set_option linter.all false
set_option maxRecDepth 100000
namespace Lw
open PySem L2 Lm
def takenC:List Nat:=[92,42,96,91,93,124,45,43,61,62,126,58,94]
def takesC:List Nat->Bool
 |92::c::_=>takenC.contains c
 |_=>false
def nxtC:List Nat->Option Nat
 | []=>none
 | [x]=>if x=93 then some 0 else none
 |x::y::r=>if x=92/\takenC.contains y=true then (nxtC r).map (· + 2) else if x=93 then some 0 else (nxtC (y::r)).map (· + 1)
def freeC:List Nat->List Nat
 | []=>[]
 | [x]=>[x]
 |x::y::r=>if x=92/\takenC.contains y=true then y::freeC r else x::freeC (y::r)
inductive Pc where
 |sign (c:Nat)
 |star
 |code (l:List Nat)
 |note (n:List Nat)
 |link (w n:List Nat)
def cutAt (c:Nat):List Nat->Option (List Nat×List Nat)
 | []=>none
 |x::r=>if x=c then some ([],r) else (cutAt c r).map fun (a,b)=>(x::a,b)
def nameAt (c:Nat) (l:List Nat):Option (List Nat×List Nat):=match cutAt c (l.take 13) with
 |some (a,_)=>if isNameC a then some (smallC a,l.drop (a.length+1)) else none
 |none=>none
def markC (r:List Nat):Option (Pc×List Nat):=match r with
 |94::r=>(nameAt 93 r).map fun (n,r)=>(.note n,r)
 |_=>none
def linkC (r:List Nat):Option (Pc×List Nat):=match nxtC r with
 |some (k+1)=>match r.drop (k+2) with
  |40::r2=>(nameAt 41 r2).map fun (n,r3)=>(.link (freeC (r.take (k+1))) n,r3)
  |_=>none
 |_=>none
def codeC (r:List Nat):Option (Pc×List Nat):=match cutAt 96 r with
 |some (x::a,b)=>some (.code (x::a),b)
 |_=>none
def stepC:List Nat->Option (Pc×List Nat)
 | []=>none
 |x::r=>
  if takesC (x::r) then some (.sign (r.headD 0),r.tail)
  else if x=42 then some (.star,r)
  else if x=96 then some ((codeC r).getD (.sign 96,r))
  else if x=91 then some (((markC r).or (linkC r)).getD (.sign 91,r))
  else some (.sign x,r)
theorem cutAt_eq {c:Nat}:∀ {l a b:List Nat},cutAt c l=some (a,b)->l=a++c::b/\c∉a
 | [],a,b,h=>by cases h
 |x::r,a,b,h=>by
  unfold cutAt at h
  split at h
  ·rename_i e
   cases h
   subst e
   exact ⟨rfl,fun z=>nomatch z⟩
  ·rename_i e
   cases hr:cutAt c r with
   |none=>rw[hr] at h;cases h
   |some p=>
    obtain ⟨a',b'⟩:=p
    rw[hr] at h
    cases h
    obtain ⟨h1,h2⟩:=cutAt_eq hr
    exact ⟨by rw[h1];rfl,fun z=>by
     rcases List.mem_cons.mp z with z |z
     ·exact e z.symm
     ·exact h2 z⟩
theorem cutAt_none {c:Nat}:∀ {l:List Nat},cutAt c l=none ↔ c∉l
 | []=>⟨(fun _ z=>nomatch z),fun _=>rfl⟩
 |x::r=>by
  unfold cutAt
  by_cases e:x=c
  ·rw[if_pos e]
   exact ⟨(fun z=>nomatch z),fun z=>absurd (by rw[e];exact List.mem_cons_self) z⟩
  ·rw[if_neg e]
   have ih:=cutAt_none (c:=c) (l:=r)
   cases hr:cutAt c r with
   |none=>
    refine ⟨fun _ z=>?_,fun _=>rfl⟩
    rcases List.mem_cons.mp z with z |z
    ·exact e z.symm
    ·exact ih.mp hr z
   |some p=>
    refine ⟨(fun z=>nomatch z),fun z=>?_⟩
    have:c∉r:=fun m=>z (List.mem_cons_of_mem _ m)
    rw[ih.mpr this] at hr
    cases hr
theorem cutAt_app {c:Nat}:∀ {a b:List Nat},c∉a->cutAt c (a++c::b)=some (a,b)
 | [],b,_=>by show (if c=c then _ else _)=_;rw[if_pos rfl]
 |x::a,b,h=>by
  show cutAt c (x::(a++c::b))=_
  unfold cutAt
  rw[if_neg (fun e=>h (by rw[e];exact List.mem_cons_self)),cutAt_app (fun m=>h (List.mem_cons_of_mem _ m))]
  rfl
theorem nameAt_lt {c:Nat} {l n r:List Nat} (h:nameAt c l=some (n,r)):r.length < l.length:=by
 unfold nameAt at h
 split at h
 ·rename_i a b hc
  split at h
  ·cases h
   obtain ⟨h1,_⟩:=cutAt_eq hc
   have:=congrArg List.length h1
   rw[List.length_take,List.length_append,List.length_cons] at this
   rw[List.length_drop]
   omega
  ·cases h
 ·cases h
theorem step_lt {s r:List Nat} {p:Pc} (h:stepC s=some (p,r)):r.length < s.length:=by
 cases s with
 |nil=>cases h
 |cons x t=>
  rw[List.length_cons]
  have h:(if takesC (x::t) then some (Pc.sign (t.headD 0),t.tail) else if x=42 then some (Pc.star,t) else if x=96 then some ((codeC t).getD (.sign 96,t)) else if x=91 then some (((markC t).or (linkC t)).getD (.sign 91,t)) else some (Pc.sign x,t))=some (p,r):=h
  split at h
  ·cases h
   have:t.tail.length<=t.length:=by rw[List.length_tail];omega
   omega
  ·split at h
   ·cases h;omega
   ·split at h
    ·cases hc:codeC t with
     |none=>rw[hc] at h;cases h;omega
     |some q=>
      rw[hc] at h
      cases h
      unfold codeC at hc
      split at hc
      ·rename_i y a b he
       cases hc
       have:=congrArg List.length (cutAt_eq he).1
       rw[List.length_append,List.length_cons,List.length_cons] at this
       omega
      ·cases hc
    ·split at h
     ·cases hm:markC t with
      |some q=>
       rw[hm] at h
       cases h
       unfold markC at hm
       split at hm
       ·cases hn:nameAt 93 _ with
        |none=>rw[hn] at hm;cases hm
        |some q=>
         rw[hn] at hm
         cases hm
         have:=nameAt_lt hn
         rw[List.length_cons]
         omega
       ·cases hm
      |none=>
       rw[hm] at h
       cases hl:linkC t with
       |none=>rw[hl] at h;cases h;omega
       |some q=>
        rw[hl] at h
        cases h
        unfold linkC at hl
        split at hl
        ·split at hl
         ·rename_i r2 hd
          cases hn:nameAt 41 r2 with
          |none=>rw[hn] at hl;cases hl
          |some q=>
           rw[hn] at hl
           cases hl
           have h1:=nameAt_lt hn
           have h2:=congrArg List.length hd
           rw[List.length_drop,List.length_cons] at h2
           omega
         ·cases hl
        ·cases hl
     ·cases h;omega
def piecesC (s:List Nat):List Pc:=match h:stepC s with
 |none=>[]
 |some (p,r)=>p::piecesC r
termination_by s.length
decreasing_by exact step_lt h
theorem pieces_nil:piecesC []=[]:=by
 unfold piecesC
 rfl
theorem pieces_step {s r:List Nat} {p:Pc} (h:stepC s=some (p,r)):piecesC s=p::piecesC r:=by
 rw[piecesC]
 split
 ·rename_i e;rw[h] at e;cases e
 ·rename_i e;rw[h] at e;cases e;rfl
def toPos (o:Nat):Option Nat->Int
 |none => -1
 |some k=>((o+k:Nat):Int)
def clGo (o:Nat):List Nat->List Int
 | []=>[]
 | [_]=>[-1]
 |x::y::r=>if x=92/\takenC.contains y=true then toPos (o+2) (nxtC r)::toPos (o+2) (nxtC r)::clGo (o+2) r else toPos (o+1) (nxtC (y::r))::clGo (o+1) (y::r)
theorem takes_iff {x y:Nat} {r:List Nat}:takesC (x::y::r)=true ↔ x=92/\takenC.contains y=true:=by
 by_cases e:x=92
 ·subst e;exact ⟨fun h=>⟨rfl,h⟩,fun h=>h.2⟩
 ·refine ⟨fun h=>?_,fun h=>absurd h.1 e⟩
  exfalso
  unfold takesC at h
  split at h
  ·rename_i z;exact e (List.cons.inj z).1
  ·cases h
theorem cl_take {o x y:Nat} {r:List Nat} (h:takesC (x::y::r)=true):clGo o (x::y::r)=toPos (o+2) (nxtC r)::toPos (o+2) (nxtC r)::clGo (o+2) r:=by
 show (if x=92/\takenC.contains y=true then _ else _)=_
 rw[if_pos (takes_iff.mp h)]
theorem cl_one {o x:Nat} {r:List Nat} (h:takesC (x::r)=false):clGo o (x::r)=toPos (o+1) (nxtC r)::clGo (o+1) r:=by
 cases r with
 |nil=>rfl
 |cons y r=>
  show (if x=92/\takenC.contains y=true then _ else _)=_
  rw[if_neg fun z=>by rw[takes_iff.mpr z] at h;cases h]
theorem nxt_take {x y:Nat} {r:List Nat} (h:takesC (x::y::r)=true):nxtC (x::y::r)=(nxtC r).map (· + 2):=by
 show (if x=92/\takenC.contains y=true then _ else _)=_
 rw[if_pos (takes_iff.mp h)]
theorem nxt_bar {r:List Nat}:nxtC (93::r)=some 0:=by
 cases r with
 |nil=>rfl
 |cons y r=>
  show (if (93:Nat)=92/\takenC.contains y=true then _ else if (93:Nat)=93 then some 0 else _)=_
  rw[if_neg fun z=>absurd z.1 (by decide),if_pos rfl]
theorem nxt_one {x:Nat} {r:List Nat} (h:takesC (x::r)=false) (hx:x≠93):nxtC (x::r)=(nxtC r).map (· + 1):=by
 cases r with
 |nil=>
  show (if x=93 then some 0 else none)=_
  rw[if_neg hx];rfl
 |cons y r=>
  show (if x=92/\takenC.contains y=true then _ else if x=93 then some 0 else _)=_
  rw[if_neg (fun z=>by rw[takes_iff.mpr z] at h;cases h),if_neg hx]
theorem toPos_add (o k:Nat) (v:Option Nat):toPos o (v.map (· + k))=toPos (o+k) v:=by
 cases v with
 |none=>rfl
 |some j=>show ((o+(j+k):Nat):Int)=((o+k+j:Nat):Int);omega
structure ClAt (t:List Nat) (p n:Nat) (pre:List Int):Prop where
 eq:clGo 0 t=pre++clGo p (t.drop p)
 len:pre.length=p
 le:n<=p
 wait:∀ v∈pre.drop n,v=toPos p (nxtC (t.drop p))
theorem ClAt.start (t:List Nat):ClAt t 0 0 []:=⟨rfl,rfl,Nat.le_refl 0,fun _ z=>nomatch z⟩
theorem ClAt.take {t:List Nat} {p n:Nat} {pre:List Int} (h:ClAt t p n pre) (hk:takesC (t.drop p)=true):∃ pre',ClAt t (p+2) n pre'/\pre'.take n=pre.take n/\p+2<=t.length:=by
 obtain ⟨y,r,hy⟩:∃ y r,t.drop p=92::y::r:=by
  unfold takesC at hk
  split at hk
  ·rename_i e;exact ⟨_,_,e⟩
  ·cases hk
 have hr:t.drop (p+2)=r:=by rw[<- List.drop_drop,hy];rfl
 have hl:p+2<=t.length:=by
  have:=congrArg List.length hy
  rw[List.length_drop,List.length_cons,List.length_cons] at this
  omega
 rw[hy] at hk
 have hle:=h.le
 refine ⟨pre++[toPos (p+2) (nxtC r),toPos (p+2) (nxtC r)],⟨?_,by rw[List.length_append,h.len];rfl,by omega,fun v hv=>?_⟩,?_,hl⟩
 ·rw[h.eq,hy,cl_take hk,hr,List.append_assoc];rfl
 ·rw[hr]
  rw[List.drop_append_of_le_length (by rw[h.len];exact h.le)] at hv
  rcases List.mem_append.mp hv with z |z
  ·rw[h.wait v z,hy,nxt_take hk,toPos_add]
  ·simp only[List.mem_cons,List.not_mem_nil,or_false] at z
   rcases z with z |z <;> exact z
 ·rw[List.take_append_of_le_length (by rw[h.len];exact h.le)]
theorem ClAt.one {t:List Nat} {p n:Nat} {pre:List Int} (h:ClAt t p n pre) (hp:p < t.length) (hk:takesC (t.drop p)=false) (hx:t.getD p 0≠93):∃ pre',ClAt t (p+1) n pre'/\pre'.take n=pre.take n:=by
 have hd:=List.drop_eq_getElem_cons hp
 have hg:t.getD p 0=t[p]:=by rw[List.getD_eq_getElem?_getD,List.getElem?_eq_getElem hp];rfl
 rw[hg] at hx
 rw[hd] at hk
 have hle:=h.le
 refine ⟨pre++[toPos (p+1) (nxtC (t.drop (p+1)))],⟨?_,by rw[List.length_append,h.len];rfl,by omega,fun v hv=>?_⟩,?_⟩
 ·rw[h.eq,hd,cl_one hk,List.append_assoc];rfl
 ·rw[List.drop_append_of_le_length (by rw[h.len];exact h.le)] at hv
  rcases List.mem_append.mp hv with z |z
  ·rw[h.wait v z,hd,nxt_one hk hx,toPos_add]
  ·exact List.mem_singleton.mp z
 ·rw[List.take_append_of_le_length (by rw[h.len];exact h.le)]
theorem ClAt.bar {t:List Nat} {p n:Nat} {pre:List Int} (h:ClAt t p n pre) (hp:p < t.length) (hk:takesC (t.drop p)=false) (hx:t.getD p 0=93):∃ pre',ClAt t (p+1) p pre'/\pre'.take p=pre.take n++List.replicate (p - n) (p:Int):=by
 have hd:=List.drop_eq_getElem_cons hp
 have hg:t.getD p 0=t[p]:=by rw[List.getD_eq_getElem?_getD,List.getElem?_eq_getElem hp];rfl
 rw[hg] at hx
 rw[hd] at hk
 refine ⟨pre++[toPos (p+1) (nxtC (t.drop (p+1)))],⟨?_,by rw[List.length_append,h.len];rfl,by omega,fun v hv=>?_⟩,?_⟩
 ·rw[h.eq,hd,cl_one hk,List.append_assoc];rfl
 ·rw[List.drop_append_of_le_length (by rw[h.len];exact Nat.le_refl _),List.drop_of_length_le (by rw[h.len];exact Nat.le_refl _)] at hv
  exact List.mem_singleton.mp hv
 ·rw[List.take_append_of_le_length (by rw[h.len];exact Nat.le_refl _),List.take_of_length_le (by rw[h.len];exact Nat.le_refl _)]
  have hw:pre.drop n=List.replicate (p - n) (p:Int):=by
   rw[List.eq_replicate_iff]
   refine ⟨by rw[List.length_drop,h.len],fun v hv=>?_⟩
   rw[h.wait v hv,hd,hx,nxt_bar]
   rfl
  rw[<- hw,List.take_append_drop]
theorem ClAt.fin {t:List Nat} {n:Nat} {pre:List Int} (h:ClAt t t.length n pre):clGo 0 t=pre.take n++List.replicate (t.length - n) (-1):=by
 have e:clGo 0 t=pre:=by rw[h.eq,List.drop_length];exact List.append_nil pre
 have hw:pre.drop n=List.replicate (t.length - n) (-1):=by
  rw[List.eq_replicate_iff]
  refine ⟨by rw[List.length_drop,h.len],fun v hv=>?_⟩
  rw[h.wait v hv,List.drop_length]
  rfl
 rw[e,<- hw,List.take_append_drop]
end Lw
set_option Elab.async false
set_option linter.all false
set_option maxRecDepth 100000
namespace L2
open PySem PySem.Spec PyProof.Rows
open Builtin Builtin.Str
theorem occ_in (x y:Str) (lo hi:Nat):
  (occurrences x y lo hi 1=[]/\∀ i,lo<=i->¬ StrLaws.At x y hi i) ∨
  ∃ i r,occurrences x y lo hi 1=i::r/\lo<=i/\StrLaws.At x y hi i/\∀ k,lo<=k->k < i->¬ StrLaws.At x y hi k:=by
 rw[StrLaws.occ_eq]
 rcases StrLaws.occ_first x y hi 1 (Nat.le_refl 1) (List.range' lo (hi+1 - lo)) lo (fun i hi=>by have:=List.mem_range'_1.mp hi;omega) with ⟨h0,hn⟩ |⟨pre,a,post,e,h0,ha,hn⟩
 ·refine .inl ⟨by rw[h0],fun i hlo hi=>?_⟩
  exact hn i (by have:=hi.1;rw[List.mem_range'_1];omega) hi
 ·have hs:=StrLaws.range'_split_from e
  refine .inr ⟨a,((forIn (List.range' lo (hi+1 - lo)) ((#[]:Array Nat),lo) (StrLaws.occBody x y hi 1)).run.fst.toList).tail,?_,hs.1,ha,fun k hk0 hk=>hn k (hs.2 k hk0 hk)⟩
  generalize (forIn (List.range' lo (hi+1 - lo)) ((#[]:Array Nat),lo) (StrLaws.occBody x y hi 1)).run.fst=arr at h0
  have h1:arr.toList[0]? = some a:=by simpa using h0
  cases hL:arr.toList with
  |nil=>rw[hL] at h1;cases h1
  |cons b t=>rw[hL] at h1;simp at h1;rw[h1];rfl
theorem gives_find4 (x y:Str) (i j:Int) (t u v v':Tok):Gives («str.find» ⟨[.str x t, .str y u, .int i v, .int j v'],[]⟩) (.int (match occurrences x y (fromIndex x.length i) (min (fromIndex x.length j) x.length) 1 with |k::_=>(k:Int) | [] => -1)):=by
 show Gives (match occurrences x y (fromIndex x.length i) (min (fromIndex x.length j) x.length) 1 with |k::_=>retInt k | []=>(do rule "str.find.not-found";retInt (-1))) _
 cases occurrences x y (fromIndex x.length i) (min (fromIndex x.length j) x.length) 1 with
 |nil=>exact .rule (.of_eq rfl)
 |cons k _=>exact .of_eq rfl
end L2
namespace Lm
open PySem L2 Lw Builtin Builtin.Str
def fndC (c:Nat) (l:List Nat) (lo hi:Nat):Int:=match Lw.cutAt c ((l.take hi).drop lo) with
 |some (a,_)=>((lo+a.length:Nat):Int)
 |none => -1
theorem at_one (l:List Nat) (c hi i:Nat) (hh:hi<=l.length):StrLaws.At (S l) (S [c]) hi i ↔ (l.take hi)[i]? = some c:=by
 unfold StrLaws.At
 rw[subAt_S,S_len,decide_eq_true_eq,List.getElem?_take]
 show i+1<=hi/\(l.drop i).take 1=[c] ↔ _
 constructor
 ·rintro ⟨h1,h2⟩
  rw[if_pos (by omega)]
  have:(l.drop i)[0]? = some c:=by
   have h3:=congrArg (fun z:List Nat=>z[0]?) h2
   simpa[List.getElem?_take] using h3
  rw[List.getElem?_drop] at this
  exact this
 ·intro h
  split at h
  ·rename_i hlt
   refine ⟨by omega,?_⟩
   have hl:i < l.length:=by omega
   rw[List.drop_eq_getElem_cons hl]
   rw[List.getElem?_eq_getElem hl] at h
   rw[Option.some.inj h]
   rfl
  ·cases h
theorem occ_fnd (l:List Nat) (c lo hi:Nat) (hh:hi<=l.length):(match occurrences (S l) (S [c]) lo hi 1 with |k::_=>(k:Int) | [] => -1)=fndC c l lo hi:=by
 have hg:∀ i,lo<=i->((l.take hi)[i]? = ((l.take hi).drop lo)[i - lo]?):=fun i h=>by
  rw[List.getElem?_drop]
  congr 1
  omega
 unfold fndC
 rcases occ_in (S l) (S [c]) lo hi with ⟨e,hn⟩ |⟨i,r,e,hlo,hi',hn⟩
 ·rw[e]
  have:Lw.cutAt c ((l.take hi).drop lo)=none:=by
   rw[Lw.cutAt_none]
   intro z
   obtain ⟨k,hk⟩:=List.mem_iff_getElem?.mp z
   rw[List.getElem?_drop] at hk
   exact hn (lo+k) (by omega) ((at_one l c hi _ hh).mpr hk)
  rw[this]
 ·rw[e]
  have h1:=(at_one l c hi i hh).mp hi'
  rw[hg i hlo] at h1
  cases hc:Lw.cutAt c ((l.take hi).drop lo) with
  |none=>exact absurd (List.mem_of_getElem? h1) (Lw.cutAt_none.mp hc)
  |some p=>
   obtain ⟨a,b⟩:=p
   obtain ⟨he,ha⟩:=Lw.cutAt_eq hc
   show (i:Int)=((lo+a.length:Nat):Int)
   congr 1
   rw[he] at h1
   rcases Nat.lt_trichotomy (i - lo) a.length with q |q |q
   ·rw[List.getElem?_append_left q] at h1
    exact absurd (List.mem_of_getElem? h1) ha
   ·omega
   ·exfalso
    refine hn (lo+a.length) (by omega) (by omega) ((at_one l c hi _ hh).mpr ?_)
    rw[hg _ (by omega),he,show lo+a.length - lo=a.length by omega,List.getElem?_append_right (Nat.le_refl _),Nat.sub_self]
    rfl
theorem from_nat (n k:Nat):fromIndex n (k:Int)=k:=by
 unfold fromIndex
 rw[if_neg (by omega)]
 omega
section
variable {X:Cx}
def rFind3:V->List V->Hp->VK->Prop:=fun x vs H Q=>∃ (l:List Nat) (c lo:Nat),x=vS l/\vs=[vS [c], .int (lo:Int)]/\Q (.int (fndC c l lo l.length)) H
def rFind4:V->List V->Hp->VK->Prop:=fun x vs H Q=>∃ (l:List Nat) (c lo hi:Nat),x=vS l/\vs=[vS [c], .int (lo:Int), .int (hi:Int)]/\Q (.int (fndC c l lo (min hi l.length))) H
def rStartsAt:V->List V->Hp->VK->Prop:=fun x vs H Q=>∃ (l y:List Nat) (i:Nat),x=vS l/\vs=[vS y, .int (i:Int)]/\y≠[]/\Q (.bl (y.isPrefixOf (l.drop i))) H
theorem mt_find3:MtR X "str.find" rFind3:=by
 intro pins s σ H x vs v us Q I rx rv h
 obtain ⟨l,c,lo,rfl,rfl,q⟩:=h
 obtain ⟨t,rfl⟩:=rx
 cases rv with |cons r1 rv=>
 cases rv with |cons r2 rv=>
 cases rv
 obtain ⟨t1,rfl⟩:=r1
 obtain ⟨t2,rfl⟩:=r2
 refine SC.find3 ?_
 have e:Txt.find3 (S l) (S [c]) (lo:Int)=fndC c l lo l.length:=by
  unfold Txt.find3
  rw[from_nat,S_len]
  exact occ_fnd l c lo l.length (Nat.le_refl _)
 rw[e]
 exact ⟨.int _,H,I.tok _,⟨_,rfl⟩,q⟩
theorem mt_find4:MtR X "str.find" rFind4:=by
 intro pins s σ H x vs v us Q I rx rv h
 obtain ⟨l,c,lo,hi,rfl,rfl,q⟩:=h
 obtain ⟨t,rfl⟩:=rx
 cases rv with |cons r1 rv=>
 cases rv with |cons r2 rv=>
 cases rv with |cons r3 rv=>
 cases rv
 obtain ⟨t1,rfl⟩:=r1
 obtain ⟨t2,rfl⟩:=r2
 obtain ⟨t3,rfl⟩:=r3
 refine call_gives F.slot_str_find (typeIs_str _ _ _) F.entry_str_find (F.args_str_find_4 _ _ _ _) (gives_find4 _ _ _ _ _ _ _ _) ?_
 rw[from_nat,from_nat,S_len,occ_fnd l c lo (min hi l.length) (Nat.min_le_right _ _)]
 exact ⟨.int _,H,I.tok _,⟨_,rfl⟩,q⟩
theorem mt_startsAt:MtR X "str.startswith" rStartsAt:=by
 intro pins s σ H x vs v us Q I rx rv h
 obtain ⟨l,y,i,rfl,rfl,hy,q⟩:=h
 obtain ⟨t,rfl⟩:=rx
 cases rv with |cons r1 rv=>
 cases rv with |cons r2 rv=>
 cases rv
 obtain ⟨t1,rfl⟩:=r1
 obtain ⟨t2,rfl⟩:=r2
 refine SC.startswith3 ?_
 have e:Txt.startswith3 (S l) (S y) (i:Int)=y.isPrefixOf (l.drop i):=by
  unfold Txt.startswith3
  rw[from_nat,subAt_S,S_len,S_len,Bool.eq_iff_iff]
  simp only[Bool.and_eq_true,decide_eq_true_eq,List.isPrefixOf_iff_prefix]
  constructor
  ·rintro ⟨_,h⟩
   exact List.prefix_iff_eq_take.mpr h.symm
  ·intro h
   have h1:=h.length_le
   rw[List.length_drop] at h1
   have h2:0 < y.length:=by cases y with |nil=>exact absurd rfl hy |cons _ _=>simp
   exact ⟨by omega,(List.prefix_iff_eq_take.mp h).symm⟩
 rw[e]
 exact ⟨.bl _,H,I,rfl,q⟩
end
end Lm
set_option Elab.async false
set_option linter.all false
set_option maxRecDepth 100000
namespace Lw
open PySem L2 Lm
def PcAt (c:Cp) (H:Hp) (v:V):Pc->Prop
 | .sign x=>v=vS [x]
 | .star=>v = .non
 | .code l=>∃ a,v = .ref a/\P1At c H a (.code (S l))
 | .note n=>∃ a,v = .ref a/\P1At c H a (.note (S n))
 | .link w n=>∃ a,v = .ref a/\P1At c H a (.link (S w) (S n))
theorem PcAt.same {c:Cp} {H H':Hp} {v:V} (s:Same H H'):∀ {p:Pc},PcAt c H v p->PcAt c H' v p
 | .sign _,h=>h
 | .star,h=>h
 | .code _,⟨a,e,h⟩=>⟨a,e,h.same s⟩
 | .note _,⟨a,e,h⟩=>⟨a,e,h.same s⟩
 | .link _ _,⟨a,e,h⟩=>⟨a,e,h.same s⟩
def PcsAt (c:Cp) (H:Hp):List V->List Pc->Prop
 | [],[]=>True
 |v::vs,p::ps=>PcAt c H v p/\PcsAt c H vs ps
 |_,_=>False
theorem PcsAt.same {c:Cp} {H H':Hp} (s:Same H H'):∀ {vs:List V} {ps:List Pc},PcsAt c H vs ps->PcsAt c H' vs ps
 | [],[],_=>trivial
 |_::_,_::_,⟨a,b⟩=>⟨a.same s,b.same s⟩
theorem PcsAt.len {c:Cp} {H:Hp}:∀ {vs:List V} {ps:List Pc},PcsAt c H vs ps->vs.length=ps.length
 | [],[],_=>rfl
 |_::_,_::_,⟨_,b⟩=>by rw[List.length_cons,List.length_cons,b.len]
theorem PcsAt.snoc {c:Cp} {H:Hp} {vs:List V} {ps:List Pc} {v:V} {p:Pc} (h:PcsAt c H vs ps) (k:PcAt c H v p):PcsAt c H (vs++[v]) (ps++[p]):=by
 induction vs generalizing ps with
 |nil=>
  cases ps with
  |nil=>exact ⟨k,trivial⟩
  |cons _ _=>exact h.elim
 |cons _ _ ih=>
  cases ps with
  |nil=>exact h.elim
  |cons _ _=>exact ⟨h.1,ih h.2⟩
theorem PcsAt.get {c:Cp} {H:Hp}:∀ {vs:List V} {ps:List Pc} {i:Nat} {v:V},PcsAt c H vs ps->vs[i]? = some v->∃ p,ps[i]? = some p/\PcAt c H v p
 | [],[],_,_,_,e=>by simp at e
 |_::_,_::_,0,_,⟨h,_⟩,e=>by cases e;exact ⟨_,rfl,h⟩
 |_::_,_::_,i+1,_,⟨_,b⟩,e=>by
  obtain ⟨p,h1,h2⟩:=b.get (i:=i) (by simpa using e)
  exact ⟨p,by simpa using h1,h2⟩
def Fnd (c:Cp) (n:Nat) (H:Hp) (Q:VK):Option (Pc×List Nat)->Prop
 |none=>∀ H',Same H H'->Q .non H'
 |some (pc,r)=>∀ tp v H',Same H H'->H' tp=some (.tup [v, .int ((n - r.length:Nat):Int)])->PcAt c (dif H H') v pc->Q (.ref tp) H'
theorem nameAt_eq {c:Nat} {l n r:List Nat} (h:nameAt c l=some (n,r)):∃ a b,cutAt c (l.take 13)=some (a,b)/\l=a++c::r/\isNameC a=true/\n=smallC a:=by
 unfold nameAt at h
 split at h
 ·rename_i a b hc
  split at h
  ·rename_i hn
   cases h
   refine ⟨a,b,hc,?_,hn,rfl⟩
   obtain ⟨h1,_⟩:=cutAt_eq hc
   have h2:l=a++c::(b++l.drop 13):=by
    conv=>lhs;rw[<- List.take_append_drop 13 l,h1]
    rw[List.append_assoc];rfl
   have h3:l.drop (a.length+1)=b++l.drop 13:=by
    conv=>lhs;rw[h2]
    rw[<- List.drop_drop,List.drop_left]
    rfl
   rw[h3]
   exact h2
  ·cases h
 ·cases h
theorem nxt_at:∀ {r:List Nat} {k:Nat},nxtC r=some k->∃ u v,r=u++93::v/\u.length=k
 | [],k,h=>by cases h
 | [x],k,h=>by
  have h:(if x=93 then some 0 else none)=some k:=h
  split at h
  ·rename_i e;cases h;subst e;exact ⟨[],[],rfl,rfl⟩
  ·cases h
 |x::y::r,k,h=>by
  have h:(if x=92/\takenC.contains y=true then (nxtC r).map (· + 2) else if x=93 then some 0 else (nxtC (y::r)).map (· + 1))=some k:=h
  split at h
  ·cases hr:nxtC r with
   |none=>rw[hr] at h;cases h
   |some j=>
    rw[hr] at h
    cases h
    obtain ⟨u,v,e,hl⟩:=nxt_at hr
    exact ⟨x::y::u,v,by rw[e];rfl,by rw[List.length_cons,List.length_cons,hl]⟩
  ·split at h
   ·rename_i e;cases h;subst e;exact ⟨[],_,rfl,rfl⟩
   ·cases hr:nxtC (y::r) with
    |none=>rw[hr] at h;cases h
    |some j=>
     rw[hr] at h
     cases h
     obtain ⟨u,v,e,hl⟩:=nxt_at hr
     exact ⟨x::u,v,by rw[e];rfl,by rw[List.length_cons,hl]⟩
def Al (t:List Nat) (p:Nat):Prop:=∃ pre,clGo 0 t=pre++clGo p (t.drop p)/\pre.length=p
theorem Al.zero (t:List Nat):Al t 0:=⟨[],rfl,rfl⟩
theorem takes_form {s:List Nat} (h:takesC s=true):∃ y r,s=92::y::r:=by
 unfold takesC at h
 split at h
 ·exact ⟨_,_,rfl⟩
 ·cases h
theorem Al.take {t:List Nat} {p:Nat} (h:Al t p) (hk:takesC (t.drop p)=true):Al t (p+2):=by
 obtain ⟨pre,e,hl⟩:=h
 obtain ⟨y,r,hy⟩:=takes_form hk
 have hr:t.drop (p+2)=r:=by rw[<- List.drop_drop,hy];rfl
 rw[hy] at hk
 refine ⟨pre++[toPos (p+2) (nxtC r),toPos (p+2) (nxtC r)],?_,by rw[List.length_append,hl];rfl⟩
 rw[e,hy,cl_take hk,hr,List.append_assoc];rfl
theorem Al.one {t:List Nat} {p:Nat} (h:Al t p) (hp:p < t.length) (hk:takesC (t.drop p)=false):Al t (p+1):=by
 obtain ⟨pre,e,hl⟩:=h
 have hd:=List.drop_eq_getElem_cons hp
 rw[hd] at hk
 refine ⟨pre++[toPos (p+1) (nxtC (t.drop (p+1)))],?_,by rw[List.length_append,hl];rfl⟩
 rw[e,hd,cl_one hk,List.append_assoc];rfl
theorem Al.get {t r:List Nat} {p:Nat} (h:Al t p) (hr:t.drop p=91::r):(clGo 0 t)[p]? = some (toPos (p+1) (nxtC r)):=by
 obtain ⟨pre,e,hl⟩:=h
 rw[e,hr,cl_one (by rfl),List.getElem?_append_right (by omega),hl,Nat.sub_self]
 rfl
theorem Al.to {t:List Nat} {q:Nat} (hq:q<=t.length) (hz:t.getD (q - 1) 0≠92):∀ (m p:Nat),q - p<=m->p<=q->Al t p->Al t q
 |m,p,hm,hpq,h=>by
  by_cases e:p=q
  ·subst e;exact h
  ·have hp:p < t.length:=by omega
   cases hk:takesC (t.drop p) with
   |true=>
    have hne:p+1≠q:=fun z=>by
     obtain ⟨y,r,hy⟩:=takes_form hk
     have:(t.drop p)[0]? = some 92:=by rw[hy];rfl
     rw[List.getElem?_drop,Nat.add_zero] at this
     exact hz (by rw[<- z,Nat.add_sub_cancel,List.getD_eq_getElem?_getD,this];rfl)
    match m,hm with
    |m+1,hm=>exact Al.to hq hz m (p+2) (by omega) (by omega) (h.take hk)
    |0,hm=>omega
   |false=>
    match m,hm with
    |m+1,hm=>exact Al.to hq hz m (p+1) (by omega) (by omega) (h.one hp hk)
    |0,hm=>omega
theorem step_form {s r:List Nat} {p:Pc} (h:stepC s=some (p,r)):(takesC s=true/\∃ x y,s=x::y::r) ∨ (takesC s=false/\∃ x,s=x::r) ∨ ∃ u z,s=u++z::r/\z≠92:=by
 cases s with
 |nil=>cases h
 |cons x t=>
  have h:(if takesC (x::t) then some (Pc.sign (t.headD 0),t.tail) else if x=42 then some (Pc.star,t) else if x=96 then some ((codeC t).getD (.sign 96,t)) else if x=91 then some (((markC t).or (linkC t)).getD (.sign 91,t)) else some (Pc.sign x,t))=some (p,r):=h
  split at h
  ·rename_i hk
   cases h
   obtain ⟨y,r,e⟩:=takes_form hk
   cases e
   exact .inl ⟨hk,_,_,rfl⟩
  ·rename_i hk
   have hk:=Bool.eq_false_iff.mpr hk
   split at h
   ·cases h;exact .inr (.inl ⟨hk,_,rfl⟩)
   ·split at h
    ·cases hc:codeC t with
     |none=>rw[hc] at h;cases h;exact .inr (.inl ⟨hk,_,rfl⟩)
     |some q=>
      rw[hc] at h
      cases h
      unfold codeC at hc
      split at hc
      ·rename_i y a b he
       cases hc
       exact .inr (.inr ⟨x::y::a,96,by rw[(cutAt_eq he).1];rfl,by decide⟩)
      ·cases hc
    ·split at h
     ·cases hm:markC t with
      |some q=>
       rw[hm] at h
       cases h
       unfold markC at hm
       split at hm
       ·cases hn:nameAt 93 _ with
        |none=>rw[hn] at hm;cases hm
        |some q=>
         rw[hn] at hm
         cases hm
         obtain ⟨a,_,_,e,_⟩:=nameAt_eq hn
         exact .inr (.inr ⟨x::94::a,93,by rw[e];rfl,by decide⟩)
       ·cases hm
      |none=>
       rw[hm] at h
       cases hl:linkC t with
       |none=>rw[hl] at h;cases h;exact .inr (.inl ⟨hk,_,rfl⟩)
       |some q=>
        rw[hl] at h
        cases h
        unfold linkC at hl
        split at hl
        ·rename_i k hx
         split at hl
         ·rename_i r2 hd
          cases hn:nameAt 41 r2 with
          |none=>rw[hn] at hl;cases hl
          |some q=>
           rw[hn] at hl
           cases hl
           obtain ⟨a,_,_,e,_⟩:=nameAt_eq hn
           refine .inr (.inr ⟨x::(t.take (k+2)++40::a),41,?_,by decide⟩)
           rw[List.cons_append,List.append_assoc,List.cons_append,<- e,<- hd,List.take_append_drop]
         ·cases hl
        ·cases hl
     ·cases h;exact .inr (.inl ⟨hk,_,rfl⟩)
theorem Al.step {t r:List Nat} {p:Nat} {pc:Pc} (h:Al t p) (hp:p < t.length) (hs:stepC (t.drop p)=some (pc,r)):∃ q,q=t.length - r.length/\p < q/\q<=t.length/\t.drop q=r/\Al t q:=by
 have hlen:(t.drop p).length=t.length - p:=List.length_drop
 rcases step_form hs with ⟨hk,x,y,e⟩ |⟨hk,x,e⟩ |⟨u,z,e,hz⟩
 ·have hl:=congrArg List.length e
  rw[hlen,List.length_cons,List.length_cons] at hl
  refine ⟨p+2,by omega,by omega,by omega,?_,h.take hk⟩
  rw[<- List.drop_drop,e];rfl
 ·have hl:=congrArg List.length e
  rw[hlen,List.length_cons] at hl
  refine ⟨p+1,by omega,by omega,by omega,?_,h.one hp hk⟩
  rw[<- List.drop_drop,e];rfl
 ·have hl:=congrArg List.length e
  rw[hlen,List.length_append,List.length_cons] at hl
  have hd:t.drop (p+(u.length+1))=r:=by
   rw[<- List.drop_drop,e,<- List.drop_drop,List.drop_left];rfl
  refine ⟨p+(u.length+1),by omega,by omega,by omega,hd,Al.to (by omega) ?_ _ p (Nat.le_refl _) (by omega) h⟩
  have:(t.drop p)[u.length]? = some z:=by rw[e,List.getElem?_append_right (Nat.le_refl _),Nat.sub_self];rfl
  rw[List.getElem?_drop] at this
  rw[show p+(u.length+1) - 1=p+u.length by omega,List.getD_eq_getElem?_getD,this]
  exact hz
theorem step_some {s:List Nat} (h:s≠[]):∃ p r,stepC s=some (p,r):=by
 cases s with
 |nil=>exact absurd rfl h
 |cons x t=>
  show ∃ p r,(if takesC (x::t) then some (Pc.sign (t.headD 0),t.tail) else if x=42 then some (Pc.star,t) else if x=96 then some ((codeC t).getD (.sign 96,t)) else if x=91 then some (((markC t).or (linkC t)).getD (.sign 91,t)) else some (Pc.sign x,t))=some (p,r)
  split
  ·exact ⟨_,_,rfl⟩
  ·split
   ·exact ⟨_,_,rfl⟩
   ·split
    ·exact ⟨_,_,rfl⟩
    ·split <;> exact ⟨_,_,rfl⟩
theorem pieces_len:∀ (n:Nat) (s:List Nat),s.length<=n->(piecesC s).length<=s.length
 |n,[],_=>by rw[pieces_nil];exact Nat.le_refl 0
 |0,x::s,h=>by simp at h
 |n+1,x::s,h=>by
  obtain ⟨p,r,e⟩:=step_some (s:=x::s) (by simp)
  rw[pieces_step e,List.length_cons]
  have h1:=step_lt e
  have h2:=pieces_len n r (by omega)
  omega
inductive Qc where
 |txt (l:List Nat)
 |part (p:PC)
def toQ:Pc->Qc
 | .sign x => .txt [x]
 | .star => .txt [42]
 | .code l => .part (.one (.code (S l)))
 | .note n => .part (.one (.note (S n)))
 | .link w n => .part (.one (.link (S w) (S n)))
def plainQ (sg:List (List Nat)):List PC:=if sg.isEmpty then [] else [.one (.plain (S sg.flatten))]
def mgGo (sg:List (List Nat)):List Qc->List PC
 | []=>plainQ sg
 | .txt l::r=>mgGo (sg++[l]) r
 | .part p::r=>plainQ sg++p::mgGo [] r
def strongQ (inn:List Qc):Qc:=if inn.isEmpty then .txt [42,42] else .part (.strong (ones (mgGo [] inn)))
def wsGo:Option (List Qc)->List Pc->List Qc
 |none,[]=>[]
 |some inn,[] => .txt [42]::inn
 |none, .star::r=>wsGo (some []) r
 |some inn, .star::r=>strongQ inn::wsGo none r
 |none,p::r=>toQ p::wsGo none r
 |some inn,p::r=>wsGo (some (inn++[toQ p])) r
def partsC (t:List Nat):List PC:=mgGo [] (wsGo none (piecesC t))
def QAt (c:Cp) (H:Hp) (v:V):Qc->Prop
 | .txt l=>v=vS l
 | .part p=>∃ a,v = .ref a/\PCAt c H a p
theorem QAt.same {c:Cp} {H H':Hp} {v:V} (s:Same H H'):∀ {p:Qc},QAt c H v p->QAt c H' v p
 | .txt _,h=>h
 | .part _,⟨a,e,h⟩=>⟨a,e,h.same s⟩
def QsAt (c:Cp) (H:Hp):List V->List Qc->Prop
 | [],[]=>True
 |v::vs,p::ps=>QAt c H v p/\QsAt c H vs ps
 |_,_=>False
theorem QsAt.same {c:Cp} {H H':Hp} (s:Same H H'):∀ {vs:List V} {ps:List Qc},QsAt c H vs ps->QsAt c H' vs ps
 | [],[],_=>trivial
 |_::_,_::_,⟨a,b⟩=>⟨a.same s,b.same s⟩
theorem QsAt.len {c:Cp} {H:Hp}:∀ {vs:List V} {ps:List Qc},QsAt c H vs ps->vs.length=ps.length
 | [],[],_=>rfl
 |_::_,_::_,⟨_,b⟩=>by rw[List.length_cons,List.length_cons,b.len]
theorem QsAt.snoc {c:Cp} {H:Hp} {vs:List V} {ps:List Qc} {v:V} {p:Qc} (h:QsAt c H vs ps) (k:QAt c H v p):QsAt c H (vs++[v]) (ps++[p]):=by
 induction vs generalizing ps with
 |nil=>
  cases ps with
  |nil=>exact ⟨k,trivial⟩
  |cons _ _=>exact h.elim
 |cons _ _ ih=>
  cases ps with
  |nil=>exact h.elim
  |cons _ _=>exact ⟨h.1,ih h.2⟩
theorem QsAt.app {c:Cp} {H:Hp}:∀ {vs us:List V} {ps qs:List Qc},QsAt c H vs ps->QsAt c H us qs->QsAt c H (vs++us) (ps++qs)
 | [],_,[],_,_,h=>h
 |_::_,_,_::_,_,⟨a,b⟩,h=>⟨a,b.app h⟩
theorem QsAt.get {c:Cp} {H:Hp}:∀ {vs:List V} {ps:List Qc} {i:Nat} {v:V},QsAt c H vs ps->vs[i]? = some v->∃ p,ps[i]? = some p/\QAt c H v p
 | [],[],_,_,_,e=>by simp at e
 |_::_,_::_,0,_,⟨h,_⟩,e=>by cases e;exact ⟨_,rfl,h⟩
 |_::_,_::_,i+1,_,⟨_,b⟩,e=>by
  obtain ⟨p,h1,h2⟩:=b.get (i:=i) (by simpa using e)
  exact ⟨p,by simpa using h1,h2⟩
theorem PcAt.toQ {c:Cp} {H:Hp} {v:V}:∀ {p:Pc},PcAt c H v p->p ≠ .star->QAt c H v (toQ p)
 | .sign _,h,_=>h
 | .star,_,z=>absurd rfl z
 | .code _,h,_=>h
 | .note _,h,_=>h
 | .link _ _,h,_=>h
def lenQ:List Qc->Nat
 | []=>0
 | .txt l::r=>l.length+lenQ r
 | .part _::r=>lenQ r
theorem lenQ_app:∀ (a b:List Qc),lenQ (a++b)=lenQ a+lenQ b
 | [],b=>by rw[List.nil_append];show _=0+_;omega
 | .txt l::a,b=>by rw[List.cons_append];show l.length+lenQ (a++b)=l.length+lenQ a+lenQ b;rw[lenQ_app a b];omega
 | .part _::a,b=>by rw[List.cons_append];show lenQ (a++b)=lenQ a+lenQ b;exact lenQ_app a b
def QOk (qs:List Qc):Prop:=∀ l,Qc.txt l∈qs->Asc l/\l≠[]
def PcOk (ps:List Pc):Prop:=∀ x,Pc.sign x∈ps->x < 128
theorem lenQ_toQ (p:Pc):lenQ [toQ p]<=1:=by cases p <;> simp[toQ,lenQ]
theorem ws_none {p:Pc} (hp:p ≠ .star) {r:List Pc} (h:lenQ (wsGo none r)<=r.length+0/\(wsGo none r).length<=r.length+0):lenQ (wsGo none (p::r))<=(p::r).length+0/\(wsGo none (p::r)).length<=(p::r).length+0:=by
 obtain ⟨h1,h2⟩:=h
 have e:wsGo none (p::r)=[toQ p]++wsGo none r:=by cases p <;> first |rfl |exact absurd rfl hp
 have h3:=lenQ_toQ p
 rw[e,lenQ_app,List.length_append,List.length_cons,List.length_cons,List.length_nil]
 omega
theorem ws_some {p:Pc} (hp:p ≠ .star) {r:List Pc} {inn:List Qc} (h:lenQ (wsGo (some (inn++[toQ p])) r)<=r.length+(lenQ (inn++[toQ p])+1)/\(wsGo (some (inn++[toQ p])) r).length<=r.length+((inn++[toQ p]).length+1)):lenQ (wsGo (some inn) (p::r))<=(p::r).length+(lenQ inn+1)/\(wsGo (some inn) (p::r)).length<=(p::r).length+(inn.length+1):=by
 obtain ⟨h1,h2⟩:=h
 have e:wsGo (some inn) (p::r)=wsGo (some (inn++[toQ p])) r:=by cases p <;> first |rfl |exact absurd rfl hp
 have h3:=lenQ_toQ p
 rw[lenQ_app] at h1
 rw[List.length_append,List.length_cons,List.length_nil] at h2
 rw[e,List.length_cons]
 omega
theorem ws_size:∀ (ps:List Pc) (o:Option (List Qc)),lenQ (wsGo o ps)<=ps.length+(match o with |none=>0 |some inn=>lenQ inn+1)/\(wsGo o ps).length<=ps.length+(match o with |none=>0 |some inn=>inn.length+1)
 | [],none=>⟨Nat.le_refl _,Nat.le_refl _⟩
 | [],some inn=>by
  show 1+lenQ inn<=0+(lenQ inn+1)/\inn.length+1<=0+(inn.length+1)
  omega
 | .star::r,none=>by
  have h:=ws_size r (some [])
  have h1:lenQ (wsGo (some []) r)<=r.length+(0+1):=h.1
  have h2:(wsGo (some []) r).length<=r.length+(0+1):=h.2
  show lenQ (wsGo (some []) r)<=(r.length+1)+0/\(wsGo (some []) r).length<=(r.length+1)+0
  omega
 | .star::r,some inn=>by
  have h:=ws_size r none
  have h1:lenQ (wsGo none r)<=r.length+0:=h.1
  have h2:(wsGo none r).length<=r.length+0:=h.2
  have h3:lenQ (strongQ inn::wsGo none r)<=2+lenQ (wsGo none r):=by
   unfold strongQ
   split
   ·show 2+_<=_;exact Nat.le_refl _
   ·show lenQ (wsGo none r)<=2+lenQ (wsGo none r);omega
  show lenQ (strongQ inn::wsGo none r)<=(r.length+1)+(lenQ inn+1)/\(wsGo none r).length+1<=(r.length+1)+(inn.length+1)
  omega
 | .sign x::r,none=>ws_none (by rintro ⟨⟩) (ws_size r none)
 | .code l::r,none=>ws_none (by rintro ⟨⟩) (ws_size r none)
 | .note l::r,none=>ws_none (by rintro ⟨⟩) (ws_size r none)
 | .link a b::r,none=>ws_none (by rintro ⟨⟩) (ws_size r none)
 | .sign x::r,some inn=>ws_some (by rintro ⟨⟩) (ws_size r (some (inn++[_])))
 | .code l::r,some inn=>ws_some (by rintro ⟨⟩) (ws_size r (some (inn++[_])))
 | .note l::r,some inn=>ws_some (by rintro ⟨⟩) (ws_size r (some (inn++[_])))
 | .link a b::r,some inn=>ws_some (by rintro ⟨⟩) (ws_size r (some (inn++[_])))
theorem fnd_none {c lo hi:Nat} {l:List Nat} (h:cutAt c ((l.take hi).drop lo)=none):fndC c l lo hi = -1:=by
 unfold fndC
 rw[h]
theorem fnd_some {c lo hi:Nat} {l a b:List Nat} (h:cutAt c ((l.take hi).drop lo)=some (a,b)):fndC c l lo hi=((lo+a.length:Nat):Int):=by
 unfold fndC
 rw[h]
theorem win (t:List Nat) (m k:Nat):(t.take (min (m+k) t.length)).drop m=(t.drop m).take k:=by
 refine List.ext_getElem? fun i=>?_
 rw[List.getElem?_drop,List.getElem?_take,List.getElem?_take,List.getElem?_drop]
 by_cases h:i < k
 ·rw[if_pos h]
  by_cases h2:m+i < t.length
  ·rw[if_pos (by omega)]
  ·rw[if_neg (by omega),List.getElem?_eq_none (by omega)]
 ·rw[if_neg h,if_neg (by omega)]
theorem t_startsAt {K:PySem.W.Frag} {te ti:TE} {σ:St} {H:Hp} {y:Str} {l z:List Nat} {i:Nat} (ey:y=S z) (hz:z≠[]) (he:Ev te σ H (vS l)) (hi:Ev ti σ H (.int (i:Int))):
  Tells (tB (tBM K "str" rStartsAt te (tCons (tC (.str y)) (tCons ti tNil)))) σ H (z.isPrefixOf (l.drop i)):=by
 intro R k
 subst ey
 exact he _ ⟨rfl,hi _ ⟨l,z,i,rfl,rfl,hz,_,rfl,k H (Same.refl H)⟩⟩
theorem mem_free:∀ {t:List Nat} {c:Nat},c∈freeC t->c∈t
 | [],_,h=>h
 | [_],_,h=>h
 |x::y::r,c,h=>by
  have h:c∈(if x=92/\takenC.contains y=true then y::freeC r else x::freeC (y::r)):=h
  split at h
  ·rcases List.mem_cons.mp h with e |e
   ·rw[e];exact List.mem_cons_of_mem _ List.mem_cons_self
   ·exact List.mem_cons_of_mem _ (List.mem_cons_of_mem _ (mem_free e))
  ·rcases List.mem_cons.mp h with e |e
   ·rw[e];exact List.mem_cons_self
   ·exact List.mem_cons_of_mem _ (mem_free e)
theorem strG_S {l:List Nat} (h:Asc l) (hl:l.length<=100000):StrG (S l):=⟨strOk_S h,by rw[S_len];exact hl⟩
theorem made1 {H H1:Hp} {x dx C:Addr} {o:HO} (s:Same H H1) (hx:H1 x=none) (hdx:H1 dx=none):Same H (upd (upd (upd H1 dx (.own x)) x (.ins C dx [])) x o)/\dif H (upd (upd (upd H1 dx (.own x)) x (.ins C dx [])) x o) x=some o:=
 ⟨same_grow (s.free hx) (same_grow (s.free hx) (same_grow (s.free hdx) s)),by rw[dif_at (s.free hx)];exact upd_same⟩
theorem made2 {H H1:Hp} {x dx C:Addr} {o1 o:HO} (s:Same H H1) (hx:H1 x=none) (hdx:H1 dx=none):Same H (upd (upd (upd (upd H1 dx (.own x)) x (.ins C dx [])) x o1) x o)/\dif H (upd (upd (upd (upd H1 dx (.own x)) x (.ins C dx [])) x o1) x o) x=some o:=
 ⟨same_grow (s.free hx) (same_grow (s.free hx) (same_grow (s.free hx) (same_grow (s.free hdx) s))),by rw[dif_at (s.free hx)];exact upd_same⟩
theorem dif_new {H H2:Hp} {tp:Addr} (h:H2 tp=none) (o:HO):Same (dif H H2) (dif H (upd H2 tp o)):=dif_grow (Same.refl _) (same_new h o)
def Mo (R:Hp->Prop):Prop:=∀ G G',Same G G'->R G->R G'
def NewQ (H:Hp) (W:List Addr) (H':Hp) (R:Hp->Prop):Prop:=∃ G,Same G H'/\(∀ b∈W,G b=none)/\(∀ b,H b≠none->G b=none)/\R G
section
variable {H H' H3 H4:Hp} {W:List Addr} {R R2 R':Hp->Prop}
theorem NewQ.same (h:NewQ H W H' R) (s:Same H' H4):NewQ H W H4 R:=let ⟨G,a,b,d,e⟩:=h;⟨G,a.trans s,b,d,e⟩
theorem NewQ.upd {p:Addr} {o:HO} (h:NewQ H W H' R) (hp:p∈W):NewQ H W (L2.upd H' p o) R:=
 let ⟨G,a,b,d,e⟩:=h
 ⟨G,fun x u z=>(upd_ne (fun y=>by rw[y,b p hp] at z;cases z)).trans (a x u z),b,d,e⟩
theorem NewQ.wide {p:Addr} (h:NewQ H W H' R) (hp:H' p=none):NewQ H (p::W) H' R:=
 let ⟨G,a,b,d,e⟩:=h
 ⟨G,a,fun x hx=>by
  rcases List.mem_cons.mp hx with z |z
  ·rw[z];exact a.free hp
  ·exact b x z,d,e⟩
theorem NewQ.less {W':List Addr} (h:NewQ H W H' R) (k:∀ b∈W',b∈W):NewQ H W' H' R:=let ⟨G,a,b,d,e⟩:=h;⟨G,a,fun x hx=>b x (k x hx),d,e⟩
theorem NewQ.dif (h:NewQ H W H' R) (m:Mo R):R (dif H H'):=
 let ⟨G,a,_,d,e⟩:=h
 m G _ (fun x u z=>by
  have hx:H x=none:=by
   cases q:H x with
   |none=>rfl
   |some o=>rw[d x (by rw[q];simp)] at z;cases z
  rw[dif_at hx]
  exact a x u z) e
theorem NewQ.join (h:NewQ H W H' R) (h2:NewQ H W H' R2) (m:Mo R) (m2:Mo R2) (k:∀ G,R G->R2 G->R' G):NewQ H W H' R':=
 let ⟨G,a,b,d,e⟩:=h
 let ⟨G2,a2,b2,d2,e2⟩:=h2
 ⟨both G G2,both_in a a2,fun x hx=>by unfold both;rw[b x hx];exact b2 x hx,fun x hx=>by unfold both;rw[d x hx];exact d2 x hx,k _ (m _ _ both_l e) (m2 _ _ (both_r a a2) e2)⟩
theorem NewQ.of (s:Same H H3) (hW:∀ b∈W,H3 b≠none) (h:R (L2.dif H3 H4)):NewQ H W H4 R:=⟨L2.dif H3 H4,dif_same,fun b hb=>dif_none (hW b hb),fun b hb=>dif_none (fun z=>hb (s.free z)),h⟩
theorem NewQ.old (s:Same H3 H4) (hs:Same H H3) (hW:∀ b∈W,H3 b=none) (h:R (L2.dif H H3)):NewQ H W H4 R:=⟨L2.dif H H3,dif_same.trans s,fun b hb=>by rw[dif_at (hs.free (hW b hb))];exact hW b hb,fun b hb=>dif_none hb,h⟩
theorem NewQ.triv (h:R fun _=>none):NewQ H W H' R:=⟨fun _=>none,(fun _ _ z=>nomatch z),(fun _ _=>rfl),(fun _ _=>rfl),h⟩
end
theorem mo_Pc {c:Cp} {v:V} {p:Pc}:Mo fun G=>PcAt c G v p:=fun _ _ s h=>h.same s
theorem mo_Pcs {c:Cp} {vs:List V} {ps:List Pc}:Mo fun G=>PcsAt c G vs ps:=fun _ _ s h=>h.same s
theorem mo_Q {c:Cp} {v:V} {p:Qc}:Mo fun G=>QAt c G v p:=fun _ _ s h=>h.same s
theorem mo_Qs {c:Cp} {vs:List V} {ps:List Qc}:Mo fun G=>QsAt c G vs ps:=fun _ _ s h=>h.same s
theorem mo_PC {c:Cp} {a:Addr} {p:PC}:Mo fun G=>PCAt c G a p:=fun _ _ s h=>h.same s
theorem mo_PCs {c:Cp} {as:List Addr} {ps:List PC}:Mo fun G=>PCs c G as ps:=fun _ _ s h=>h.same s
theorem NewQ.map {H H':Hp} {W:List Addr} {R R':Hp->Prop} (h:NewQ H W H' R) (k:∀ G,R G->R' G):NewQ H W H' R':=let ⟨G,a,b,d,e⟩:=h;⟨G,a,b,d,k G e⟩
theorem step_sign {s r:List Nat} {x:Nat} (h:stepC s=some (.sign x,r)):x∈s:=by
 cases s with
 |nil=>cases h
 |cons y t=>
  have h:(if takesC (y::t) then some (Pc.sign (t.headD 0),t.tail) else if y=42 then some (Pc.star,t) else if y=96 then some ((codeC t).getD (.sign 96,t)) else if y=91 then some (((markC t).or (linkC t)).getD (.sign 91,t)) else some (Pc.sign y,t))=some (.sign x,r):=h
  split at h
  ·rename_i hk
   cases h
   obtain ⟨z,r',e⟩:=takes_form hk
   cases e
   exact List.mem_cons_of_mem _ List.mem_cons_self
  ·split at h
   ·cases h
   ·split at h
    ·rename_i e
     cases hc:codeC t with
     |none=>rw[hc] at h;cases h;rw[e];exact List.mem_cons_self
     |some q=>
      rw[hc] at h
      cases h
      unfold codeC at hc
      split at hc <;> cases hc
    ·split at h
     ·rename_i e
      cases hm:markC t with
      |some q=>
       rw[hm] at h
       cases h
       unfold markC at hm
       split at hm
       ·cases hn:nameAt 93 _ with
        |none=>rw[hn] at hm;cases hm
        |some q=>rw[hn] at hm;cases hm
       ·cases hm
      |none=>
       rw[hm] at h
       cases hl:linkC t with
       |none=>rw[hl] at h;cases h;rw[e];exact List.mem_cons_self
       |some q=>
        rw[hl] at h
        cases h
        unfold linkC at hl
        split at hl
        ·split at hl
         ·cases hn:nameAt 41 _ with
          |none=>rw[hn] at hl;cases hl
          |some q=>rw[hn] at hl;cases hl
         ·cases hl
        ·cases hl
     ·cases h;exact List.mem_cons_self
theorem step_rest {s r:List Nat} {p:Pc} (h:stepC s=some (p,r)):∀ c∈r,c∈s:=by
 rcases step_form h with ⟨_,x,y,e⟩ |⟨_,x,e⟩ |⟨u,z,e,_⟩ <;> intro c hc <;> rw[e]
 ·exact List.mem_cons_of_mem _ (List.mem_cons_of_mem _ hc)
 ·exact List.mem_cons_of_mem _ hc
 ·exact List.mem_append_right _ (List.mem_cons_of_mem _ hc)
theorem pieces_ok:∀ (n:Nat) (s:List Nat),s.length<=n->Asc s->PcOk (piecesC s)
 |n,[],_,_=>by rw[pieces_nil];exact fun _ z=>nomatch z
 |0,x::s,h,_=>by simp at h
 |n+1,x::s,h,ha=>by
  obtain ⟨p,r,e⟩:=step_some (s:=x::s) (by simp)
  rw[pieces_step e]
  have h1:=step_lt e
  intro y hy
  rcases List.mem_cons.mp hy with z |z
  ·subst z;exact ha y (step_sign e)
  ·exact pieces_ok n r (by omega) (ha.sub (step_rest e)) y z
theorem ok_toQ {p:Pc} {l:List Nat} (hp:∀ x,p = .sign x->x < 128) (h:Qc.txt l=toQ p):Asc l/\l≠[]:=by
 cases p with
 |sign x=>cases h;exact ⟨fun c hc=>by rw[List.mem_singleton.mp hc];exact hp x rfl,by simp⟩
 |star=>cases h;exact ⟨by unfold Asc;decide,by simp⟩
 |code l=>cases h
 |note l=>cases h
 |link a b=>cases h
theorem QOk.app {a b:List Qc} (h:QOk a) (k:QOk b):QOk (a++b):=fun l hl=>by
 rcases List.mem_append.mp hl with z |z
 ·exact h l z
 ·exact k l z
theorem QOk.cons {a:Qc} {b:List Qc} (h:∀ l,Qc.txt l=a->Asc l/\l≠[]) (k:QOk b):QOk (a::b):=fun l hl=>by
 rcases List.mem_cons.mp hl with z |z
 ·exact h l z
 ·exact k l z
theorem QOk.nil:QOk []:=fun _ z=>nomatch z
theorem ok_strongQ (inn:List Qc):∀ l,Qc.txt l=strongQ inn->Asc l/\l≠[]:=fun l h=>by
 unfold strongQ at h
 split at h
 ·cases h;exact ⟨by unfold Asc;decide,by simp⟩
 ·cases h
theorem ws_ok:∀ (ps:List Pc) (o:Option (List Qc)),PcOk ps->(∀ inn,o=some inn->QOk inn)->QOk (wsGo o ps)
 | [],none,_,_=>QOk.nil
 | [],some inn,_,h=>QOk.cons (fun l z=>by cases z;exact ⟨by unfold Asc;decide,by simp⟩) (h inn rfl)
 | .star::r,none,hp,h=>ws_ok r (some []) (fun x hx=>hp x (List.mem_cons_of_mem _ hx)) fun inn e=>by cases e;exact QOk.nil
 | .star::r,some inn,hp,h=>QOk.cons (ok_strongQ inn) (ws_ok r none (fun x hx=>hp x (List.mem_cons_of_mem _ hx)) fun inn e=>nomatch e)
 | .sign x::r,none,hp,h=>QOk.cons (fun l z=>ok_toQ (p := .sign x) (fun y e=>by cases e;exact hp x List.mem_cons_self) z) (ws_ok r none (fun x hx=>hp x (List.mem_cons_of_mem _ hx)) fun inn e=>nomatch e)
 | .code x::r,none,hp,h=>QOk.cons (fun l z=>nomatch z) (ws_ok r none (fun x hx=>hp x (List.mem_cons_of_mem _ hx)) fun inn e=>nomatch e)
 | .note x::r,none,hp,h=>QOk.cons (fun l z=>nomatch z) (ws_ok r none (fun x hx=>hp x (List.mem_cons_of_mem _ hx)) fun inn e=>nomatch e)
 | .link x y::r,none,hp,h=>QOk.cons (fun l z=>nomatch z) (ws_ok r none (fun x hx=>hp x (List.mem_cons_of_mem _ hx)) fun inn e=>nomatch e)
 | .sign x::r,some inn,hp,h=>ws_ok r (some (inn++[toQ (.sign x)])) (fun x hx=>hp x (List.mem_cons_of_mem _ hx)) fun _ e=>by cases e;exact (h inn rfl).app (QOk.cons (fun l z=>ok_toQ (p := .sign x) (fun y e=>by cases e;exact hp x List.mem_cons_self) z) QOk.nil)
 | .code x::r,some inn,hp,h=>ws_ok r (some (inn++[toQ (.code x)])) (fun x hx=>hp x (List.mem_cons_of_mem _ hx)) fun _ e=>by cases e;exact (h inn rfl).app (QOk.cons (fun l z=>nomatch z) QOk.nil)
 | .note x::r,some inn,hp,h=>ws_ok r (some (inn++[toQ (.note x)])) (fun x hx=>hp x (List.mem_cons_of_mem _ hx)) fun _ e=>by cases e;exact (h inn rfl).app (QOk.cons (fun l z=>nomatch z) QOk.nil)
 | .link x y::r,some inn,hp,h=>ws_ok r (some (inn++[toQ (.link x y)])) (fun x hx=>hp x (List.mem_cons_of_mem _ hx)) fun _ e=>by cases e;exact (h inn rfl).app (QOk.cons (fun l z=>nomatch z) QOk.nil)
theorem ws_none_one {p:Pc} (hp:p ≠ .star) (r:List Pc):wsGo none (p::r)=toQ p::wsGo none r:=by cases p <;> first |rfl |exact absurd rfl hp
theorem ws_some_one {p:Pc} (hp:p ≠ .star) (r:List Pc) (inn:List Qc):wsGo (some inn) (p::r)=wsGo (some (inn++[toQ p])) r:=by cases p <;> first |rfl |exact absurd rfl hp
def OneQ (qs:List Qc):Prop:=∀ p,Qc.part p∈qs->one? p≠none
theorem OneQ.snoc {qs:List Qc} (h:OneQ qs) (p:Pc):OneQ (qs++[toQ p]):=fun q hq=>by
 rcases List.mem_append.mp hq with z |z
 ·exact h q z
 ·have z:=List.mem_singleton.mp z
  cases p <;> cases z <;> exact fun e=>nomatch e
theorem plain_ones (sg:List (List Nat)):∀ p∈plainQ sg,one? p≠none:=fun p hp=>by
 unfold plainQ at hp
 split at hp
 ·cases hp
 ·rw[List.mem_singleton.mp hp];exact fun e=>nomatch e
theorem mg_ones:∀ (qs:List Qc) (sg:List (List Nat)),OneQ qs->∀ p∈mgGo sg qs,one? p≠none
 | [],sg,_,p,hp=>plain_ones sg p hp
 | .txt l::r,sg,h,p,hp=>mg_ones r (sg++[l]) (fun q hq=>h q (List.mem_cons_of_mem _ hq)) p hp
 | .part q::r,sg,h,p,hp=>by
  have hp:p∈plainQ sg++q::mgGo [] r:=hp
  rcases List.mem_append.mp hp with z |z
  ·exact plain_ones sg p z
  ·rcases List.mem_cons.mp z with z |z
   ·rw[z];exact h q List.mem_cons_self
   ·exact mg_ones r [] (fun q hq=>h q (List.mem_cons_of_mem _ hq)) p z
theorem glue_flat:∀ l:List (List Nat),glueC [] l=l.flatten
 | []=>rfl
 | [c]=>by show c=c++[];rw[List.append_nil]
 |c::d::r=>by
  have ih:=glue_flat (d::r)
  rw[glueC_cons _ _ _ (by simp),ih,List.append_nil]
  simp
theorem fit_join (l:List (List Nat)) (h:l.flatten.length<=100000):(((l.map S).map (·.length)).sum+(l.map S).length * (S []).length)<=sizeLine:=by
 have e:((l.map S).map (·.length)).sum=l.flatten.length:=by
  clear h
  induction l with
  |nil=>rfl
  |cons x l ih=>rw[List.map_cons,List.map_cons,List.sum_cons,ih,S_len,List.flatten_cons,List.length_append]
 rw[e,S_len,sizeLine_eq]
 simp only[List.length_nil,Nat.mul_zero]
 omega
theorem lenQ_drop {qs:List Qc} {i:Nat} {q:Qc} (h:qs[i]? = some q):lenQ (qs.drop i)=lenQ [q]+lenQ (qs.drop (i+1)):=by
 obtain ⟨hi,he⟩:=List.getElem?_eq_some_iff.mp h
 rw[List.drop_eq_getElem_cons hi,he,<- lenQ_app]
 rfl
theorem s_asgC {v:V} {i:Nat} {u:TS} {D:Ends} {σ:St} {H:Hp} (h:u D (σ.set i (some v)) H):tSeq (tAsg (tC v) (gName i)) u D σ H:=h
end Lw
set_option Elab.async false
set_option linter.all false
set_option maxRecDepth 100000
set_option maxHeartbeats 2000000
namespace K5
open PySem L2 Lm Lw
structure TxI (K:PySem.W.Frag) (mg:Str->Option Value) (c:Cp) (BT:Addr):Prop extends TxP K mg c BT where
 g_TAKEN:∃ t,mg "TAKEN"=some (.str (S takenC) t)
 s_Plain:PySem.W.kitOne K (.ref c.Plain) (.type "str")=some false
 s_Code:PySem.W.kitOne K (.ref c.Code) (.type "str")=some false
 s_Strong:PySem.W.kitOne K (.ref c.Strong) (.type "str")=some false
 s_Link:PySem.W.kitOne K (.ref c.Link) (.type "str")=some false
 s_Mark:PySem.W.kitOne K (.ref c.Mark) (.type "str")=some false
theorem TxI.noStr {K:PySem.W.Frag} {mg:Str->Option Value} {c:Cp} {BT:Addr} (T:TxI K mg c BT) {H:Hp} {a:Addr}:∀ {p:PC},PCAt c H a p->∃ t,TyOf K H (.ref a) t/\PySem.W.kitOne K t (.type "str")=some false
 | .one (.plain _),⟨_,_,e⟩=>⟨_,T.o_Plain.ty e,T.s_Plain⟩
 | .one (.code _),⟨_,_,e⟩=>⟨_,T.o_Code.ty e,T.s_Code⟩
 | .one (.link _ _),⟨_,_,_,e⟩=>⟨_,T.o_Link.ty e,T.s_Link⟩
 | .one (.note _),⟨_,_,e⟩=>⟨_,T.o_Mark.ty e,T.s_Mark⟩
 | .strong _,⟨_,_,_,e,_⟩=>⟨_,T.o_Strong.ty e,T.s_Strong⟩
theorem takes_at {t:List Nat} {i:Nat} (h:i < t.length):takesC (t.drop i)=(decide (t.getD i 0=92)&&decide (i+1 < t.length)&&takenC.contains (t.getD (i+1) 0)):=by
 rw[List.drop_eq_getElem_cons h]
 have e:t.getD i 0=t[i]:=by rw[List.getD_eq_getElem?_getD,List.getElem?_eq_getElem h];rfl
 rw[e]
 by_cases h2:i+1 < t.length
 ·rw[List.drop_eq_getElem_cons h2]
  have e2:t.getD (i+1) 0=t[i+1]:=by rw[List.getD_eq_getElem?_getD,List.getElem?_eq_getElem h2];rfl
  rw[e2,decide_eq_true h2,Bool.and_true]
  by_cases h3:t[i]=92
  ·rw[h3];rfl
  ·rw[decide_eq_false h3,Bool.false_and]
   unfold takesC
   split
   ·rename_i z;exact absurd (List.cons.inj z).1 h3
   ·rfl
 ·rw[decide_eq_false h2,Bool.and_false,Bool.false_and,List.drop_of_length_le (by omega)]
  unfold takesC
  split
  ·rename_i z;exact absurd (List.cons.inj z).2 (fun y=>nomatch y)
  ·rfl
section
variable {P:Program} {w:World} {K:PySem.W.Frag} {mg:Str->Option Value} {base:Heap} {c:Cp} {BT:Addr}
abbrev sTakes:Stmt:=top 26
theorem scTakes:FnScope ["text","place"] ["text","place"] (defScope sTakes):=⟨rfl,rfl,rfl,by decide +kernel,rfl,by decide +kernel,by decide +kernel⟩
def spTakes:Sp:=fun vs H Q _=>∃ (t:List Nat) (i:Nat),vs=[vS t, .int (i:Int)]/\i < t.length/\t.length<=1000000/\∀ H',Same H H'->Q (.bl (takesC (t.drop i))) H'
theorem ok_takes {f:Addr} {fd:FuncData} (F:Fun K "takes_next" "takes_next" sTakes f fd) (T:TxI K mg c BT):FnOk P w K mg base CX0 1 f fd ["text","place"] spTakes:=by
 have sc:=scTakes
 refine F.ok sc (fun vs H Q E h=>?_) (fun cdv A outer s H vs Q E hr h=>?_)
 ·obtain ⟨t,i,rfl,_⟩:=h
  rfl
 obtain ⟨t,i,rfl,hi,hl,q⟩:=h
 refine of_XB (xbc (xif (xor (xcmpT op_ne (xix ix_str (xv 0) (xv 1) (fun _ _=>rfl)) xstr (nomark _)) (xor1 (xcmpT op_eq (xop op_add (xv 1) xint) (xcB call_len_str T.n_len PySem.boot_len (xac (xv 0) xa0)) (nomark _)))).xt (xb1 (xret xbl)) xb0)
  (xb1 (xret (xcmp op_in_str (xix ix_str (xv 0) (xop op_add (xv 1) xint) (fun _ _=>rfl)) (xgS T.g_TAKEN) (by with_unfolding_all rfl))))) ?_
 rw[show start ["text","place"] [vS t,V.int (i:Int)]=[some (vS t),some (V.int (i:Int))] from rfl]
 have hix:∀ H',Ev (tOp rIxS (tVar 0) (tVar 1)) [some (vS t),some (V.int (i:Int))] H' (vS [t.getD i 0]):=fun H'=>by
  have:=ev_ix (σ:=[some (vS t),some (V.int (i:Int))]) (H:=H') (ta:=tVar 0) (tb:=tVar 1) (l:=t) (i:=(i:Int)) hl (ev_v rfl) (ev_v rfl) (by omega) (by omega)
  rw[Int.toNat_natCast] at this
  exact this
 have hT:Tells (tOr (tTest (tOp rNe (tOp rIxS (tVar 0) (tVar 1)) (tC (.str "\\")))) (tTest (tOp rEq (tOp (rI0 fun i j=>V.int (i+j)) (tVar 1) (tC (.int 1))) (tCB (fun xs H Q=>∃ z,xs=[.str z]/\z.length<=sizeLine/\Q (.int z.length) H) (tCons (tVar 0) tNil))))) [some (vS t),some (V.int (i:Int))] H (decide ([t.getD i 0]≠[92])||decide (i+1=t.length)):=by
  refine t_or _ _ (t_ne _ [92] rfl (hix H)) fun _ H' _ R k=>⟨_,rfl,_,_,rfl,rfl,_,rfl,_,rfl,bigS hl,rfl,_,rfl,?_⟩
  rw[S_len,show decide (V.int ((i:Int)+1)=V.int (t.length:Nat))=decide (i+1=t.length) by rw[decide_eq_decide];exact ⟨fun z=>by have:=V.int.inj z;omega,fun z=>by rw[<- z];rfl⟩]
  exact k _ (Same.refl _)
 by_cases hc:t.getD i 0=92/\i+1 < t.length
 ·obtain ⟨h1,h2⟩:=hc
  refine s_no1 (hT.eq ?_) fun H1 s1=>?_
  ·rw[h1,Bool.or_eq_false_iff]
   exact ⟨decide_eq_false (fun z=>z rfl),decide_eq_false (by omega)⟩
  ·refine ⟨_,rfl,_,rfl,_,_,rfl,rfl,w_ixs hl (by omega) (by omega) ⟨S [t.getD (i+1) 0],S takenC,?_,rfl,?_⟩⟩
   ·rw[show ((i:Int)+1).toNat=i+1 by omega]
   ·have hq:=q H1 s1
    rw[takes_at hi,decide_eq_true h1,decide_eq_true h2,Bool.true_and,Bool.true_and] at hq
    rw[contains_S]
    exact hq
 ·refine s_yes (hT.eq ?_) fun H1 s1=>?_
  ·rw[Bool.or_eq_true]
   by_cases h1:t.getD i 0=92
   ·exact .inr (decide_eq_true (by have:¬ i+1 < t.length:=fun z=>hc ⟨h1,z⟩;omega))
   ·exact .inl (decide_eq_true fun z=>h1 (List.cons.inj z).1)
  ·have hq:=q H1 s1
   rw[takes_at hi] at hq
   have:(decide (t.getD i 0=92)&&decide (i+1 < t.length))=false:=by
    rw[Bool.and_eq_false_iff]
    by_cases h1:t.getD i 0=92
    ·exact .inr (decide_eq_false fun z=>hc ⟨h1,z⟩)
    ·exact .inl (decide_eq_false h1)
   rw[this,Bool.false_and] at hq
   exact hq
theorem free_take {x y:Nat} {r:List Nat} (h:takesC (x::y::r)=true):freeC (x::y::r)=y::freeC r:=by
 have hx:x=92/\takenC.contains y=true:=by
  by_cases e:x=92
  ·subst e;exact ⟨rfl,h⟩
  ·exfalso
   unfold takesC at h
   split at h
   ·rename_i z;exact e (List.cons.inj z).1
   ·cases h
 show (if x=92/\takenC.contains y=true then y::freeC r else x::freeC (y::r))=_
 rw[if_pos hx]
theorem free_one {x:Nat} {r:List Nat} (h:takesC (x::r)=false):freeC (x::r)=x::freeC r:=by
 cases r with
 |nil=>rfl
 |cons y r=>
  show (if x=92/\takenC.contains y=true then y::freeC r else x::freeC (y::r))=_
  rw[if_neg]
  rintro ⟨rfl,hy⟩
  rw[show takesC (92::y::r)=takenC.contains y from rfl,hy] at h
  cases h
theorem takes_two {s:List Nat} (h:takesC s=true):∃ y r,s=92::y::r:=by
 unfold takesC at h
 split at h
 ·exact ⟨_,_,rfl⟩
 ·cases h
theorem glue_ones:∀ l:List Nat,glueC [] (l.map fun c=>[c])=l
 | []=>rfl
 | [c]=>rfl
 |c::d::r=>by
  have ih:=glue_ones (d::r)
  rw[List.map_cons,glueC_cons _ _ _ (by simp),ih]
  rfl
theorem free_len:∀ t:List Nat,(freeC t).length<=t.length
 | []=>Nat.le_refl 0
 | [x]=>Nat.le_refl 1
 |x::y::r=>by
  show (if x=92/\takenC.contains y=true then y::freeC r else x::freeC (y::r)).length<=_
  have h1:=free_len r
  have h2:=free_len (y::r)
  split <;> simp only[List.length_cons] at * <;> omega
theorem ones_fit {l:List Nat} (h:l.length<=1000000):((((l.map fun c=>[c]).map S).map (·.length)).sum+((l.map fun c=>[c]).map S).length * (S []).length)<=sizeLine:=by
 have e:(((l.map fun c=>[c]).map S).map (·.length)).sum=l.length:=by
  clear h
  induction l with
  |nil=>rfl
  |cons x l ih=>rw[List.map_cons,List.map_cons,List.map_cons,List.sum_cons,ih,S_len];simp only[List.length_cons,List.length_nil];omega
 rw[e,S_len,sizeLine_eq]
 simp only[List.length_nil,Nat.mul_zero]
 omega
abbrev sFreed:Stmt:=top 31
theorem scFreed:FnScope ["text","signs","place"] ["text"] (defScope sFreed):=⟨rfl,rfl,rfl,by decide +kernel,rfl,by decide +kernel,by decide +kernel⟩
def spFreed:Sp:=fun vs H Q _=>∃ t:List Nat,vs=[vS t]/\t.length<=100000/\∀ H',Same H H'->Q (vS (freeC t)) H'
theorem ok_freed {f:Addr} {fd:FuncData} (F:Fun K "freed" "freed" sFreed f fd) (T:TxI K mg c BT) (D_takes_next:Def P w K mg base 1 "takes_next" ["text","place"] spTakes):FnOk P w K mg base CX0 2 f fd ["text"] spFreed:=by
 have sc:=scFreed
 refine F.ok sc (fun vs H Q E h=>?_) (fun cdv A outer s H vs Q E hr h=>?_)
 ·obtain ⟨t,rfl,_⟩:=h
  rfl
 obtain ⟨t,rfl,hl,q⟩:=h
 refine of_XB (xbc (xset (i:=1) sc.nd rfl (Or.inl rfl) (xlst xa0))
  (xbc (xset (i:=2) sc.nd rfl (Or.inl rfl) xint)
  (xbc (xwhile PassesOwn.never (xcmpT op_lt (xv 2) (xcB call_len_str T.n_len PySem.boot_len (xac (xv 0) xa0)) (nomark _))
  (xbc (xif (xvalT (xcD D_takes_next (hr.mono (by omega)) (xac (xv 0) (xac (xv 2) xa0)))) (xb1 (xaug (i:=2) sc.nd rfl (Or.inl rfl) xint ip_add)) xb0)
  (xbc (xexpr (xm PySem.F.plainAttrs_list PySem.F.slot_list_append PySem.F.type_list_append mt_append (xv 1) (xac (xix ix_str (xv 0) (xv 2) (fun _ _=>rfl)) xa0)))
  (xb1 (xaug (i:=2) sc.nd rfl (Or.inl rfl) xint ip_add)))))
  (xb1 (xret (xm PySem.F.plainAttrs_str PySem.F.slot_str_join PySem.F.type_str_join mt_join xstr (xac (xv 1) xa0))))))) ?_
 have hs:sizeLine=16777216:=sizeLine_eq
 rw[show start ["text","signs","place"] [vS t]=[some (vS t),none,none] from rfl]
 refine ⟨big (show (0:Nat)<=1000000 by decide),fun l hl0=>?_⟩
 have s1:=same_new hl0 (.lst [])
 have e1:upd H l (.lst []) l=some (.lst []):=upd_same
 dsimp only[gName,List.set_cons_succ,List.set_cons_zero]
 generalize upd H l (.lst [])=H1 at s1 e1 ⊢
 show tSeq (tWhile _ _) _ _ [some (vS t),some (.ref l),some (.int ((0:Nat):Int))] H1
 refine s_join (fun σ' H'=>σ'=[some (vS t),some (.ref l),some (.int (t.length:Nat))]/\Same H H'/\H' l=some (.lst ((freeC t).map fun c=>vS [c]))) (fun N hN=>?_) ?_
 ·refine while_t (fun m σ' H'=>∃ (p:Nat) (dn:List Nat),σ'=[some (vS t),some (.ref l),some (.int (p:Nat))]/\Same H H'/\H' l=some (.lst (dn.map fun c=>vS [c]))/\p<=t.length/\m=t.length - p/\dn++freeC (t.drop p)=freeC t) t.length ⟨0,[],rfl,s1,e1,Nat.zero_le _,rfl,rfl⟩ ?_
  rintro m σ' H2 ⟨p,dn,rfl,s2,e2,hp,rfl,hd⟩
  refine ⟨decide (p < t.length),fun R k=>⟨_,rfl,_,rfl,_,rfl,bigS (by omega),_,_,rfl,rfl,_,rfl,?_⟩,fun hc H3 s3=>?_,fun hc H3 s3=>?_⟩
  ·rw[S_len,show decide ((p:Int) < ((t.length:Nat):Int))=decide (p < t.length) by rw[decide_eq_decide];omega]
   exact k _ (Same.refl _)
  ·have hpl:p < t.length:=of_decide_eq_true hc
   have hdl:(freeC t).length<=t.length:=free_len t
   have dl:dn.length<=t.length:=by
    have:=congrArg List.length hd
    rw[List.length_append] at this
    omega
   have e3:=s3 _ _ e2
   have s23:=s2.trans s3
   refine ⟨_,rfl,_,rfl,t,p,rfl,hpl,by omega,fun H4 s4=>⟨_,rfl,?_⟩⟩
   have e4:=s4 _ _ e3
   have s24:=s23.trans s4
   have fit:(dn.map fun c=>vS [c]).length < sizeLine:=by rw[List.length_map,hs];omega
   have new:∀ j:Nat,j < t.length->(upd H4 l (.lst ((dn.map fun c=>vS [c])++[vS [t.getD j 0]]))) l=some (.lst ((dn++[t.getD j 0]).map fun c=>vS [c])):=fun j _=>by rw[upd_same,List.map_append];rfl
   have sG:∀ o,Same H (upd H4 l o):=fun o=>same_grow hl0 s24
   by_cases hk:takesC (t.drop p)=true
   ·rw[hk]
    refine iteT ?_
    obtain ⟨y,r,hy⟩:=takes_two hk
    have hp1:p+1 < t.length:=by
     have:=congrArg List.length hy
     rw[List.length_drop,List.length_cons,List.length_cons] at this
     omega
    have hg:t.getD (p+1) 0=y:=by
     have:(t.drop p)[1]? = some y:=by rw[hy];rfl
     rw[List.getElem?_drop] at this
     rw[List.getD_eq_getElem?_getD,this];rfl
    have hr2:t.drop (p+2)=r:=by
     rw[show p+2=p+2 from rfl,<- List.drop_drop,hy];rfl
    rw[hy] at hk
    have hf:freeC (t.drop p)=y::freeC (t.drop (p+2)):=by rw[hy,free_take hk,hr2]
    refine ⟨_,rfl,_,_,rfl,rfl,?_⟩
    dsimp only[List.set_cons_succ,List.set_cons_zero]
    refine ⟨_,rfl, .inl ⟨rfl,_,SqL.of e4⟩,_,rfl,_,rfl,w_ixs (by omega) (by omega) (by omega) ⟨l,_,_,rfl,rfl,e4,fit,_,rfl,_,_,rfl,rfl,?_⟩⟩
    dsimp only[List.set_cons_succ,List.set_cons_zero]
    rw[show ((p:Int)+1).toNat=p+1 by omega,show ((p:Int)+1+1)=((p+2:Nat):Int) by omega]
    refine ⟨t.length - (p+2),by omega,p+2,dn++[t.getD (p+1) 0],rfl,sG _,new (p+1) hp1,by omega,rfl,?_⟩
    rw[List.append_assoc,<- hd,hf,hg];rfl
   ·have hk':takesC (t.drop p)=false:=Bool.eq_false_iff.mpr hk
    rw[hk']
    refine iteF ?_
    have hdr:=List.drop_eq_getElem_cons hpl
    rw[hdr] at hk'
    have hg:t.getD p 0=t[p]:=by rw[List.getD_eq_getElem?_getD,List.getElem?_eq_getElem hpl];rfl
    have hf:freeC (t.drop p)=t[p]::freeC (t.drop (p+1)):=by rw[hdr,free_one hk']
    refine ⟨_,rfl, .inl ⟨rfl,_,SqL.of e4⟩,_,rfl,_,rfl,w_ixs (by omega) (by omega) (by omega) ⟨l,_,_,rfl,rfl,e4,fit,_,rfl,_,_,rfl,rfl,?_⟩⟩
    dsimp only[List.set_cons_succ,List.set_cons_zero]
    rw[Int.toNat_natCast,show ((p:Int)+1)=((p+1:Nat):Int) by omega]
    refine ⟨t.length - (p+1),by omega,p+1,dn++[t.getD p 0],rfl,sG _,new p hpl,by omega,rfl,?_⟩
    rw[List.append_assoc,<- hd,hf,hg];rfl
  ·have hpl:p=t.length:=by have:=of_decide_eq_false hc;omega
   subst hpl
   rw[List.drop_length] at hd
   refine hN _ _ ⟨rfl,s2.trans s3,?_⟩
   rw[<- hd,show freeC []=[] from rfl,List.append_nil]
   exact s3 _ _ e2
 ·rintro σ' H2 ⟨rfl,s2,e2⟩
  have hdl:=free_len t
  have em:((freeC t).map fun c=>[c]).map S=(freeC t).map fun c=>S [c]:=by rw[List.map_map];rfl
  refine ⟨rfl,_,rfl,S [],l,((freeC t).map fun c=>[c]).map S,rfl,rfl,SqL.of ?_,ones_fit (by omega),?_⟩
  ·rw[e2,List.map_map,List.map_map];rfl
  ·rw[joinT_S,glue_ones]
   exact q H2 s2
end
end K5
set_option Elab.async false
set_option linter.all false
set_option maxRecDepth 100000
set_option maxHeartbeats 2000000
namespace K5
open PySem L2 Lm Lw
section
variable {P:Program} {w:World} {K:PySem.W.Frag} {mg:Str->Option Value} {base:Heap} {c:Cp} {BT:Addr}
abbrev sClosings:Stmt:=top 27
theorem scClosings:FnScope ["text","closings","place"] ["text"] (defScope sClosings):=⟨rfl,rfl,rfl,by decide +kernel,rfl,by decide +kernel,by decide +kernel⟩
def spClosings:Sp:=fun vs H Q _=>∃ t:List Nat,vs=[vS t]/\t.length<=100000/\∀ r H',Same H H'->H r=none->H' r=some (.lst ((clGo 0 t).map V.int))->Q (.ref r) H'
theorem flat_rep {α:Type} (x:α):∀ k:Nat,(List.replicate k [x]).flatten=List.replicate k x
 |0=>rfl
 |k+1=>by rw[List.replicate_succ,List.flatten_cons,flat_rep x k];rfl
theorem ok_closings {f:Addr} {fd:FuncData} (F:Fun K "closings_of" "closings_of" sClosings f fd) (T:TxI K mg c BT) (D_takes_next:Def P w K mg base 1 "takes_next" ["text","place"] spTakes):FnOk P w K mg base CX0 2 f fd ["text"] spClosings:=by
 have sc:=scClosings
 refine F.ok sc (fun vs H Q E h=>?_) (fun cdv A outer s H vs Q E hr h=>?_)
 ·obtain ⟨t,rfl,_⟩:=h
  rfl
 obtain ⟨t,rfl,hl,q⟩:=h
 refine of_XB (xbc (xset (i:=1) sc.nd rfl (Or.inl rfl) (xlst xa0))
  (xbc (xset (i:=2) sc.nd rfl (Or.inl rfl) xint)
  (xbc (xwhile PassesOwn.never (xcmpT op_lt (xv 2) (xcB call_len_str T.n_len PySem.boot_len (xac (xv 0) xa0)) (nomark _))
  (xbc (xif (xvalT (xcD D_takes_next (hr.mono (by omega)) (xac (xv 0) (xac (xv 2) xa0)))) (xbc (xaug (i:=2) sc.nd rfl (Or.inl rfl) xint ip_add)
  (xb1 xcont)) xb0)
  (xbc (xif (xcmpT op_eq (xix ix_str (xv 0) (xv 2) (fun _ _=>rfl)) xstr (nomark _)) (xb1 (xexpr (xm PySem.F.plainAttrs_list PySem.F.slot_list_extend PySem.F.type_list_extend mt_extend (xv 1) (xac (xop op_rep (xlst (xac (xv 2) xa0)) (xop op_sub (xv 2) (xcB call_len_seq T.n_len PySem.boot_len (xac (xv 1) xa0)))) xa0)))) xb0)
  (xb1 (xaug (i:=2) sc.nd rfl (Or.inl rfl) xint ip_add)))))
  (xb1 (xret (xop op_cat (xv 1) (xop op_rep (xlst (xac (xun un_neg xint) xa0)) (xop op_sub (xcB call_len_str T.n_len PySem.boot_len (xac (xv 0) xa0)) (xcB call_len_seq T.n_len PySem.boot_len (xac (xv 1) xa0)))))))))) ?_
 have hs:sizeLine=16777216:=sizeLine_eq
 rw[show start ["text","closings","place"] [vS t]=[some (vS t),none,none] from rfl]
 refine ⟨big (show (0:Nat)<=1000000 by decide),fun l hl0=>?_⟩
 have s1:=same_new hl0 (.lst [])
 have e1:upd H l (.lst []) l=some (.lst []):=upd_same
 dsimp only[gName,List.set_cons_succ,List.set_cons_zero]
 generalize upd H l (.lst [])=H1 at s1 e1 ⊢
 show tSeq (tWhile _ _) _ _ [some (vS t),some (.ref l),some (.int ((0:Nat):Int))] H1
 refine s_join (fun σ' H'=>σ'=[some (vS t),some (.ref l),some (.int (t.length:Nat))]/\Same H H'/\∃ n pre,ClAt t t.length n pre/\H' l=some (.lst ((pre.take n).map V.int))) (fun N hN=>?_) ?_
 ·refine while_t (fun m σ' H'=>∃ (p n:Nat) (pre:List Int),σ'=[some (vS t),some (.ref l),some (.int (p:Nat))]/\Same H H'/\H' l=some (.lst ((pre.take n).map V.int))/\p<=t.length/\m=t.length - p/\ClAt t p n pre) t.length ⟨0,0,[],rfl,s1,e1,Nat.zero_le _,rfl, .start t⟩ ?_
  rintro m σ' H2 ⟨p,n,pre,rfl,s2,e2,hp,rfl,hA⟩
  refine ⟨decide (p < t.length),fun R k=>⟨_,rfl,_,rfl,_,rfl,bigS (by omega),_,_,rfl,rfl,_,rfl,?_⟩,fun hc H3 s3=>?_,fun hc H3 s3=>?_⟩
  ·rw[S_len,show decide ((p:Int) < ((t.length:Nat):Int))=decide (p < t.length) by rw[decide_eq_decide];omega]
   exact k _ (Same.refl _)
  ·have hpl:p < t.length:=of_decide_eq_true hc
   have e3:=s3 _ _ e2
   have s23:=s2.trans s3
   have hn:=hA.le
   have hpn:(pre.take n).length=n:=by rw[List.length_take,hA.len];omega
   refine ⟨_,rfl,_,rfl,t,p,rfl,hpl,by omega,fun H4 s4=>⟨_,rfl,?_⟩⟩
   have e4:=s4 _ _ e3
   have s24:=s23.trans s4
   by_cases hk:takesC (t.drop p)=true
   ·rw[hk]
    refine iteT ?_
    obtain ⟨pre',hA',hpre,hle⟩:=hA.take hk
    refine ⟨_,rfl,_,_,rfl,rfl,?_⟩
    dsimp only[List.set_cons_succ,List.set_cons_zero]
    refine ⟨t.length - (p+2),by omega,p+2,n,pre',?_,s24,by rw[hpre];exact e4,hle,rfl,hA'⟩
    rw[show ((p:Int)+2)=((p+2:Nat):Int) by omega]
   ·have hk':takesC (t.drop p)=false:=Bool.eq_false_iff.mpr hk
    rw[hk']
    refine iteF ?_
    have hT:Tells (tTest (tOp rEq (tOp rIxS (tVar 0) (tVar 2)) (tC (.str "]")))) [some (vS t),some (V.ref l),some (V.int (p:Int))] H4 (decide ([t.getD p 0]=[93])):=t_eq _ [93] rfl fun R' r=>by
     have:=ev_ix (σ:=[some (vS t),some (V.ref l),some (V.int (p:Int))]) (H:=H4) (ta:=tVar 0) (tb:=tVar 2) (l:=t) (i:=(p:Int)) (by omega) (ev_v rfl) (ev_v rfl) (by omega) (by omega)
     rw[Int.toNat_natCast] at this
     exact this R' r
    by_cases hx:t.getD p 0=93
    ·obtain ⟨pre',hA',hpre⟩:=hA.bar hpl hk' hx
     refine s_yes (hT.eq (decide_eq_true (by rw[hx]))) fun H5 s5=>?_
     have e5:=s5 _ _ e4
     refine ⟨_,rfl, .inl ⟨rfl,_,SqL.of e5⟩,_,rfl,big (show (1:Nat)<=1000000 by decide),fun u hu=>?_⟩
     have s6:=same_new hu (.lst [.int (p:Int)])
     have e6:upd H5 u (.lst [V.int (p:Int)]) u=some (.lst [.int (p:Int)]):=upd_same
     generalize upd H5 u (.lst [V.int (p:Int)])=H6 at s6 e6 ⊢
     refine ⟨_,rfl,_,rfl,l,_,rfl, .inl (SqL.of (s6 _ _ e5)),_,_,rfl,rfl,u,(p:Int) - (n:Int),_,rfl,?_,e6,by omega,by omega,?_,fun v hv=>?_⟩
     ·rw[List.length_map,hpn]
     ·rw[hs];show 1 * _<=_;omega
     have tn:((p:Int) - (n:Int)).toNat=p - n:=by omega
     rw[tn,flat_rep]
     have s7:=same_new hv (.lst (List.replicate (p - n) (V.int (p:Int))))
     have e7:upd H6 v (.lst (List.replicate (p - n) (V.int (p:Int)))) v=some (.lst (List.replicate (p - n) (V.int (p:Int)))):=upd_same
     generalize upd H6 v (.lst (List.replicate (p - n) (V.int (p:Int))))=H7 at s7 e7 ⊢
     have s57:=s6.trans s7
     refine ⟨l,v,_,_,rfl,rfl,s57 _ _ e5,e7,?_,?_⟩
     ·rw[List.length_map,hpn,List.length_replicate,hs];omega
     refine ⟨_,rfl,_,_,rfl,rfl,?_⟩
     dsimp only[List.set_cons_succ,List.set_cons_zero]
     refine ⟨t.length - (p+1),by omega,p+1,p,pre',?_,same_grow hl0 ((s24.trans s5).trans s57),?_,by omega,rfl,hA'⟩
     ·rw[show ((p:Int)+1)=((p+1:Nat):Int) by omega]
     ·rw[upd_same,hpre,List.map_append,List.map_replicate]
    ·obtain ⟨pre',hA',hpre⟩:=hA.one hpl hk' hx
     refine s_no1 (hT.eq (decide_eq_false fun z=>hx (List.cons.inj z).1)) fun H5 s5=>?_
     refine ⟨_,rfl,_,_,rfl,rfl,?_⟩
     dsimp only[List.set_cons_succ,List.set_cons_zero]
     refine ⟨t.length - (p+1),by omega,p+1,n,pre',?_,s24.trans s5,by rw[hpre];exact s5 _ _ e4,by omega,rfl,hA'⟩
     rw[show ((p:Int)+1)=((p+1:Nat):Int) by omega]
  ·have hpl:p=t.length:=by have:=of_decide_eq_false hc;omega
   subst hpl
   exact hN _ _ ⟨rfl,s2.trans s3,n,pre,hA,s3 _ _ e2⟩
 ·rintro σ' H2 ⟨rfl,s2,n,pre,hA,e2⟩
  have hn:=hA.le
  have hpn:(pre.take n).length=n:=by rw[List.length_take,hA.len];omega
  refine ⟨_,rfl,1,rfl,big (show (1:Nat)<=1000000 by decide),fun u hu=>?_⟩
  have s3:=same_new hu (.lst [.int (-1)])
  have e3:upd H2 u (.lst [V.int (-1)]) u=some (.lst [.int (-1)]):=upd_same
  generalize upd H2 u (.lst [V.int (-1)])=H3 at s3 e3 ⊢
  refine ⟨_,rfl,_,rfl,bigS (by omega),_,rfl,l,_,rfl, .inl (SqL.of (s3 _ _ e2)),_,_,rfl,rfl,u,(t.length:Int) - (n:Int),_,rfl,?_,e3,by omega,by omega,?_,fun v hv=>?_⟩
  ·rw[List.length_map,hpn,S_len]
  ·rw[hs];show 1 * _<=_;omega
  have tn:((t.length:Int) - (n:Int)).toNat=t.length - n:=by omega
  rw[tn,flat_rep]
  have s4:=same_new hv (.lst (List.replicate (t.length - n) (V.int (-1))))
  have e4:upd H3 v (.lst (List.replicate (t.length - n) (V.int (-1)))) v=some (.lst (List.replicate (t.length - n) (V.int (-1)))):=upd_same
  generalize upd H3 v (.lst (List.replicate (t.length - n) (V.int (-1))))=H4 at s4 e4 ⊢
  have s24:=(s2.trans s3).trans s4
  refine ⟨l,v,_,_,rfl,rfl,(s3.trans s4) _ _ e2,e4,?_,fun r hr2=>?_⟩
  ·rw[List.length_map,hpn,List.length_replicate,hs];omega
  refine q r _ (s24.trans (same_new hr2 _)) (s24.free hr2) ?_
  rw[upd_same,hA.fin,List.map_append,List.map_replicate]
end
end K5
set_option Elab.async false
set_option linter.all false
set_option maxRecDepth 100000
namespace Lw
open PySem L2 Lm
inductive Atm where
 |sg (c:Nat)
 |pt (p:PC)
def atQ:Qc->List Atm
 | .txt l=>l.map .sg
 | .part p=>[.pt p]
def atQs (qs:List Qc):List Atm:=qs.flatMap atQ
theorem atQs_app (a b:List Qc):atQs (a++b)=atQs a++atQs b:=List.flatMap_append
theorem atQs_cons (a:Qc) (b:List Qc):atQs (a::b)=atQ a++atQs b:=List.flatMap_cons
def flA (acc:List Nat):List PC:=if acc.isEmpty then [] else [.one (.plain (S acc))]
def mgA (acc:List Nat):List Atm->List PC
 | []=>flA acc
 | .sg c::r=>mgA (acc++[c]) r
 | .pt p::r=>flA acc++p::mgA [] r
theorem mgA_text:∀ (l acc:List Nat) (r:List Atm),mgA acc (l.map .sg++r)=mgA (acc++l) r
 | [],acc,r=>by rw[List.append_nil];rfl
 |c::l,acc,r=>by
  show mgA (acc++[c]) (l.map .sg++r)=_
  rw[mgA_text l,List.append_assoc]
  rfl
def NeQ (qs:List Qc):Prop:=∀ l,Qc.txt l∈qs->l≠[]
theorem QOk.ne {qs:List Qc} (h:QOk qs):NeQ qs:=fun l hl=>(h l hl).2
theorem plain_fl {sg:List (List Nat)} (h:∀ l∈sg,l≠[]):plainQ sg=flA sg.flatten:=by
 unfold plainQ flA
 cases sg with
 |nil=>rfl
 |cons x sg=>
  have hx:=h x List.mem_cons_self
  rw[if_neg (by simp),if_neg]
  rw[List.flatten_cons]
  cases x with
  |nil=>exact absurd rfl hx
  |cons _ _=>simp
theorem mg_at:∀ (qs:List Qc) (sg:List (List Nat)),NeQ qs->(∀ l∈sg,l≠[])->mgGo sg qs=mgA sg.flatten (atQs qs)
 | [],sg,_,h=>plain_fl h
 | .txt l::r,sg,hq,h=>by
  rw[atQs_cons]
  show mgGo (sg++[l]) r=mgA sg.flatten (l.map .sg++atQs r)
  rw[mgA_text,mg_at r (sg++[l]) (fun x hx=>hq x (List.mem_cons_of_mem _ hx)) fun x hx=>by
   rcases List.mem_append.mp hx with z |z
   ·exact h x z
   ·rw[List.mem_singleton.mp z];exact hq l List.mem_cons_self]
  rw[List.flatten_append]
  show mgA (sg.flatten++(l++[])) _=_
  rw[List.append_nil]
 | .part p::r,sg,hq,h=>by
  rw[atQs_cons]
  show plainQ sg++p::mgGo [] r=flA sg.flatten++p::mgA [] (atQs r)
  rw[plain_fl h,mg_at r [] (fun x hx=>hq x (List.mem_cons_of_mem _ hx)) (fun _ z=>nomatch z)]
  rfl
def plS (c:Nat):Bool:=decide (c≠92)&&decide (c≠42)&&decide (c≠96)&&decide (c≠91)
theorem takes_no {c:Nat} {r:List Nat} (h:c≠92):takesC (c::r)=false:=by
 unfold takesC
 split
 ·rename_i z;exact absurd (List.cons.inj z).1 h
 ·rfl
theorem step_cons (x:Nat) (t:List Nat):stepC (x::t)=if takesC (x::t) then some (Pc.sign (t.headD 0),t.tail) else if x=42 then some (Pc.star,t) else if x=96 then some ((codeC t).getD (.sign 96,t)) else if x=91 then some (((markC t).or (linkC t)).getD (.sign 91,t)) else some (Pc.sign x,t):=rfl
theorem step_pl {c:Nat} {r:List Nat} (h:plS c=true):stepC (c::r)=some (.sign c,r):=by
 unfold plS at h
 simp only[Bool.and_eq_true,decide_eq_true_eq] at h
 obtain ⟨⟨⟨h1,h2⟩,h3⟩,h4⟩:=h
 rw[step_cons,if_neg (by rw[takes_no h1];simp),if_neg h2,if_neg h3,if_neg h4]
theorem step_take {c:Nat} {r:List Nat} (h:takenC.contains c=true):stepC (92::c::r)=some (.sign c,r):=by
 rw[step_cons,if_pos (takes_iff.mpr ⟨rfl,h⟩)]
 rfl
theorem step_code {s r:List Nat} (hs:96∉s) (hn:s≠[]):stepC (96::(s++96::r))=some (.code s,r):=by
 rw[step_cons,if_neg (by rw[takes_no (by decide)];simp),if_neg (by decide),if_pos rfl]
 have:codeC (s++96::r)=some (.code s,r):=by
  unfold codeC
  rw[cutAt_app hs]
  cases s with
  |nil=>exact absurd rfl hn
  |cons x a=>rfl
 rw[this]
 rfl
theorem nameAt_name {c:Nat} {name r:List Nat} (hn:isNameC name=true) (hc:c∉name):nameAt c (name++c::r)=some (smallC name,r):=by
 have hl:name.length<=12:=by
  unfold isNameC at hn
  rw[Bool.and_eq_true,Bool.and_eq_true] at hn
  exact of_decide_eq_true hn.1.2
 unfold nameAt
 have e:(name++c::r).take 13=name++c::r.take (12 - name.length):=by
  rw[List.take_append,List.take_of_length_le (by omega),show 13 - name.length=(12 - name.length)+1 by omega]
  rfl
 rw[e,cutAt_app hc]
 show (if isNameC name=true then _ else none)=_
 rw[if_pos hn]
 congr 2
 rw[<- List.drop_drop,List.drop_left]
 rfl
theorem step_open {r:List Nat}:stepC (91::r)=some (((markC r).or (linkC r)).getD (.sign 91,r)):=by
 rw[step_cons,if_neg (by rw[takes_no (by decide)];simp),if_neg (by decide),if_neg (by decide),if_pos rfl]
theorem step_mark {name r:List Nat} (hn:isNameC name=true) (hc:93∉name):stepC (91::94::(name++93::r))=some (.note (smallC name),r):=by
 rw[step_open]
 show some (((nameAt 93 (name++93::r)).map _ |>.or _).getD _)=_
 rw[nameAt_name hn hc]
 rfl
theorem mark_no {r:List Nat} (h:r.head? ≠ some 94):markC r=none:=by
 unfold markC
 split
 ·exact absurd rfl h
 ·rfl
theorem link_eq {r r2:List Nat} {k:Nat} (h:nxtC r=some (k+1)) (h2:r.drop (k+2)=40::r2):linkC r=(nameAt 41 r2).map fun (n,r3)=>(Pc.link (freeC (r.take (k+1))) n,r3):=by
 unfold linkC
 rw[h]
 dsimp only
 rw[h2]
 rfl
theorem step_link {raw words name r:List Nat} (h94:raw.head? ≠ some 94) (hr:raw≠[]) (hx:∀ rest,nxtC (raw++93::rest)=some raw.length) (hf:freeC raw=words) (hn:isNameC name=true) (hc:41∉name):
  stepC (91::(raw++93::40::(name++41::r)))=some (.link words (smallC name),r):=by
 rw[step_open]
 cases raw with
 |nil=>exact absurd rfl hr
 |cons x raw=>
  rw[mark_no (by rw[List.cons_append];exact h94)]
  have:linkC ((x::raw)++93::40::(name++41::r))=some (.link words (smallC name),r):=by
   have e1:((x::raw)++93::40::(name++41::r)).drop (raw.length+2)=40::(name++41::r):=by
    rw[show raw.length+2=(x::raw).length+1 by rw[List.length_cons],<- List.drop_drop,List.drop_left]
    rfl
   have e2:((x::raw)++93::40::(name++41::r)).take (raw.length+1)=x::raw:=by
    rw[show raw.length+1=(x::raw).length by rw[List.length_cons],List.take_left]
   rw[link_eq (hx _) e1,nameAt_name hn hc,e2,hf]
   rfl
  rw[this]
  rfl
theorem free_one' {x:Nat} {r:List Nat} (h:takesC (x::r)=false):freeC (x::r)=x::freeC r:=by
 cases r with
 |nil=>rfl
 |cons y r=>
  show (if x=92/\takenC.contains y=true then y::freeC r else x::freeC (y::r))=_
  rw[if_neg fun z=>by rw[takes_iff.mpr z] at h;cases h]
theorem free_take' {x y:Nat} {r:List Nat} (h:takesC (x::y::r)=true):freeC (x::y::r)=y::freeC r:=by
 show (if x=92/\takenC.contains y=true then y::freeC r else x::freeC (y::r))=_
 rw[if_pos (takes_iff.mp h)]
theorem map_add (o:Option Nat) (a b:Nat):(o.map (· + a)).map (· + b)=o.map (· + (a+b)):=by
 cases o with
 |none=>rfl
 |some x=>show some (x+a+b)=some (x+(a+b));rw[Nat.add_assoc]
theorem ws_no:∀ (ps:List Pc) (r:List Pc),(∀ p∈ps,p≠Pc.star)->wsGo none (ps++r)=ps.map toQ++wsGo none r
 | [],_,_=>rfl
 |p::ps,r,h=>by rw[List.cons_append,ws_none_one (h p List.mem_cons_self),ws_no ps r fun q hq=>h q (List.mem_cons_of_mem _ hq)];rfl
theorem ws_in:∀ (ps:List Pc) (r:List Pc) (inn:List Qc),(∀ p∈ps,p≠Pc.star)->wsGo (some inn) (ps++r)=wsGo (some (inn++ps.map toQ)) r
 | [],r,inn,_=>by rw[List.map_nil,List.append_nil];rfl
 |p::ps,r,inn,h=>by rw[List.cons_append,ws_some_one (h p List.mem_cons_self),ws_in ps r _ fun q hq=>h q (List.mem_cons_of_mem _ hq),List.append_assoc];rfl
theorem step_star {r:List Nat}:stepC (42::r)=some (.star,r):=by
 rw[step_cons,if_neg (by rw[takes_no (by decide)];simp),if_pos rfl]
theorem ne_toQ {ps:List Pc}:NeQ (ps.map toQ):=fun l hl=>by
 obtain ⟨p,_,e⟩:=List.mem_map.mp hl
 cases p <;> cases e <;> simp
end Lw
set_option Elab.async false
set_option linter.all false
set_option maxRecDepth 100000
set_option maxHeartbeats 2000000
namespace K5
open PySem L2 Lm Lw
section
variable {P:Program} {w:World} {K:PySem.W.Frag} {mg:Str->Option Value} {base:Heap} {c:Cp} {BT:Addr}
abbrev sCodeAt:Stmt:=top 28
theorem scCodeAt:FnScope ["text","place","end"] ["text","place"] (defScope sCodeAt):=⟨rfl,rfl,rfl,by decide +kernel,rfl,by decide +kernel,by decide +kernel⟩
def spCodeAt (c:Cp):Sp:=fun vs H Q _=>∃ (t:List Nat) (p:Nat),vs=[vS t, .int (p:Int)]/\p < t.length/\t.length<=100000/\Asc t/\Fnd c t.length H Q (codeC (t.drop (p+1)))
theorem ok_codeAt {f:Addr} {fd:FuncData} (F:Fun K "code_at" "code_at" sCodeAt f fd) (T:TxI K mg c BT) (D_Code:New P w K mg base 1 "Code" c.Code ["self","signs"] (spInit1 c.Code "signs")):FnOk P w K mg base CX0 3 f fd ["text","place"] (spCodeAt c):=by
 have sc:=scCodeAt
 refine F.ok sc (fun vs H Q E h=>?_) (fun cdv A outer s H vs Q E hr h=>?_)
 ·obtain ⟨t,p,rfl,_⟩:=h
  rfl
 obtain ⟨t,p,rfl,hp,hl,ha,q⟩:=h
 refine of_XB (xbc (xset (i:=2) sc.nd rfl (Or.inl rfl) (xm PySem.F.plainAttrs_str PySem.F.slot_str_find PySem.F.type_str_find mt_find3 (xv 0) (xac xstr (xac (xop op_add (xv 1) xint) xa0))))
  (xbc (xif (xor (xcmpT op_lt (xv 2) xint (nomark _)) (xor1 (xcmpT op_eq (xv 2) (xop op_add (xv 1) xint) (nomark _)))).xt (xb1 (xret xnon)) xb0)
  (xb1 (xret (xtup (xac (xnew D_Code (hr.mono (by omega)) (xac (xsl sl_str (xv 0) (xo1 (xop op_add (xv 1) xint)) (xo1 (xv 2))) xa0)) (xac (xop op_add (xv 2) xint) xa0))))))) ?_
 rw[show start ["text","place","end"] [vS t,V.int (p:Int)]=[some (vS t),some (V.int (p:Int)),none] from rfl]
 refine ⟨_,rfl,rfl,_,rfl,_,_,rfl,rfl,t,96,p+1,rfl,rfl,?_⟩
 dsimp only[gName,List.set_cons_succ,List.set_cons_zero]
 have tt:∀ e:Int,Tells (tOr (tTest (tOp (rI0 fun i j => .bl (decide (i < j))) (tVar 2) (tC (.int 0)))) (tTest (tOp rEq (tVar 2) (tOp (rI0 fun i j => .int (i+j)) (tVar 1) (tC (.int 1)))))) [some (vS t),some (V.int (p:Int)),some (V.int e)] H (decide (e < 0)||decide (e=(p:Int)+1)):=fun e=>t_or _ _ (t_cmp (ev_v rfl) ev_c rfl) fun _ H1 _=>t_eqi (ev_v rfl) (ev_op (ev_v rfl) ev_c rfl)
 have hw:(t.take t.length).drop (p+1)=t.drop (p+1):=by rw[List.take_length]
 cases hc:cutAt 96 (t.drop (p+1)) with
 |none=>
  rw[fnd_none (by rw[hw];exact hc)]
  have e0:codeC (t.drop (p+1))=none:=by unfold codeC;rw[hc]
  rw[e0] at q
  exact s_yes ((tt _).eq (by rw[decide_eq_true (by decide)];rfl)) fun H1 s1=>q H1 s1
 |some ab=>
  obtain ⟨a,b⟩:=ab
  rw[fnd_some (by rw[hw];exact hc)]
  obtain ⟨he,_⟩:=cutAt_eq hc
  have hlen:=congrArg List.length he
  rw[List.length_drop,List.length_append,List.length_cons] at hlen
  cases a with
  |nil=>
   have e0:codeC (t.drop (p+1))=none:=by unfold codeC;rw[hc]
   rw[e0] at q
   refine s_yes ((tt _).eq ?_) fun H1 s1=>q H1 s1
   rw[Bool.or_eq_true]
   exact .inr (decide_eq_true (by rw[List.length_nil];omega))
  |cons x a=>
   have e0:codeC (t.drop (p+1))=some (.code (x::a),b):=by unfold codeC;rw[hc]
   rw[e0] at q
   have hal:0 < (x::a).length:=by rw[List.length_cons];omega
   have has:Asc (x::a):=((ha.drop (p+1)).sub fun c hc=>by rw[he];exact List.mem_append_left _ hc)
   generalize x::a=a at *
   refine s_no1 ((tt _).eq ?_) fun H1 s1=>?_
   ·rw[decide_eq_false (by omega),decide_eq_false (by omega)];rfl
   refine ev_sl (l:=t) (a:=a) (by omega) (ev_v rfl) (evo_s (i:=((p+1:Nat):Int)) (ev_op (ev_v rfl) ev_c rfl)) (evo_s (i:=((p+1+a.length:Nat):Int)) (ev_v rfl)) ?_ _ ?_
   ·rw[cut_any,he,show p+1+a.length - (p+1)=a.length by omega,List.take_left]
   intro y dx hy hdx hne
   refine ⟨y,dx,_,rfl,upd_same,rfl,_,rfl,_,_,rfl,rfl,big (show (2:Nat)<=1000000 by decide),fun tp htp=>?_⟩
   obtain ⟨m1,m2⟩:=made1 (C:=c.Code) (o := .ins c.Code dx [("signs",vS a)]) s1 hy hdx
   refine q tp (.ref y) _ (m1.trans (same_new htp _)) ?_ ⟨y,rfl,strG_S has (by omega),dx,dif_new htp _ _ _ m2⟩
   rw[upd_same]
   show some (HO.tup [V.ref y,V.int (((p+1+a.length:Nat):Int)+1)])=_
   rw[show ((p+1+a.length:Nat):Int)+1=((t.length - b.length:Nat):Int) by omega]
abbrev sMarkAt:Stmt:=top 29
theorem scMarkAt:FnScope ["text","place","begin","end"] ["text","place"] (defScope sMarkAt):=⟨rfl,rfl,rfl,by decide +kernel,rfl,by decide +kernel,by decide +kernel⟩
def spMarkAt (c:Cp):Sp:=fun vs H Q _=>∃ (t:List Nat) (p:Nat) (r:List Nat),vs=[vS t, .int (p:Int)]/\t.drop p=91::r/\t.length<=100000/\Asc t/\Fnd c t.length H Q (markC r)
theorem ok_markAt {f:Addr} {fd:FuncData} (F:Fun K "mark_at" "mark_at" sMarkAt f fd) (T:TxI K mg c BT) (D_Mark:New P w K mg base 1 "Mark" c.Mark ["self","name"] (spInit1 c.Mark "name"))
  (D_is_name:Def P w K mg base 1 "is_name" ["thing"] spNameD) (D_name_of:Def P w K mg base 2 "name_of" ["thing"] spNameOf):FnOk P w K mg base CX0 3 f fd ["text","place"] (spMarkAt c):=by
 have sc:=scMarkAt
 refine F.ok sc (fun vs H Q E h=>?_) (fun cdv A outer s H vs Q E hr h=>?_)
 ·obtain ⟨t,p,r,rfl,_⟩:=h
  rfl
 obtain ⟨t,p,r,rfl,hd,hl,ha,q⟩:=h
 refine of_XB (xbc (xif (xnotT (xvalT (xm PySem.F.plainAttrs_str PySem.F.slot_str_startswith PySem.F.type_str_startswith mt_startsAt (xv 0) (xac xstr (xac (xv 1) xa0))))) (xb1 (xret xnon)) xb0)
  (xbc (xset (i:=2) sc.nd rfl (Or.inl rfl) (xop op_add (xv 1) xint))
  (xbc (xset (i:=3) sc.nd rfl (Or.inl rfl) (xm PySem.F.plainAttrs_str PySem.F.slot_str_find PySem.F.type_str_find mt_find4 (xv 0) (xac xstr (xac (xv 2) (xac (xop op_add (xop op_add (xv 2) (xgI T.g_LONGEST_NAME)) xint) xa0)))))
  (xbc (xif (xor (xcmpT op_lt (xv 3) xint (nomark _)) (xor1 (xnotT (xvalT (xcD D_is_name (hr.mono (by omega)) (xac (xsl sl_str (xv 0) (xo1 (xv 2)) (xo1 (xv 3))) xa0)))))).xt (xb1 (xret xnon)) xb0)
  (xb1 (xret (xtup (xac (xnew D_Mark (hr.mono (by omega)) (xac (xcD D_name_of (hr.mono (by omega)) (xac (xsl sl_str (xv 0) (xo1 (xv 2)) (xo1 (xv 3))) xa0)) xa0)) (xac (xop op_add (xv 3) xint) xa0))))))))) ?_
 rw[show start ["text","place","begin","end"] [vS t,V.int (p:Int)]=[some (vS t),some (V.int (p:Int)),none,none] from rfl]
 have tS:Tells (tNot (tB (tBM K "str" rStartsAt (tVar 0) (tCons (tC (.str "[^")) (tCons (tVar 1) tNil))))) [some (vS t),some (V.int (p:Int)),none,none] H (!([91,94]:List Nat).isPrefixOf (t.drop p)):=t_not _ (t_startsAt (z:=[91,94]) rfl (by simp) (ev_v rfl) (ev_v rfl))
 rw[hd] at tS
 by_cases hr:∃ r',r=94::r'
 rotate_left
 ·have e0:markC r=none:=by
   unfold markC
   split
   ·exact absurd ⟨_,rfl⟩ hr
   ·rfl
  have e1:([91,94]:List Nat).isPrefixOf (91::r)=false:=by
   cases r with
   |nil=>rfl
   |cons y r'=>
    rw[Bool.eq_false_iff]
    intro z
    simp[List.isPrefixOf] at z
    exact hr ⟨r',by rw[<- z]⟩
  rw[e0] at q
  exact s_yes (tS.eq (by rw[e1];rfl)) fun H1 s1=>q H1 s1
 obtain ⟨r,rfl⟩:=hr
 have hd2:t.drop (p+2)=r:=by rw[<- List.drop_drop,hd];rfl
 have hlen:=congrArg List.length hd
 rw[List.length_drop,List.length_cons,List.length_cons] at hlen
 refine s_no1 (tS.eq rfl) fun H1 s1=>?_
 refine ⟨_,rfl,_,_,rfl,rfl,?_⟩
 dsimp only[gName,List.set_cons_succ,List.set_cons_zero]
 refine ⟨_,rfl,rfl,_,rfl,_,rfl,_,_,rfl,rfl,_,_,rfl,rfl,t,93,p+2,p+2+13,rfl,rfl,?_⟩
 dsimp only[gName,List.set_cons_succ,List.set_cons_zero]
 have hw:cutAt 93 ((t.take (min (p+2+13) t.length)).drop (p+2))=cutAt 93 (r.take 13):=by rw[win,hd2]
 cases hc:cutAt 93 (r.take 13) with
 |none=>
  rw[fnd_none (hw.trans hc)]
  have e0:markC (94::r)=none:=by
   show (Lw.nameAt 93 r).map _=none
   unfold Lw.nameAt
   rw[hc]
   rfl
  rw[e0] at q
  exact s_yes (t_or true false (t_cmp (ev_v rfl) ev_c (by rfl)) (fun z=>Bool.noConfusion z)) fun H2 s2=>q H2 (s1.trans s2)
 |some ab=>
  obtain ⟨a,b⟩:=ab
  rw[fnd_some (hw.trans hc)]
  obtain ⟨he,_⟩:=cutAt_eq hc
  have hal:a.length+1<=r.length/\a.length<=12:=by
   have:=congrArg List.length he
   rw[List.length_take,List.length_append,List.length_cons] at this
   omega
  have hta:r.take a.length=a:=by
   have:=congrArg (List.take a.length) he
   rw[List.take_take,List.take_left,Nat.min_eq_left (by omega)] at this
   exact this
  have has:Asc a:=((ha.drop (p+2)).take a.length).sub fun c hc=>by rw[hd2,hta];exact hc
  have esl:∀ H2,Ev (tSl rSlS (tVar 0) (tPart (tVar 2)) (tPart (tVar 3))) [some (vS t),some (V.int (p:Int)),some (V.int ((p:Int)+2)),some (V.int ((p+2+a.length:Nat):Int))] H2 (vS a):=fun H2=>by
   refine ev_sl (l:=t) (a:=a) (by omega) (ev_v rfl) (evo_s (i:=((p+2:Nat):Int)) (ev_v rfl)) (evo_s (i:=((p+2+a.length:Nat):Int)) (ev_v rfl)) ?_
   rw[cut_any,hd2,show p+2+a.length - (p+2)=a.length by omega,hta]
  have tt:Tells (tOr (tTest (tOp (rI0 fun i j => .bl (decide (i < j))) (tVar 3) (tC (.int 0)))) (tNot (tB (tCall spNameD [] E0 (tCons (tSl rSlS (tVar 0) (tPart (tVar 2)) (tPart (tVar 3))) tNil))))) [some (vS t),some (V.int (p:Int)),some (V.int ((p:Int)+2)),some (V.int ((p+2+a.length:Nat):Int))] H1 (false || !isNameC a):=by
   refine t_or false _ (t_cmp (ev_v rfl) ev_c ?_) fun _ H2 s2=>t_not _ fun R k=>esl H2 _ ⟨_,_,rfl,(strG_S has (by omega)).dn,fun H3 s3=>⟨_,rfl,?_⟩⟩
   ·rw[decide_eq_false (by omega)]
   ·rw[isNm_S];exact k H3 s3
  by_cases hn:isNameC a=true
  rotate_left
  ·have hn:=Bool.eq_false_iff.mpr hn
   have e0:markC (94::r)=none:=by
    show (Lw.nameAt 93 r).map _=none
    unfold Lw.nameAt
    rw[hc]
    show (if isNameC a=true then _ else none).map _=none
    rw[hn]
    rfl
   rw[e0] at q
   exact s_yes (tt.eq (by rw[hn];rfl)) fun H2 s2=>q H2 (s1.trans s2)
  have e0:markC (94::r)=some (.note (smallC a),r.drop (a.length+1)):=by
   show (Lw.nameAt 93 r).map _=_
   unfold Lw.nameAt
   rw[hc]
   show (if isNameC a=true then _ else none).map _=_
   rw[if_pos hn]
   rfl
  rw[e0] at q
  refine s_no1 (tt.eq (by rw[hn];rfl)) fun H2 s2=>?_
  refine esl H2 _ ⟨a,rfl,by omega,hn,fun H3 s3 y dx hy hdx hne=>?_⟩
  refine ⟨y,dx,_,rfl,upd_same,rfl,_,rfl,_,_,rfl,rfl,big (show (2:Nat)<=1000000 by decide),fun tp htp=>?_⟩
  obtain ⟨m1,m2⟩:=made1 (C:=c.Mark) (o := .ins c.Mark dx [("name",vS (smallC a))]) ((s1.trans s2).trans s3) hy hdx
  refine q tp (.ref y) _ (m1.trans (same_new htp _)) ?_ ⟨y,rfl,strG_S has.small (by unfold smallC;rw[List.length_map];omega),dx,dif_new htp _ _ _ m2⟩
  rw[upd_same,List.length_drop]
  show some (HO.tup [V.ref y,V.int (((p+2+a.length:Nat):Int)+1)])=_
  rw[show ((p+2+a.length:Nat):Int)+1=((t.length - (r.length - (a.length+1)):Nat):Int) by omega]
abbrev sLinkAt:Stmt:=top 30
theorem scLinkAt:FnScope ["text","place","closing","begin","end"] ["text","place","closing"] (defScope sLinkAt):=⟨rfl,rfl,rfl,by decide +kernel,rfl,by decide +kernel,by decide +kernel⟩
def spLinkAt (c:Cp):Sp:=fun vs H Q _=>∃ (t:List Nat) (p:Nat) (r:List Nat),vs=[vS t, .int (p:Int), .int (toPos (p+1) (nxtC r))]/\t.drop p=91::r/\t.length<=100000/\Asc t/\Fnd c t.length H Q (linkC r)
theorem ok_linkAt {f:Addr} {fd:FuncData} (F:Fun K "link_at" "link_at" sLinkAt f fd) (T:TxI K mg c BT) (D_Link:New P w K mg base 1 "Link" c.Link ["self","words","name"] (spInit2 c.Link "words" "name"))
  (D_freed:Def P w K mg base 2 "freed" ["text"] spFreed) (D_is_name:Def P w K mg base 1 "is_name" ["thing"] spNameD) (D_name_of:Def P w K mg base 2 "name_of" ["thing"] spNameOf):FnOk P w K mg base CX0 3 f fd ["text","place","closing"] (spLinkAt c):=by
 have sc:=scLinkAt
 refine F.ok sc (fun vs H Q E h=>?_) (fun cdv A outer s H vs Q E hr h=>?_)
 ·obtain ⟨t,p,r,rfl,_⟩:=h
  rfl
 obtain ⟨t,p,r,rfl,hd,hl,ha,q⟩:=h
 refine of_XB (xbc (xif (xor (xcmpT op_le (xv 2) (xop op_add (xv 1) xint) (nomark _)) (xor1 (xnotT (xvalT (xm PySem.F.plainAttrs_str PySem.F.slot_str_startswith PySem.F.type_str_startswith mt_startsAt (xv 0) (xac xstr (xac (xv 2) xa0))))))).xt (xb1 (xret xnon)) xb0)
  (xbc (xset (i:=3) sc.nd rfl (Or.inl rfl) (xop op_add (xv 2) xint))
  (xbc (xset (i:=4) sc.nd rfl (Or.inl rfl) (xm PySem.F.plainAttrs_str PySem.F.slot_str_find PySem.F.type_str_find mt_find4 (xv 0) (xac xstr (xac (xv 3) (xac (xop op_add (xop op_add (xv 3) (xgI T.g_LONGEST_NAME)) xint) xa0)))))
  (xbc (xif (xor (xcmpT op_lt (xv 4) xint (nomark _)) (xor1 (xnotT (xvalT (xcD D_is_name (hr.mono (by omega)) (xac (xsl sl_str (xv 0) (xo1 (xv 3)) (xo1 (xv 4))) xa0)))))).xt (xb1 (xret xnon)) xb0)
  (xb1 (xret (xtup (xac (xnew D_Link (hr.mono (by omega)) (xac (xcD D_freed (hr.mono (by omega)) (xac (xsl sl_str (xv 0) (xo1 (xop op_add (xv 1) xint)) (xo1 (xv 2))) xa0)) (xac (xcD D_name_of (hr.mono (by omega)) (xac (xsl sl_str (xv 0) (xo1 (xv 3)) (xo1 (xv 4))) xa0)) xa0))) (xac (xop op_add (xv 4) xint) xa0))))))))) ?_
 rw[show start ["text","place","closing","begin","end"] [vS t,V.int (p:Int),V.int (toPos (p+1) (nxtC r))]=[some (vS t),some (V.int (p:Int)),some (V.int (toPos (p+1) (nxtC r))),none,none] from rfl]
 have hd1:t.drop (p+1)=r:=by rw[<- List.drop_drop,hd];rfl
 have hlen:=congrArg List.length hd
 rw[List.length_drop,List.length_cons] at hlen
 have early:∀ v:Int,v<=(p:Int)+1->Tells (tOr (tTest (tOp (rI0 fun i j => .bl (decide (i<=j))) (tVar 2) (tOp (rI0 fun i j => .int (i+j)) (tVar 1) (tC (.int 1))))) (tNot (tB (tBM K "str" rStartsAt (tVar 0) (tCons (tC (.str "](")) (tCons (tVar 2) tNil)))))) [some (vS t),some (V.int (p:Int)),some (V.int v),none,none] H true:=fun v hv=>t_or true false (t_cmp (ev_v rfl) (ev_op (ev_v rfl) ev_c rfl) (by rw[decide_eq_true hv])) (fun z=>Bool.noConfusion z)
 cases hx:nxtC r with
 |none=>
  have e0:linkC r=none:=by unfold linkC;rw[hx]
  rw[e0] at q
  exact s_yes (early (-1) (by omega)) fun H1 s1=>q H1 s1
 |some k=>
 show (tSeq _ _:TS) _ [some (vS t),some (V.int (p:Int)),some (V.int ((p+1+k:Nat):Int)),none,none] H
 cases k with
 |zero=>
  have e0:linkC r=none:=by unfold linkC;rw[hx]
  rw[e0] at q
  exact s_yes (early _ (by omega)) fun H1 s1=>q H1 s1
 |succ k=>
 obtain ⟨u,v,hu,hul⟩:=nxt_at hx
 have hrl:=congrArg List.length hu
 rw[List.length_append,List.length_cons] at hrl
 have hdk:t.drop (p+1+(k+1))=93::v:=by
  rw[<- List.drop_drop,hd1,hu,<- hul,List.drop_left]
 have hdv:r.drop (k+2)=v:=by
  rw[show k+2=k+1+1 by omega,<- List.drop_drop,hu,<- hul,List.drop_left]
  rfl
 have tS:Tells (tOr (tTest (tOp (rI0 fun i j => .bl (decide (i<=j))) (tVar 2) (tOp (rI0 fun i j => .int (i+j)) (tVar 1) (tC (.int 1))))) (tNot (tB (tBM K "str" rStartsAt (tVar 0) (tCons (tC (.str "](")) (tCons (tVar 2) tNil)))))) [some (vS t),some (V.int (p:Int)),some (V.int ((p+1+(k+1):Nat):Int)),none,none] H (false || !([93,40]:List Nat).isPrefixOf (t.drop (p+1+(k+1)))):=
  t_or false _ (t_cmp (ev_v rfl) (ev_op (ev_v rfl) ev_c rfl) (by rw[decide_eq_false (by omega)])) fun _ H1 s1=>t_not _ (t_startsAt (z:=[93,40]) rfl (by simp) (ev_v rfl) (ev_v rfl))
 rw[hdk] at tS
 by_cases hr:∃ r2,v=40::r2
 rotate_left
 ·have e0:linkC r=none:=by
   unfold linkC
   rw[hx]
   show (match r.drop (k+2) with |40::r2=>(Lw.nameAt 41 r2).map fun (n,r3)=>(Pc.link (freeC (r.take (k+1))) n,r3) |_=>none)=none
   rw[hdv]
   split
   ·exact absurd ⟨_,rfl⟩ hr
   ·rfl
  have e1:([93,40]:List Nat).isPrefixOf (93::v)=false:=by
   cases v with
   |nil=>rfl
   |cons y r'=>
    rw[Bool.eq_false_iff]
    intro z
    simp[List.isPrefixOf] at z
    exact hr ⟨r',by rw[<- z]⟩
  rw[e0] at q
  exact s_yes (tS.eq (by rw[e1];rfl)) fun H1 s1=>q H1 s1
 obtain ⟨r2,rfl⟩:=hr
 rw[List.length_cons] at hrl
 have hd2:t.drop (p+1+(k+1)+2)=r2:=by rw[<- List.drop_drop,hdk];rfl
 refine s_no1 (tS.eq rfl) fun H1 s1=>?_
 refine ⟨_,rfl,_,_,rfl,rfl,?_⟩
 dsimp only[gName,List.set_cons_succ,List.set_cons_zero]
 have hpos:((p+1+(k+1):Nat):Int)+2=((p+1+(k+1)+2:Nat):Int):=rfl
 rw[hpos]
 have eL:=link_eq hx hdv
 rw[eL] at q
 clear eL tS early
 generalize hb:p+1+(k+1)+2=bg at *
 refine ⟨_,rfl,rfl,_,rfl,_,rfl,_,_,rfl,rfl,_,_,rfl,rfl,t,41,bg,bg+13,rfl,rfl,?_⟩
 dsimp only[gName,List.set_cons_succ,List.set_cons_zero]
 have hw:cutAt 41 ((t.take (min (bg+13) t.length)).drop bg)=cutAt 41 (r2.take 13):=by rw[win,hd2]
 cases hc:cutAt 41 (r2.take 13) with
 |none=>
  rw[fnd_none (hw.trans hc)]
  have e0:Lw.nameAt 41 r2=none:=by unfold Lw.nameAt;rw[hc]
  rw[e0] at q
  exact s_yes (t_or true false (t_cmp (ev_v rfl) ev_c (by rfl)) (fun z=>Bool.noConfusion z)) fun H2 s2=>q H2 (s1.trans s2)
 |some ab=>
  obtain ⟨a,b⟩:=ab
  rw[fnd_some (hw.trans hc)]
  obtain ⟨he,_⟩:=cutAt_eq hc
  have hal:a.length+1<=r2.length/\a.length<=12:=by
   have:=congrArg List.length he
   rw[List.length_take,List.length_append,List.length_cons] at this
   omega
  have hta:r2.take a.length=a:=by
   have:=congrArg (List.take a.length) he
   rw[List.take_take,List.take_left,Nat.min_eq_left (by omega)] at this
   exact this
  have has:Asc a:=((ha.drop bg).take a.length).sub fun c hc=>by rw[hd2,hta];exact hc
  have esl:∀ H2,Ev (tSl rSlS (tVar 0) (tPart (tVar 3)) (tPart (tVar 4))) [some (vS t),some (V.int (p:Int)),some (V.int ((p+1+(k+1):Nat):Int)),some (V.int (bg:Int)),some (V.int ((bg+a.length:Nat):Int))] H2 (vS a):=fun H2=>by
   refine ev_sl (l:=t) (a:=a) (by omega) (ev_v rfl) (evo_s (i:=(bg:Int)) (ev_v rfl)) (evo_s (i:=((bg+a.length:Nat):Int)) (ev_v rfl)) ?_
   rw[cut_any,hd2,show bg+a.length - bg=a.length by omega,hta]
  have tt:Tells (tOr (tTest (tOp (rI0 fun i j => .bl (decide (i < j))) (tVar 4) (tC (.int 0)))) (tNot (tB (tCall spNameD [] E0 (tCons (tSl rSlS (tVar 0) (tPart (tVar 3)) (tPart (tVar 4))) tNil))))) [some (vS t),some (V.int (p:Int)),some (V.int ((p+1+(k+1):Nat):Int)),some (V.int (bg:Int)),some (V.int ((bg+a.length:Nat):Int))] H1 (false || !isNameC a):=by
   refine t_or false _ (t_cmp (ev_v rfl) ev_c ?_) fun _ H2 s2=>t_not _ fun R k=>esl H2 _ ⟨_,_,rfl,(strG_S has (by omega)).dn,fun H3 s3=>⟨_,rfl,?_⟩⟩
   ·rw[decide_eq_false (by omega)]
   ·rw[isNm_S];exact k H3 s3
  by_cases hn:isNameC a=true
  rotate_left
  ·have hn:=Bool.eq_false_iff.mpr hn
   have e0:Lw.nameAt 41 r2=none:=by
    unfold Lw.nameAt
    rw[hc]
    show (if isNameC a=true then _ else none)=none
    rw[hn]
    rfl
   rw[e0] at q
   exact s_yes (tt.eq (by rw[hn];rfl)) fun H2 s2=>q H2 (s1.trans s2)
  have e0:Lw.nameAt 41 r2=some (smallC a,r2.drop (a.length+1)):=by
   unfold Lw.nameAt
   rw[hc]
   show (if isNameC a=true then _ else none)=_
   rw[if_pos hn]
  rw[e0] at q
  refine s_no1 (tt.eq (by rw[hn];rfl)) fun H2 s2=>?_
  have hwl:(r.take (k+1)).length<=100000:=by rw[List.length_take];omega
  have haw:Asc (r.take (k+1)):=((ha.drop (p+1)).sub fun c hc=>by rw[hd1];exact List.mem_of_mem_take hc)
  refine ev_sl (l:=t) (a:=r.take (k+1)) (by omega) (ev_v rfl) (evo_s (i:=((p+1:Nat):Int)) (ev_op (ev_v rfl) ev_c rfl)) (evo_s (i:=((p+1+(k+1):Nat):Int)) (ev_v rfl)) ?_ _ ⟨_,rfl,hwl,fun H3 s3=>?_⟩
  ·rw[cut_any,hd1,show p+1+(k+1) - (p+1)=k+1 by omega]
  refine esl H3 _ ⟨a,rfl,by omega,hn,fun H4 s4 y dx hy hdx hne=>?_⟩
  refine ⟨y,dx,_,_,rfl,upd_same,rfl,_,rfl,_,_,rfl,rfl,big (show (2:Nat)<=1000000 by decide),fun tp htp=>?_⟩
  have hfl:=free_len (r.take (k+1))
  obtain ⟨m1,m2⟩:=made2 (C:=c.Link) (o1 := .ins c.Link dx [("words",vS (freeC (r.take (k+1))))]) (o := .ins c.Link dx [("words",vS (freeC (r.take (k+1)))),("name",vS (smallC a))]) (((s1.trans s2).trans s3).trans s4) hy hdx
  refine q tp (.ref y) _ (m1.trans (same_new htp _)) ?_ ⟨y,rfl,strG_S (haw.sub fun c hc=>mem_free hc) (by omega),strG_S has.small (by unfold smallC;rw[List.length_map];omega),dx,dif_new htp _ _ _ m2⟩
  rw[upd_same,List.length_drop]
  show some (HO.tup [V.ref y,V.int (((bg+a.length:Nat):Int)+1)])=_
  rw[show ((bg+a.length:Nat):Int)+1=((t.length - (r2.length - (a.length+1)):Nat):Int) by omega]
end
end K5
set_option Elab.async false
set_option linter.all false
set_option maxRecDepth 100000
set_option maxHeartbeats 2000000
namespace K5
open PySem L2 Lm Lw
section
variable {P:Program} {w:World} {K:PySem.W.Frag} {mg:Str->Option Value} {base:Heap} {c:Cp} {BT:Addr}
abbrev sPieceAt:Stmt:=top 25
theorem scPieceAt:FnScope ["text","place","closings","sign","found"] ["text","place","closings"] (defScope sPieceAt):=⟨rfl,rfl,rfl,by decide +kernel,rfl,by decide +kernel,by decide +kernel⟩
def spPieceAt (c:Cp):Sp:=fun vs H Q _=>∃ (t:List Nat) (p:Nat) (cl:Addr) (pc:Pc) (r:List Nat),vs=[vS t, .int (p:Int), .ref cl]/\H cl=some (.lst ((clGo 0 t).map V.int))/\p < t.length/\t.length<=100000/\Asc t/\Al t p/\stepC (t.drop p)=some (pc,r)/\Fnd c t.length H Q (some (pc,r))
theorem ok_pieceAt {f:Addr} {fd:FuncData} (F:Fun K "piece_at" "piece_at" sPieceAt f fd) (T:TxI K mg c BT) (D_takes_next:Def P w K mg base 1 "takes_next" ["text","place"] spTakes)
  (D_code_at:Def P w K mg base 3 "code_at" ["text","place"] (spCodeAt c)) (D_mark_at:Def P w K mg base 3 "mark_at" ["text","place"] (spMarkAt c)) (D_link_at:Def P w K mg base 3 "link_at" ["text","place","closing"] (spLinkAt c)):FnOk P w K mg base CX0 4 f fd ["text","place","closings"] (spPieceAt c):=by
 have sc:=scPieceAt
 refine F.ok sc (fun vs H Q E h=>?_) (fun cdv A outer s H vs Q E hr h=>?_)
 ·obtain ⟨t,p,cl,pc,r,rfl,_⟩:=h
  rfl
 obtain ⟨t,p,cl,pc,r,rfl,ecl,hp,hl,ha,hal,hst,q⟩:=h
 refine of_XB (xbc (xset (i:=3) sc.nd rfl (Or.inl rfl) (xix ix_str (xv 0) (xv 1) (fun _ _=>rfl)))
  (xbc (xif (xvalT (xcD D_takes_next (hr.mono (by omega)) (xac (xv 0) (xac (xv 1) xa0)))) (xb1 (xret (xtup (xac (xix ix_str (xv 0) (xop op_add (xv 1) xint) (fun _ _=>rfl)) (xac (xop op_add (xv 1) xint) xa0))))) xb0)
  (xbc (xif (xcmpT op_eq (xv 3) xstr (nomark _)) (xb1 (xret (xtup (xac xnon (xac (xop op_add (xv 1) xint) xa0))))) xb0)
  (xbc (xset (i:=4) sc.nd rfl (Or.inl rfl) xnon)
  (xbc (xif (xcmpT op_eq (xv 3) xstr (nomark _)) (xb1 (xset (i:=4) sc.nd rfl (Or.inl rfl) (xcD D_code_at (hr.mono (by omega)) (xac (xv 0) (xac (xv 1) xa0))))) xb0)
  (xbc (xif (xcmpT op_eq (xv 3) xstr (nomark _)) (xbc (xset (i:=4) sc.nd rfl (Or.inl rfl) (xcD D_mark_at (hr.mono (by omega)) (xac (xv 0) (xac (xv 1) xa0))))
  (xb1 (xif (xcmpT op_isN (xv 4) xnon (nomark _)) (xb1 (xset (i:=4) sc.nd rfl (Or.inl rfl) (xcD D_link_at (hr.mono (by omega)) (xac (xv 0) (xac (xv 1) (xac (xix ix_list (xv 2) (xv 1) (fun _ _=>rfl)) xa0)))))) xb0))) xb0)
  (xb1 (xret (xifE (xcmpT op_isN (xv 4) xnon (nomark _)) (xtup (xac (xv 3) (xac (xop op_add (xv 1) xint) xa0))) (xv 4)))))))))) ?_
 rw[show start ["text","place","closings","sign","found"] [vS t,V.int (p:Int),V.ref cl]=[some (vS t),some (V.int (p:Int)),some (V.ref cl),none,none] from rfl]
 obtain ⟨x,r0,hd⟩:∃ x r0,t.drop p=x::r0:=⟨_,_,List.drop_eq_getElem_cons hp⟩
 have hlen:=congrArg List.length hd
 rw[List.length_drop,List.length_cons] at hlen
 have hgx:t.getD p 0=x:=by
  have:(t.drop p)[0]? = some x:=by rw[hd];rfl
  rw[List.getElem?_drop,Nat.add_zero] at this
  rw[List.getD_eq_getElem?_getD,this];rfl
 refine ⟨_,rfl,_,rfl,w_ixs (by omega) (by omega) (by omega) ?_⟩
 rw[Int.toNat_natCast,hgx]
 dsimp only[gName,List.set_cons_succ,List.set_cons_zero]
 refine ⟨_,rfl,_,rfl,t,p,rfl,hp,by omega,fun H1 s1=>⟨_,rfl,?_⟩⟩
 have hst':(if takesC (x::r0) then some (Pc.sign (r0.headD 0),r0.tail) else if x=42 then some (Pc.star,r0) else if x=96 then some ((codeC r0).getD (.sign 96,r0)) else if x=91 then some (((markC r0).or (linkC r0)).getD (.sign 91,r0)) else some (Pc.sign x,r0))=some (pc,r):=by rw[hd] at hst;exact hst
 have num:∀ k:Nat,p+k<=t.length->∀ r':List Nat,r'.length+(p+k)=t.length->(p:Int)+(k:Int)=((t.length - r'.length:Nat):Int):=fun k _ r' _=>by omega
 by_cases hk:takesC (t.drop p)=true
 ·rw[hk]
  refine iteT ?_
  obtain ⟨y,r2,hy⟩:=takes_form hk
  rw[hd] at hy hk
  cases hy
  rw[if_pos hk] at hst'
  cases hst'
  rw[List.length_cons] at hlen
  have hg1:t.getD (p+1) 0=y:=by
   have:(t.drop p)[1]? = some y:=by rw[hd];rfl
   rw[List.getElem?_drop] at this
   rw[List.getD_eq_getElem?_getD,this];rfl
  refine ⟨_,rfl,_,rfl,_,_,rfl,rfl,w_ixs (by omega) (by omega) (by omega) ⟨_,rfl,_,_,rfl,rfl,big (show (2:Nat)<=1000000 by decide),fun tp htp=>?_⟩⟩
  refine q tp (vS [y]) _ (s1.trans (same_new htp _)) ?_ rfl
  rw[upd_same,show ((p:Int)+1).toNat=p+1 by omega,hg1]
  show some (HO.tup [vS [y],V.int ((p:Int)+2)])=some (HO.tup [vS [y],V.int ((t.length - r2.length:Nat):Int)])
  rw[show (p:Int)+2=((t.length - r2.length:Nat):Int) by omega]
 have hk':takesC (t.drop p)=false:=Bool.eq_false_iff.mpr hk
 rw[hk']
 refine iteF ?_
 rw[hd] at hk'
 rw[if_neg (by rw[hk'];simp)] at hst'
 have tE:∀ (y:Str) (z:Nat) (fv:Option V) (H':Hp),y=S [z]->Tells (tTest (tOp rEq (tVar 3) (tC (.str y)))) [some (vS t),some (V.int (p:Int)),some (V.ref cl),some (vS [x]),fv] H' (decide ([x]=[z])):=fun y z fv H' e=>t_eq [x] [z] e (ev_v rfl)
 have sg:∀ z:Nat,[x]=[z] ↔ x=z:=fun z=>⟨fun h=>(List.cons.inj h).1,fun h=>by rw[h]⟩
 by_cases h42:x=42
 ·rw[if_pos h42] at hst'
  cases hst'
  refine s_yes ((tE "*" 42 none H1 rfl).eq (decide_eq_true ((sg _).mpr h42))) fun H2 s2=>?_
  refine ⟨_,rfl,_,_,rfl,rfl,big (show (2:Nat)<=1000000 by decide),fun tp htp=>?_⟩
  refine q tp .non _ ((s1.trans s2).trans (same_new htp _)) ?_ rfl
  rw[upd_same]
  show some (HO.tup [V.non,V.int ((p:Int)+1)])=_
  rw[show (p:Int)+1=((t.length - r.length:Nat):Int) by omega]
 rw[if_neg h42] at hst'
 refine s_no1 ((tE "*" 42 none H1 rfl).eq (decide_eq_false fun z=>h42 ((sg _).mp z))) fun H2 s2=>?_
 refine s_asgC ?_
 dsimp only[List.set_cons_succ,List.set_cons_zero]
 have s12:=s1.trans s2
 have fin:∀ (v:V) (H3:Hp),Same H H3->((v = .non/\pc = .sign x/\r=r0) ∨ ∃ tp u,v = .ref tp/\H3 tp=some (.tup [u, .int ((t.length - r.length:Nat):Int)])/\PcAt c (dif H H3) u pc)->∀ Q',(∀ v' H',Q v' H'->Q' v' H') →
   tIf (tTest (tOp (fun x y H Q=>y = .non/\Q (.bl (decide (x = .non))) H) (tVar 4) (tC .non))) (tTup (tCons (tVar 3) (tCons (tOp (rI0 fun i j => .int (i+j)) (tVar 1) (tC (.int 1))) tNil))) (tVar 4) [some (vS t),some (V.int (p:Int)),some (V.ref cl),some (vS [x]),some v] H3 Q':=by
  intro v H3 s3 h Q' kQ
  refine ⟨_,rfl,rfl,_,rfl,?_⟩
  rcases h with ⟨rfl,rfl,rfl⟩ |⟨tp,u,rfl,e3,hu⟩
  ·refine ite2 (fun _=>?_) (fun z=>absurd (decide_eq_true rfl) z)
   refine ⟨_,rfl,_,rfl,_,_,rfl,rfl,big (show (2:Nat)<=1000000 by decide),fun tp htp=>kQ _ _ (q tp (vS [x]) _ (s3.trans (same_new htp _)) ?_ rfl)⟩
   rw[upd_same]
   show some (HO.tup [vS [x],V.int ((p:Int)+1)])=_
   rw[show (p:Int)+1=((t.length - r.length:Nat):Int) by omega]
  ·refine ite2 (fun z=>nomatch of_decide_eq_true z) (fun _=>⟨_,rfl,kQ _ _ (q tp u H3 s3 e3 hu)⟩)
 by_cases h96:x=96
 ·subst h96
  rw[if_pos rfl] at hst'
  refine s_yes ((tE "`" 96 _ H2 rfl).eq (decide_eq_true rfl)) fun H3 s3=>?_
  have s13:=s12.trans s3
  have hdr:t.drop (p+1)=r0:=by rw[<- List.drop_drop,hd];rfl
  refine ⟨_,rfl,_,rfl,t,p,rfl,hp,hl,ha,?_⟩
  rw[hdr]
  cases hc:codeC r0 with
  |none=>
   intro H4 s4
   rw[hc] at hst'
   cases hst'
   dsimp only[gName,List.set_cons_succ,List.set_cons_zero]
   refine s_no1 ((tE "[" 91 _ H4 rfl).eq (decide_eq_false (by decide))) fun H5 s5=>?_
   exact fin .non H5 ((s13.trans s4).trans s5) (.inl ⟨rfl,rfl,rfl⟩) _ fun v' H' h=>h
  |some qq=>
   obtain ⟨pc',r'⟩:=qq
   intro tp v H4 s4 e4 hv
   rw[hc] at hst'
   cases hst'
   dsimp only[gName,List.set_cons_succ,List.set_cons_zero]
   refine s_no1 ((tE "[" 91 _ H4 rfl).eq (decide_eq_false (by decide))) fun H5 s5=>?_
   exact fin (.ref tp) H5 ((s13.trans s4).trans s5) (.inr ⟨tp,v,rfl,s5 _ _ e4,hv.same (dif_grow s13 s5)⟩) _ fun v' H' h=>h
 rw[if_neg h96] at hst'
 refine s_no1 ((tE "`" 96 _ H2 rfl).eq (decide_eq_false fun z=>h96 ((sg _).mp z))) fun H3 s3=>?_
 have s13:=s12.trans s3
 by_cases h91:x=91
 ·subst h91
  rw[if_pos rfl] at hst'
  refine s_yes ((tE "[" 91 _ H3 rfl).eq (decide_eq_true rfl)) fun H4 s4=>?_
  have s14:=s13.trans s4
  refine ⟨_,rfl,_,rfl,t,p,r0,rfl,hd,hl,ha,?_⟩
  cases hm:markC r0 with
  |some qq=>
   obtain ⟨pc',r'⟩:=qq
   intro tp v H5 s5 e5 hv
   rw[hm] at hst'
   cases hst'
   dsimp only[gName,List.set_cons_succ,List.set_cons_zero]
   refine ⟨_,rfl,rfl,_,rfl,ite2 (fun z=>nomatch of_decide_eq_true z) (fun _=>?_)⟩
   exact fin (.ref tp) H5 (s14.trans s5) (.inr ⟨tp,v,rfl,e5,hv.same (dif_grow s14 (Same.refl _))⟩) _ fun v' H' h=>h
  |none=>
   intro H5 s5
   rw[hm] at hst'
   have s15:=s14.trans s5
   dsimp only[gName,List.set_cons_succ,List.set_cons_zero]
   refine ⟨_,rfl,rfl,_,rfl,ite2 (fun _=>?_) (fun z=>absurd (decide_eq_true rfl) z)⟩
   have hcl:=hal.get hd
   refine ⟨_,rfl,_,rfl,_,rfl,_,rfl,cl,_,(p:Int), .int (toPos (p+1) (nxtC r0)),rfl,rfl,SqL.of (s15 _ _ ecl),atI_nat (by rw[List.getElem?_map,hcl];rfl),t,p,r0,rfl,hd,hl,ha,?_⟩
   cases hk2:linkC r0 with
   |none=>
    intro H6 s6
    rw[hk2] at hst'
    cases hst'
    dsimp only[gName,List.set_cons_succ,List.set_cons_zero]
    exact fin .non H6 (s15.trans s6) (.inl ⟨rfl,rfl,rfl⟩) _ fun v' H' h=>h
   |some qq=>
    obtain ⟨pc',r'⟩:=qq
    intro tp v H6 s6 e6 hv
    rw[hk2] at hst'
    cases hst'
    dsimp only[gName,List.set_cons_succ,List.set_cons_zero]
    exact fin (.ref tp) H6 (s15.trans s6) (.inr ⟨tp,v,rfl,e6,hv.same (dif_grow s15 (Same.refl _))⟩) _ fun v' H' h=>h
 ·rw[if_neg h91] at hst'
  cases hst'
  refine s_no1 ((tE "[" 91 _ H3 rfl).eq (decide_eq_false fun z=>h91 ((sg _).mp z))) fun H4 s4=>?_
  exact fin .non H4 (s13.trans s4) (.inl ⟨rfl,rfl,rfl⟩) _ fun v' H' h=>h
abbrev sPieces:Stmt:=top 24
theorem scPieces:FnScope ["text","closings","pieces","place","found"] ["text"] (defScope sPieces):=⟨rfl,rfl,rfl,by decide +kernel,rfl,by decide +kernel,by decide +kernel⟩
def spPieces (c:Cp):Sp:=fun vs H Q _=>∃ t:List Nat,vs=[vS t]/\t.length<=100000/\Asc t/\∀ r us H',Same H H'->H r=none->H' r=some (.lst us)->PcsAt c (dif H H') us (piecesC t)->Q (.ref r) H'
theorem ok_pieces {f:Addr} {fd:FuncData} (F:Fun K "pieces_of" "pieces_of" sPieces f fd) (T:TxI K mg c BT) (D_closings_of:Def P w K mg base 2 "closings_of" ["text"] spClosings)
  (D_piece_at:Def P w K mg base 4 "piece_at" ["text","place","closings"] (spPieceAt c)):FnOk P w K mg base CX0 5 f fd ["text"] (spPieces c):=by
 have sc:=scPieces
 refine F.ok sc (fun vs H Q E h=>?_) (fun cdv A outer s H vs Q E hr h=>?_)
 ·obtain ⟨t,rfl,_⟩:=h
  rfl
 obtain ⟨t,rfl,hl,ha,q⟩:=h
 refine of_XB (xbc (xset (i:=1) sc.nd rfl (Or.inl rfl) (xcD D_closings_of (hr.mono (by omega)) (xac (xv 0) xa0)))
  (xbc (xset (i:=2) sc.nd rfl (Or.inl rfl) (xlst xa0))
  (xbc (xset (i:=3) sc.nd rfl (Or.inl rfl) xint)
  (xbc (xwhile PassesOwn.never (xcmpT op_lt (xv 3) (xcB call_len_str T.n_len PySem.boot_len (xac (xv 0) xa0)) (nomark _))
  (xbc (xset (i:=4) sc.nd rfl (Or.inl rfl) (xcD D_piece_at (hr.mono (by omega)) (xac (xv 0) (xac (xv 3) (xac (xv 1) xa0)))))
  (xbc (xexpr (xm PySem.F.plainAttrs_list PySem.F.slot_list_append PySem.F.type_list_append mt_append (xv 2) (xac (xix ix_tup (xv 4) xint (fun _ _=>rfl)) xa0)))
  (xb1 (xset (i:=3) sc.nd rfl (Or.inl rfl) (xix ix_tup (xv 4) xint (fun _ _=>rfl)))))))
  (xb1 (xret (xv 2))))))) ?_
 have hs:sizeLine=16777216:=sizeLine_eq
 rw[show start ["text","closings","pieces","place","found"] [vS t]=[some (vS t),none,none,none,none] from rfl]
 refine ⟨_,rfl,t,rfl,hl,fun cl H1 s1 hcl e1=>?_⟩
 dsimp only[gName,List.set_cons_succ,List.set_cons_zero]
 refine ⟨big (show (0:Nat)<=1000000 by decide),fun l hl0=>?_⟩
 have hl00:H l=none:=s1.free hl0
 have s2:=s1.trans (same_new hl0 (.lst []))
 have e2:upd H1 l (.lst []) l=some (.lst []):=upd_same
 have ec2:=same_new hl0 (.lst []) _ _ e1
 have hne:cl≠l:=fun z=>by rw[z,hl0] at e1;cases e1
 dsimp only[gName,List.set_cons_succ,List.set_cons_zero]
 generalize upd H1 l (.lst [])=H2 at s2 e2 ec2 ⊢
 show tSeq (tWhile _ _) _ _ [some (vS t),some (.ref cl),some (.ref l),some (.int ((0:Nat):Int)),none] H2
 refine s_join (fun σ' H'=>∃ us x4,σ'=[some (vS t),some (.ref cl),some (.ref l),some (.int (t.length:Nat)),x4]/\Same H H'/\H' l=some (.lst us)/\NewQ H [l] H' fun G=>PcsAt c G us (piecesC t)) (fun N hN=>?_) ?_
 ·refine while_t (fun m σ' H'=>∃ (p:Nat) (us:List V) (dn:List Pc) (x4:Option V),σ'=[some (vS t),some (.ref cl),some (.ref l),some (.int (p:Nat)),x4]/\Same H H'/\H' cl=some (.lst ((clGo 0 t).map V.int))/\H' l=some (.lst us)/\(NewQ H [l] H' fun G=>PcsAt c G us dn)/\p<=t.length/\m=t.length - p/\Al t p/\us.length<=p/\dn++piecesC (t.drop p)=piecesC t) t.length ⟨0,[],[],none,rfl,s2,ec2,e2,NewQ.triv trivial,Nat.zero_le _,rfl, .zero t,Nat.zero_le _,rfl⟩ ?_
  rintro m σ' H3 ⟨p,us,dn,x4,rfl,s3,ec3,e3,hn3,hp,rfl,hA,hul,hd⟩
  refine ⟨decide (p < t.length),fun R k=>⟨_,rfl,_,rfl,_,rfl,bigS (by omega),_,_,rfl,rfl,_,rfl,?_⟩,fun hc H4 s4=>?_,fun hc H4 s4=>?_⟩
  ·rw[S_len,show decide ((p:Int) < ((t.length:Nat):Int))=decide (p < t.length) by rw[decide_eq_decide];omega]
   exact k _ (Same.refl _)
  ·have hpl:p < t.length:=of_decide_eq_true hc
   obtain ⟨pc,r,hst⟩:=step_some (s:=t.drop p) (fun z=>by have:=congrArg List.length z;rw[List.length_drop,List.length_nil] at this;omega)
   obtain ⟨p',hp',hlt,hle,hdr,hA'⟩:=hA.step hpl hst
   have s34:=s3.trans s4
   have e4:=s4 _ _ e3
   refine ⟨_,rfl,_,rfl,_,rfl,t,p,cl,pc,r,rfl,s4 _ _ ec3,hpl,hl,ha,hA,hst,fun tp v H5 s5 e5 hv=>?_⟩
   rw[<- hp'] at e5
   dsimp only[gName,List.set_cons_succ,List.set_cons_zero]
   have e5l:=s5 _ _ e4
   refine ⟨_,rfl, .inl ⟨rfl,_,SqL.of e5l⟩,?_⟩
   refine ev_ixT (ev_v rfl) ev_c (SqT.of e5) (atI_nat (j:=0) rfl) _ ⟨l,_,_,rfl,rfl,e5l,by rw[hs];omega,?_⟩
   have htl:tp≠l:=fun z=>by rw[z,e5l] at e5;cases e5
   refine ev_ixT (ev_v rfl) ev_c (SqT.of ((upd_ne htl).trans e5)) (atI_nat (j:=1) rfl) _ ?_
   dsimp only[gName,List.set_cons_succ,List.set_cons_zero]
   refine ⟨t.length - p',by omega,p',us++[v],dn++[pc],_,rfl,same_grow hl00 (s34.trans s5),(upd_ne hne).trans (s5 _ _ (s4 _ _ ec3)),upd_same,?_,hle,rfl,hA',by rw[List.length_append,List.length_cons,List.length_nil];omega,?_⟩
   ·refine NewQ.upd ?_ List.mem_cons_self
    refine NewQ.join ((hn3.same s4).same s5) (NewQ.of (R:=fun G=>PcAt c G v pc) s34 (fun b hb=>by rw[List.mem_singleton.mp hb,e4];simp) hv) mo_Pcs mo_Pc fun G h1 h2=>h1.snoc h2
   ·rw[List.append_assoc,<- hd,pieces_step hst,hdr]
    rfl
  ·have hpl:p=t.length:=by have:=of_decide_eq_false hc;omega
   subst hpl
   rw[List.drop_length,pieces_nil,List.append_nil] at hd
   subst hd
   exact hN _ _ ⟨us,x4,rfl,s3.trans s4,s4 _ _ e3,hn3.same s4⟩
 ·rintro σ' H3 ⟨us,x4,rfl,s3,e3,hn3⟩
  exact ⟨_,rfl,q l us H3 s3 hl00 e3 (hn3.dif mo_Pcs)⟩
end
end K5
set_option Elab.async false
set_option linter.all false
set_option maxRecDepth 100000
set_option maxHeartbeats 2000000
namespace K5
open PySem L2 Lm Lw
section
variable {P:Program} {w:World} {K:PySem.W.Frag} {mg:Str->Option Value} {base:Heap} {c:Cp} {BT:Addr}
abbrev sMerged:Stmt:=top 33
theorem scMerged:FnScope ["pieces","parts","signs","piece"] ["pieces"] (defScope sMerged):=⟨rfl,rfl,rfl,by decide +kernel,rfl,by decide +kernel,by decide +kernel⟩
def spMerged (c:Cp):Sp:=fun vs H Q _=>∃ (G0:Hp) (W:List Addr) (l:Addr) (us:List V) (qs:List Qc),vs=[.ref l]/\Same G0 H/\(∀ b∈W,H b≠none)/\H l=some (.lst us)/\(NewQ G0 W H fun G=>QsAt c G us qs)/\QOk qs/\lenQ qs<=100000/\qs.length<=100000 ∧
 ∀ r as H',Same H H'->H r=none->H' r=some (.lst (as.map V.ref))->(NewQ G0 W H' fun G=>PCs c G as (mgGo [] qs))->Q (.ref r) H'
theorem ok_merged {f:Addr} {fd:FuncData} (F:Fun K "merged" "merged" sMerged f fd) (T:TxI K mg c BT) (D_Plain:New P w K mg base 1 "Plain" c.Plain ["self","signs"] (spInit1 c.Plain "signs")):FnOk P w K mg base CX0 3 f fd ["pieces"] (spMerged c):=by
 have sc:=scMerged
 refine F.ok sc (fun vs H Q E h=>?_) (fun cdv A outer s H vs Q E hr h=>?_)
 ·obtain ⟨G0,W,l,us,qs,rfl,_⟩:=h
  rfl
 obtain ⟨G0,W,l,us,qs,rfl,s0,hW,el,hin,hok,hlq,hql,q⟩:=h
 have hu:(A.deeper (PyProof.Rows.envOfC "merged" (defScope sMerged) s.heap.objs.size f cdv)).units+64 < cLine:=by
  have:=hr.un
  omega
 refine of_XB (xbc (xset (i:=1) sc.nd rfl (Or.inl rfl) (xlst xa0))
  (xbc (xset (i:=2) sc.nd rfl (Or.inl rfl) (xlst xa0))
  (xbc (xfor PassesOwn.never rfl (xil (xv 0)) (xgn (i:=3) sc.nd rfl (Or.inl rfl))
  (xbc (xif (xvalT (xcB call_isT T.n_isinstance rfl (xac (xv 3) (xac (xty (T := "str") T.n_str rfl) xa0)))) (xbc (xexpr (xm PySem.F.plainAttrs_list PySem.F.slot_list_append PySem.F.type_list_append mt_append (xv 2) (xac (xv 3) xa0)))
  (xb1 xcont)) xb0)
  (xbc (xif (xcmpT (op_ne0 hu) (xv 2) (xlst xa0) (nomark _)) (xbc (xexpr (xm PySem.F.plainAttrs_list PySem.F.slot_list_append PySem.F.type_list_append mt_append (xv 1) (xac (xnew D_Plain (hr.mono (by omega)) (xac (xm PySem.F.plainAttrs_str PySem.F.slot_str_join PySem.F.type_str_join mt_join xstr (xac (xv 2) xa0)) xa0)) xa0)))
  (xb1 (xset (i:=2) sc.nd rfl (Or.inl rfl) (xlst xa0)))) xb0)
  (xb1 (xexpr (xm PySem.F.plainAttrs_list PySem.F.slot_list_append PySem.F.type_list_append mt_append (xv 1) (xac (xv 3) xa0)))))))
  (xbc (xif (xcmpT (op_ne0 hu) (xv 2) (xlst xa0) (nomark _)) (xb1 (xexpr (xm PySem.F.plainAttrs_list PySem.F.slot_list_append PySem.F.type_list_append mt_append (xv 1) (xac (xnew D_Plain (hr.mono (by omega)) (xac (xm PySem.F.plainAttrs_str PySem.F.slot_str_join PySem.F.type_str_join mt_join xstr (xac (xv 2) xa0)) xa0)) xa0)))) xb0)
  (xb1 (xret (xv 1))))))) ?_
 have hs:sizeLine=16777216:=sizeLine_eq
 have hulen:us.length=qs.length:=let ⟨_,_,_,_,e⟩:=hin;e.len
 rw[show start ["pieces","parts","signs","piece"] [V.ref l]=[some (.ref l),none,none,none] from rfl]
 refine ⟨big (show (0:Nat)<=1000000 by decide),fun pr hpr=>?_⟩
 have s1:=same_new hpr (.lst [])
 have e1:upd H pr (.lst []) pr=some (.lst []):=upd_same
 dsimp only[gName,List.set_cons_succ,List.set_cons_zero]
 generalize upd H pr (.lst [])=H1 at s1 e1 ⊢
 refine ⟨big (show (0:Nat)<=1000000 by decide),fun sg0 hsg0=>?_⟩
 have s2:=s1.trans (same_new hsg0 (.lst []))
 have e2p:=same_new hsg0 (.lst []) _ _ e1
 have e2s:upd H1 sg0 (.lst []) sg0=some (.lst []):=upd_same
 have hsg00:H sg0=none:=s1.free hsg0
 have hne0:sg0≠pr:=fun z=>by rw[z,e1] at hsg0;cases hsg0
 dsimp only[gName,List.set_cons_succ,List.set_cons_zero]
 generalize upd H1 sg0 (.lst [])=H2 at s2 e2p e2s ⊢
 refine ⟨_,rfl,l,rfl,⟨_,SqL.of (s2 _ _ el)⟩,?_⟩
 have mk:∀ {H3:Hp} {sg:Addr} {sgs:List (List Nat)} {as:List Addr} {dn:List PC},Same H H3->H3 pr=some (.lst (as.map V.ref))->H3 sg=some (.lst (sgs.map vS))->sg≠pr->Asc sgs.flatten->sgs.flatten.length<=100000->sgs≠[]->as.length<=300000->(NewQ G0 (pr::sg::W) H3 fun G=>PCs c G as dn) →
   ∀ {y dx:Addr},H3 y=none->H3 dx=none->dx≠y->∀ H4,H4=upd (upd (upd H3 dx (.own y)) y (.ins c.Plain dx [])) y (.ins c.Plain dx [("signs",vS sgs.flatten)]) →
   Same H (upd H4 pr (.lst (as.map V.ref++[.ref y])))/\H4 pr=some (.lst (as.map V.ref))/\(upd H4 pr (.lst (as.map V.ref++[.ref y]))) pr=some (.lst ((as++[y]).map V.ref))/\(NewQ G0 (pr::sg::W) (upd H4 pr (.lst (as.map V.ref++[.ref y]))) fun G=>PCs c G (as++[y]) (dn++plainQ sgs)):=by
  intro H3 sg sgs as dn s3 ep es hne hasc hfl hne2 hal hn y dx hy hdx hyd H4 e4
  obtain ⟨m1,m2⟩:=made1 (H:=H3) (C:=c.Plain) (o := .ins c.Plain dx [("signs",vS sgs.flatten)]) (Same.refl H3) hy hdx
  rw[<- e4] at m1 m2
  refine ⟨same_grow hpr (s3.trans m1),m1 _ _ ep,by rw[upd_same,List.map_append];rfl,?_⟩
  refine NewQ.upd ?_ List.mem_cons_self
  refine NewQ.join (hn.same m1) (NewQ.of (H3:=H3) (R:=fun G=>PCAt c G y (.one (.plain (S sgs.flatten)))) (s0.trans s3) (fun b hb=>?_) ⟨strG_S hasc hfl,dx,m2⟩) mo_PCs mo_PC fun G h1 h2=>?_
  ·rcases List.mem_cons.mp hb with z |hb
   ·rw[z,ep];simp
   ·rcases List.mem_cons.mp hb with z |hb
    ·rw[z,es];simp
    ·intro z
     exact hW b hb (s3.free z)
  ·have:plainQ sgs=[.one (.plain (S sgs.flatten))]:=by
    unfold plainQ
    rw[if_neg (by simp[hne2])]
   rw[this]
   exact h1.snoc h2
 refine for_list (xs:=us) (fun i σ H'=>∃ (as:List Addr) (dn:List PC) (sg:Addr) (sgs:List (List Nat)) (x3:Option V),σ=[some (.ref l),some (.ref pr),some (.ref sg),x3]/\Same H H'/\H' pr=some (.lst (as.map V.ref))/\H' sg=some (.lst (sgs.map vS))/\H sg=none/\sg≠pr/\(NewQ G0 (pr::sg::W) H' fun G=>PCs c G as dn)/\as.length<=2 * i/\sgs.length<=i/\Asc sgs.flatten/\sgs.flatten.length+lenQ (qs.drop i)<=100000/\dn++mgGo sgs (qs.drop i)=mgGo [] qs)
  ⟨[],[],sg0,[],none,rfl,s2,e2p,e2s,hsg00,hne0,NewQ.triv trivial,Nat.zero_le _,Nat.zero_le _,(fun _ z=>nomatch z),by show 0+lenQ qs<=_;omega,rfl⟩ ?_ ?_ ?_
 ·rintro i σ H3 _ ⟨as,dn,sg,sgs,x3,_,s3,_⟩
  exact SqL.of (s3 _ _ el)
 ·rintro i x σ H3 hx ⟨as,dn,sg,sgs,x3,rfl,s3,ep,es,hsg,hne,hn,hal,hsl,hasc,hfl,hrun⟩
  obtain ⟨hil,_⟩:=List.getElem?_eq_some_iff.mp hx
  obtain ⟨qc,hqc⟩:∃ qc,qs[i]? = some qc:=⟨_,List.getElem?_eq_getElem (by omega)⟩
  have hqi:=(List.getElem?_eq_some_iff.mp hqc)
  have hin3:NewQ G0 (pr::sg::W) H3 fun G=>QAt c G x qc:=(((hin.wide hsg).wide hpr).same s3).map fun G h=>by
   obtain ⟨q',h1,h2⟩:=h.get hx
   rw[hqc] at h1
   cases h1
   exact h2
  have hqd:qs.drop i=qc::qs.drop (i+1):=by rw[List.drop_eq_getElem_cons hqi.1,hqi.2]
  have hqd2:=lenQ_drop hqc
  rw[hqd] at hrun
  dsimp only[gName,List.set_cons_succ,List.set_cons_zero]
  cases qc with
  |txt y=>
   obtain ⟨_,_,_,_,hxy⟩:=hin3
   have hxy:x=vS y:=hxy
   subst hxy
   have hy:=hok y (List.mem_of_getElem? hqc)
   have hqd2:lenQ (qs.drop i)=(y.length+0)+lenQ (qs.drop (i+1)):=hqd2
   refine s_yes (fun R k=>⟨_,rfl,_,_,_,_,rfl, .str _,kit_same _ _,_,rfl,k _ (Same.refl _)⟩) fun H4 s4=>?_
   have es4:=s4 _ _ es
   refine ⟨_,rfl, .inl ⟨rfl,_,SqL.of es4⟩,_,rfl,sg,_,_,rfl,rfl,es4,by rw[List.length_map,hs];omega,?_⟩
   refine ⟨as,dn,sg,sgs++[y],_,rfl,same_grow hsg (s3.trans s4),(upd_ne (Ne.symm hne)).trans (s4 _ _ ep),by rw[upd_same,List.map_append];rfl,hsg,hne,((hn.same s4).upd (List.mem_cons_of_mem _ List.mem_cons_self)),by omega,by rw[List.length_append,List.length_cons,List.length_nil];omega,?_,?_,hrun⟩
   ·rw[List.flatten_append]
    exact asc_app hasc (by show Asc (y++[]);rw[List.append_nil];exact hy.1)
   ·rw[List.flatten_append,List.length_append]
    show _+(y++[]).length+_<=_
    rw[List.append_nil]
    omega
  |part p=>
   obtain ⟨a,hxa⟩:∃ a,x = .ref a:=let ⟨_,_,_,_,h⟩:=hin3;⟨h.choose,h.choose_spec.1⟩
   subst hxa
   have hin3:NewQ G0 (pr::sg::W) H3 fun G=>PCAt c G a p:=hin3.map fun G h=>by
    obtain ⟨a',e,h⟩:=h
    cases e
    exact h
   have hqd2:lenQ (qs.drop i)=0+lenQ (qs.drop (i+1)):=hqd2
   have hpa:PCAt c H3 a p:=let ⟨_,sG,_,_,h⟩:=hin3;h.same sG
   obtain ⟨ty,hty,hkt⟩:=T.noStr hpa
   refine s_no1 (fun R k=>⟨_,rfl,_,_,_,_,rfl,hty,hkt,_,rfl,k _ (Same.refl _)⟩) fun H4 s4=>?_
   have s34:=s3.trans s4
   refine s_join (fun σ' H'=>∃ (as':List Addr) (dn':List PC) (sg':Addr),σ'=[some (.ref l),some (.ref pr),some (.ref sg'),some (.ref a)]/\Same H H'/\H' pr=some (.lst (as'.map V.ref))/\H' sg'=some (.lst [])/\H sg'=none/\sg'≠pr/\(NewQ G0 (pr::sg'::W) H' fun G=>PCs c G as' dn')/\as'.length<=2 * i+1/\dn'++p::mgGo [] (qs.drop (i+1))=mgGo [] qs) (fun N hN=>?_) ?_
   ·have tN:=t_ne0 (K:=K) (σ:=[some (.ref l),some (.ref pr),some (.ref sg),some (.ref a)]) (ta:=tVar 2) (ev_v rfl) (SqL.of (s4 _ _ es))
    refine s_if _ tN (fun H5 s5 hc=>?_) (fun H5 s5 hc=>?_)
    ·have hz:sgs≠[]:=fun z=>by rw[z] at hc;cases hc
     have s35:=s34.trans s5
     have ep5:=s5 _ _ (s4 _ _ ep)
     have es5:=s5 _ _ (s4 _ _ es)
     refine ⟨_,rfl, .inl ⟨rfl,_,SqL.of ep5⟩,rfl,_,rfl,S [],sg,sgs.map S,rfl,rfl,SqL.of (by rw[es5,List.map_map];rfl),fit_join sgs (by omega),?_⟩
     rw[joinT_S,glue_flat]
     intro y dx hy hdx hyd
     obtain ⟨k1,k2,k3,k4⟩:=mk s35 ep5 es5 hne hasc (by omega) hz (by omega) ((hn.same s4).same s5) hy hdx hyd _ rfl
     refine ⟨y,dx,_,rfl,upd_same,rfl,pr,_,_,rfl,rfl,k2,by rw[List.length_map,hs];omega,?_⟩
     refine ⟨big (show (0:Nat)<=1000000 by decide),fun sg2 hsg2=>?_⟩
     dsimp only[gName,List.set_cons_succ,List.set_cons_zero]
     have hsgH:H sg2=none:=k1.free hsg2
     have hne3:sg2≠pr:=fun z=>by rw[z,k3] at hsg2;cases hsg2
     refine hN _ _ ⟨as++[y],dn++plainQ sgs,sg2,rfl,k1.trans (same_new hsg2 _),same_new hsg2 _ _ _ k3,upd_same,hsgH,hne3,?_,by rw[List.length_append,List.length_cons,List.length_nil];omega,by rw[List.append_assoc];exact hrun⟩
     exact (((k4.less (W':=pr::W) fun b hb=>by
      rcases List.mem_cons.mp hb with z |z
      ·rw[z];exact List.mem_cons_self
      ·exact List.mem_cons_of_mem _ (List.mem_cons_of_mem _ z)).wide hsg2).less fun b hb=>by
      rcases List.mem_cons.mp hb with z |z
      ·rw[z];exact List.mem_cons_of_mem _ List.mem_cons_self
      ·rcases List.mem_cons.mp z with z |z
       ·rw[z];exact List.mem_cons_self
       ·exact List.mem_cons_of_mem _ (List.mem_cons_of_mem _ z)).same (same_new hsg2 _)
    ·have hz:sgs=[]:=by
      cases sgs with
      |nil=>rfl
      |cons _ _=>cases hc
     subst hz
     exact hN _ _ ⟨as,dn,sg,rfl,s34.trans s5,s5 _ _ (s4 _ _ ep),s5 _ _ (s4 _ _ es),hsg,hne,(hn.same s4).same s5,by omega,hrun⟩
   ·rintro σ' H5 ⟨as',dn',sg',rfl,s5,ep5,es5,hsg',hne',hn5,hal',hrun'⟩
    refine ⟨_,rfl, .inl ⟨rfl,_,SqL.of ep5⟩,_,rfl,pr,_,_,rfl,rfl,ep5,by rw[List.length_map,hs];omega,?_⟩
    refine ⟨as'++[a],dn'++[p],sg',[],_,rfl,same_grow hpr s5,by rw[upd_same,List.map_append];rfl,(upd_ne hne').trans es5,hsg',hne',?_,by rw[List.length_append,List.length_cons,List.length_nil];omega,Nat.zero_le _,(fun _ z=>nomatch z),by show 0+_<=_;omega,by rw[List.append_assoc];exact hrun'⟩
    refine NewQ.upd ?_ List.mem_cons_self
    have hin5:NewQ G0 (pr::sg'::W) H5 fun G=>PCAt c G a p:=(((hin.wide hsg').wide hpr).same s5).map fun G h=>by
     obtain ⟨q',h1,h2⟩:=h.get hx
     rw[hqc] at h1
     cases h1
     obtain ⟨a',e,h2⟩:=h2
     cases e
     exact h2
    exact NewQ.join hn5 hin5 mo_PCs mo_PC fun G h1 h2=>h1.snoc h2
 ·rintro σ H3 ⟨as,dn,sg,sgs,x3,rfl,s3,ep,es,hsg,hne,hn,hal,hsl,hasc,hfl,hrun⟩
  rw[hulen,List.drop_length] at hrun hfl
  have fin:∀ {as':List Addr} {H5:Hp},Same H H5->H5 pr=some (.lst (as'.map V.ref))->(NewQ G0 (pr::sg::W) H5 fun G=>PCs c G as' (mgGo [] qs))->Q (.ref pr) H5:=fun s5 ep5 hn5=>q pr _ _ s5 hpr ep5 (hn5.less fun b hb=>List.mem_cons_of_mem _ (List.mem_cons_of_mem _ hb))
  have tN:=t_ne0 (K:=K) (σ:=[some (.ref l),some (.ref pr),some (.ref sg),x3]) (ta:=tVar 2) (ev_v rfl) (SqL.of es)
  refine s_if _ tN (fun H5 s5 hc=>?_) (fun H5 s5 hc=>?_)
  ·have hz:sgs≠[]:=fun z=>by rw[z] at hc;cases hc
   have s35:=s3.trans s5
   have ep5:=s5 _ _ ep
   have es5:=s5 _ _ es
   refine ⟨_,rfl, .inl ⟨rfl,_,SqL.of ep5⟩,rfl,_,rfl,S [],sg,sgs.map S,rfl,rfl,SqL.of (by rw[es5,List.map_map];rfl),fit_join sgs (by omega),?_⟩
   rw[joinT_S,glue_flat]
   intro y dx hy hdx hyd
   obtain ⟨k1,k2,k3,k4⟩:=mk s35 ep5 es5 hne hasc (by omega) hz (by omega) (hn.same s5) hy hdx hyd _ rfl
   refine ⟨y,dx,_,rfl,upd_same,rfl,pr,_,_,rfl,rfl,k2,by rw[List.length_map,hs];omega,?_⟩
   refine ⟨_,rfl,fin k1 k3 (k4.map fun G h=>?_)⟩
   rw[<- hrun]
   exact h
  ·have hz:sgs=[]:=by
    cases sgs with
    |nil=>rfl
    |cons _ _=>cases hc
   subst hz
   refine ⟨_,rfl,fin (s3.trans s5) (s5 _ _ ep) ((hn.same s5).map fun G h=>?_)⟩
   rw[<- hrun]
   show PCs c G as (dn++[])
   rw[List.append_nil]
   exact h
end
end K5
set_option Elab.async false
set_option linter.all false
set_option maxRecDepth 100000
set_option maxHeartbeats 2000000
namespace K5
open PySem L2 Lm Lw
section
variable {P:Program} {w:World} {K:PySem.W.Frag} {mg:Str->Option Value} {base:Heap} {c:Cp} {BT:Addr}
abbrev sStrongs:Stmt:=top 32
theorem scStrongs:FnScope ["pieces","outer","inner","begun","piece"] ["pieces"] (defScope sStrongs):=⟨rfl,rfl,rfl,by decide +kernel,rfl,by decide +kernel,by decide +kernel⟩
def spStrongs (c:Cp):Sp:=fun vs H Q _=>∃ (G0:Hp) (l:Addr) (us:List V) (ps:List Pc),vs=[.ref l]/\Same G0 H/\H l=some (.lst us)/\PcsAt c (dif G0 H) us ps/\PcOk ps/\ps.length<=100000 ∧
 ∀ r ws H',Same H H'->H r=none->H' r=some (.lst ws)->QsAt c (dif G0 H') ws (wsGo none ps)->Q (.ref r) H'
theorem ok_strongs {f:Addr} {fd:FuncData} (F:Fun K "with_strong" "with_strong" sStrongs f fd) (T:TxI K mg c BT) (D_Strong:New P w K mg base 1 "Strong" c.Strong ["self","parts"] (spInitS c.Strong)) (D_merged:Def P w K mg base 3 "merged" ["pieces"] (spMerged c)):FnOk P w K mg base CX0 4 f fd ["pieces"] (spStrongs c):=by
 have sc:=scStrongs
 refine F.ok sc (fun vs H Q E h=>?_) (fun cdv A outer s H vs Q E hr h=>?_)
 ·obtain ⟨G0,l,us,ps,rfl,_⟩:=h
  rfl
 obtain ⟨G0,l,us,ps,rfl,s0,el,hin,hok,hpl,q⟩:=h
 have hu:(A.deeper (PyProof.Rows.envOfC "with_strong" (defScope sStrongs) s.heap.objs.size f cdv)).units+64 < cLine:=by
  have:=hr.un
  omega
 refine of_XB (xbc (xset (i:=1) sc.nd rfl (Or.inl rfl) (xlst xa0))
  (xbc (xset (i:=2) sc.nd rfl (Or.inl rfl) (xlst xa0))
  (xbc (xset (i:=3) sc.nd rfl (Or.inl rfl) xbl)
  (xbc (xfor PassesOwn.never rfl (xil (xv 0)) (xgn (i:=4) sc.nd rfl (Or.inl rfl))
  (xb1 (xif (xand (xcmpT op_notN (xv 4) xnon (nomark _)) (xand1 (xvalT (xv 3)))).xt (xb1 (xexpr (xm PySem.F.plainAttrs_list PySem.F.slot_list_append PySem.F.type_list_append mt_append (xv 2) (xac (xv 4) xa0)))) (xb1 (xif (xcmpT op_notN (xv 4) xnon (nomark _)) (xb1 (xexpr (xm PySem.F.plainAttrs_list PySem.F.slot_list_append PySem.F.type_list_append mt_append (xv 1) (xac (xv 4) xa0)))) (xb1 (xif (xnotT (xvalT (xv 3))) (xb1 (xset (i := 3) sc.nd rfl (Or.inl rfl) xbl)) (xbc (xexpr (xm PySem.F.plainAttrs_list PySem.F.slot_list_append PySem.F.type_list_append mt_append (xv 1) (xac (xifE (xcmpT (op_eq0 hu) (xv 2) (xlst xa0) (nomark _)) xstr (xnew D_Strong (hr.mono (by omega)) (xac (xcD D_merged (hr.mono (by omega)) (xac (xv 2) xa0)) xa0))) xa0)))
  (xbc (xset (i:=2) sc.nd rfl (Or.inl rfl) (xlst xa0))
  (xb1 (xset (i:=3) sc.nd rfl (Or.inl rfl) xbl)))))))))))
  (xbc (xif (xvalT (xv 3)) (xb1 (xexpr (xm PySem.F.plainAttrs_list PySem.F.slot_list_append PySem.F.type_list_append mt_append (xv 1) (xac xstr xa0)))) xb0)
  (xb1 (xret (xop op_cat (xv 1) (xv 2))))))))) ?_
 have hs:sizeLine=16777216:=sizeLine_eq
 have hulen:us.length=ps.length:=hin.len
 rw[show start ["pieces","outer","inner","begun","piece"] [V.ref l]=[some (.ref l),none,none,none,none] from rfl]
 refine ⟨big (show (0:Nat)<=1000000 by decide),fun ou hou=>?_⟩
 have s1:=same_new hou (.lst [])
 have e1:upd H ou (.lst []) ou=some (.lst []):=upd_same
 dsimp only[gName,List.set_cons_succ,List.set_cons_zero]
 generalize upd H ou (.lst [])=H1 at s1 e1 ⊢
 refine ⟨big (show (0:Nat)<=1000000 by decide),fun in0 hin0=>?_⟩
 have s2:=s1.trans (same_new hin0 (.lst []))
 have e2o:=same_new hin0 (.lst []) _ _ e1
 have e2i:upd H1 in0 (.lst []) in0=some (.lst []):=upd_same
 have hin00:H in0=none:=s1.free hin0
 have hne0:in0≠ou:=fun z=>by rw[z,e1] at hin0;cases hin0
 dsimp only[gName,List.set_cons_succ,List.set_cons_zero]
 generalize upd H1 in0 (.lst [])=H2 at s2 e2o e2i ⊢
 refine ⟨_,rfl,l,rfl,⟨_,SqL.of (s2 _ _ el)⟩,?_⟩
 refine for_list (xs:=us) (fun i σ H'=>∃ (ws ys:List V) (dn iq:List Qc) (nn:Addr) (bg:Bool) (x4:Option V),σ=[some (.ref l),some (.ref ou),some (.ref nn),some (.bl bg),x4]/\Same H H'/\H' ou=some (.lst ws)/\H' nn=some (.lst ys)/\H nn=none/\nn≠ou/\(NewQ G0 [ou,nn] H' fun G=>QsAt c G ws dn/\QsAt c G ys iq)/\ws.length<=i/\ys.length<=i/\lenQ iq<=i/\QOk iq/\OneQ iq/\(bg=false->iq=[])/\dn++wsGo (if bg then some iq else none) (ps.drop i)=wsGo none ps)
  ⟨[],[],[],[],in0,false,none,rfl,s2,e2o,e2i,hin00,hne0,NewQ.triv ⟨trivial,trivial⟩,Nat.zero_le _,Nat.zero_le _,Nat.zero_le _,QOk.nil,(fun _ z=>nomatch z),fun _=>rfl,rfl⟩ ?_ ?_ ?_
 ·rintro i σ H3 _ ⟨ws,ys,dn,iq,nn,bg,x4,_,s3,_⟩
  exact SqL.of (s3 _ _ el)
 ·rintro i x σ H3 hx ⟨ws,ys,dn,iq,nn,bg,x4,rfl,s3,eo,en,hnn,hne,hn,hwl,hyl,hiq,hqo,hone,hbg,hrun⟩
  obtain ⟨hil,_⟩:=List.getElem?_eq_some_iff.mp hx
  obtain ⟨pc,hpc⟩:∃ pc,ps[i]? = some pc:=⟨_,List.getElem?_eq_getElem (by omega)⟩
  have hpi:=(List.getElem?_eq_some_iff.mp hpc)
  have hpa:PcAt c (dif G0 H) x pc:=by
   obtain ⟨p',h1,h2⟩:=hin.get hx
   rw[hpc] at h1
   cases h1
   exact h2
  have hpd:ps.drop i=pc::ps.drop (i+1):=by rw[List.drop_eq_getElem_cons hpi.1,hpi.2]
  rw[hpd] at hrun
  dsimp only[gName,List.set_cons_succ,List.set_cons_zero]
  by_cases hstar:pc = .star
  ·subst hstar
   have hxn:x = .non:=hpa
   subst hxn
   have tN:∀ H',Tells (tTest (tOp (fun x y H Q=>y = .non/\Q (.bl (!decide (x = .non))) H) (tVar 4) (tC .non))) [some (.ref l),some (.ref ou),some (.ref nn),some (.bl bg),some V.non] H' false:=fun H' R k=>⟨_,rfl,rfl,_,rfl,by rw[show (!decide (V.non=V.non))=false from rfl];exact k H' (Same.refl _)⟩
   refine s_if false (t_and false false (tN H3) fun z=>Bool.noConfusion z) (fun _ _ z=>Bool.noConfusion z) fun H4 s4 _=>?_
   refine s_if false (tN H4) (fun _ _ z=>Bool.noConfusion z) fun H5 s5 _=>?_
   have s35:=(s3.trans s4).trans s5
   have eo5:=s5 _ _ (s4 _ _ eo)
   have en5:=s5 _ _ (s4 _ _ en)
   have hn5:=(hn.same s4).same s5
   cases bg with
   |false=>
    have hz:=hbg rfl
    subst hz
    have hyz:ys=[]:=by
     obtain ⟨_,_,_,_,_,h⟩:=hn
     exact List.eq_nil_of_length_eq_zero h.len
    subst hyz
    refine s_if true (t_not false (t_bv (ev_v rfl))) (fun H6 s6 _=>?_) fun _ _ z=>Bool.noConfusion z
    exact ⟨ws,[],dn,[],nn,true,_,rfl,s35.trans s6,s6 _ _ eo5,s6 _ _ en5,hnn,hne,hn5.same s6,by omega,Nat.zero_le _,Nat.zero_le _,QOk.nil,hone,fun z=>Bool.noConfusion z,hrun⟩
   |true=>
    refine s_if false (t_not true (t_bv (ev_v rfl))) (fun _ _ z=>Bool.noConfusion z) fun H6 s6 _=>?_
    have s36:=s35.trans s6
    have eo6:=s6 _ _ eo5
    have en6:=s6 _ _ en5
    have hn6:=hn5.same s6
    have hylen:ys.length=iq.length:=let ⟨_,_,_,_,_,h⟩:=hn;h.len
    have rest:∀ {H7:Hp} {v:V},Same H H7->H7 ou=some (.lst ws)->H7 nn=some (.lst ys)->(NewQ G0 [ou,nn] H7 fun G=>QsAt c G ws dn)->(NewQ G0 [ou,nn] H7 fun G=>QAt c G v (strongQ iq))->∀ {in2:Addr},upd H7 ou (.lst (ws++[v])) in2=none →
      ∃ (ws' ys':List V) (dn' iq':List Qc) (nn':Addr) (bg':Bool) (x4':Option V),[some (V.ref l),some (V.ref ou),some (V.ref in2),some (V.bl false),some V.non]=[some (V.ref l),some (V.ref ou),some (V.ref nn'),some (V.bl bg'),x4']/\Same H (upd (upd H7 ou (.lst (ws++[v]))) in2 (.lst []))/\upd (upd H7 ou (.lst (ws++[v]))) in2 (.lst []) ou=some (.lst ws')/\upd (upd H7 ou (.lst (ws++[v]))) in2 (.lst []) nn'=some (.lst ys')/\H nn'=none/\nn'≠ou/\(NewQ G0 [ou,nn'] (upd (upd H7 ou (.lst (ws++[v]))) in2 (.lst [])) fun G=>QsAt c G ws' dn'/\QsAt c G ys' iq')/\ws'.length<=i+1/\ys'.length<=i+1/\lenQ iq'<=i+1/\QOk iq'/\OneQ iq'/\(bg'=false->iq'=[])/\dn'++wsGo (if bg' then some iq' else none) (ps.drop (i+1))=wsGo none ps:=by
     intro H7 v s7 eo7 en7 hd7 hv7 in2 hin2
     have s8:Same H (upd H7 ou (.lst (ws++[v]))):=same_grow hou s7
     have e8:upd H7 ou (.lst (ws++[v])) ou=some (.lst (ws++[v])):=upd_same
     have hne2:in2≠ou:=fun z=>by rw[z,e8] at hin2;cases hin2
     refine ⟨ws++[v],[],dn++[strongQ iq],[],in2,false,_,rfl,s8.trans (same_new hin2 _),same_new hin2 _ _ _ e8,upd_same,s8.free hin2,hne2,?_,by rw[List.length_append,List.length_cons,List.length_nil];omega,Nat.zero_le _,Nat.zero_le _,QOk.nil,(fun _ z=>nomatch z),fun _=>rfl,by rw[List.append_assoc];exact hrun⟩
     have j:NewQ G0 [ou,nn] (upd H7 ou (.lst (ws++[v]))) fun G=>QsAt c G (ws++[v]) (dn++[strongQ iq])/\QsAt c G [] []:=NewQ.upd (NewQ.join hd7 hv7 mo_Qs mo_Q fun G h1 h2=>⟨h1.snoc h2,trivial⟩) List.mem_cons_self
     exact (((j.less (W':=[ou]) fun b hb=>by rw[List.mem_singleton.mp hb];exact List.mem_cons_self).wide hin2).less fun b hb=>by
      rcases List.mem_cons.mp hb with z |z
      ·rw[z];exact List.mem_cons_of_mem _ List.mem_cons_self
      ·rw[List.mem_singleton.mp z];exact List.mem_cons_self).same (same_new hin2 _)
    refine ⟨_,rfl, .inl ⟨rfl,_,SqL.of eo6⟩,?_⟩
    refine t_eq0 (K:=K) (ta:=tVar 2) (ev_v rfl) (SqL.of en6) _ fun H7 s7=>?_
    have s37:=s36.trans s7
    have eo7:=s7 _ _ eo6
    have en7:=s7 _ _ en6
    have hn7:=hn6.same s7
    by_cases hyz:ys=[]
    ·subst hyz
     have hiz:iq=[]:=List.eq_nil_of_length_eq_zero hylen.symm
     refine ite2 (fun _=>?_) (fun z=>absurd rfl z)
     refine ⟨ou,_,_,rfl,rfl,eo7,by rw[hs];omega,big (show (0:Nat)<=1000000 by decide),fun in2 hin2=>?_⟩
     dsimp only[gName,List.set_cons_succ,List.set_cons_zero]
     refine rest s37 eo7 en7 (hn7.map fun G h=>h.1) (NewQ.triv ?_) hin2
     subst hiz
     rfl
    ·refine ite2 (fun z=>absurd (List.isEmpty_iff.mp z) hyz) (fun _=>?_)
     refine ⟨_,rfl,G0,[ou,nn],nn,ys,iq,rfl,s0.trans s37,fun b hb=>?_,en7,hn7.map fun G h=>h.2,hqo,by omega,by omega,fun r as H8 s8 hr0 er hPC=>?_⟩
     ·rcases List.mem_cons.mp hb with z |z
      ·rw[z,eo7];simp
      ·rw[List.mem_singleton.mp z,en7];simp
     intro y dx hy hdx hyd
     have s38:=s37.trans s8
     have hry:r≠y:=fun z=>by rw[z,hy] at er;cases er
     have hrd:r≠dx:=fun z=>by rw[z,hdx] at er;cases er
     refine ⟨y,dx,r,_,rfl,upd_same,by rw[upd_ne hry,upd_ne hrd];exact er,fun p hp=>⟨rfl,?_⟩⟩
     have hpy:p≠y:=fun z=>by rw[z,upd_same] at hp;cases hp
     have s9:Same H8 (upd (upd H8 dx (.own y)) y (.ins c.Strong dx [])):=same_grow hy (same_new hdx _)
     have hp8:H8 p=none:=s9.free hp
     generalize hH9:upd (upd (upd (upd H8 dx (.own y)) y (.ins c.Strong dx [])) p (.lst (as.map V.ref))) y (.ins c.Strong dx [("parts", .ref p)])=H9
     have s89:Same H8 H9:=by rw[<- hH9];exact same_grow hy (s9.trans (same_new hp _))
     have e9y:H9 y=some (.ins c.Strong dx [("parts", .ref p)]):=by rw[<- hH9];exact upd_same
     have e9p:H9 p=some (.lst (as.map V.ref)):=by rw[<- hH9,upd_ne hpy];exact upd_same
     refine ⟨ou,_,_,rfl,rfl,s89 _ _ (s8 _ _ eo7),by rw[hs];omega,big (show (0:Nat)<=1000000 by decide),fun in2 hin2=>?_⟩
     dsimp only[gName,List.set_cons_succ,List.set_cons_zero]
     refine rest (s38.trans s89) (s89 _ _ (s8 _ _ eo7)) (s89 _ _ (s8 _ _ en7)) (((hn7.same s8).same s89).map fun G h=>h.1) ?_ hin2
     refine NewQ.join (hPC.same s89) (NewQ.of (H3:=H8) (R:=fun G=>G y=some (.ins c.Strong dx [("parts", .ref p)])/\G p=some (.lst (as.map V.ref))) (s0.trans s38) (fun b hb z=>?_) ⟨by rw[dif_at hy];exact e9y,by rw[dif_at hp8];exact e9p⟩) mo_PCs (fun G G' s h=>⟨s _ _ h.1,s _ _ h.2⟩) fun G h1 h2=>?_
     ·rcases List.mem_cons.mp hb with z2 |z2
      ·rw[z2,s8 _ _ eo7] at z;cases z
      ·rw[List.mem_singleton.mp z2,s8 _ _ en7] at z;cases z
     ·have hiz:iq≠[]:=fun z=>hyz (List.eq_nil_of_length_eq_zero (by rw[hylen,z];rfl))
      have:strongQ iq = .part (.strong (ones (mgGo [] iq))):=by
       unfold strongQ
       rw[if_neg (by simp[hiz])]
      rw[this]
      exact ⟨y,rfl,dx,p,as,h2.1,h2.2,h1.ones (mg_ones iq [] hone)⟩
  ·have hxn:x ≠ .non:=by
    intro z
    subst z
    cases pc with
    |star=>exact hstar rfl
    |sign _=>exact nomatch hpa
    |code _=>obtain ⟨_,e,_⟩:=hpa;exact nomatch e
    |note _=>obtain ⟨_,e,_⟩:=hpa;exact nomatch e
    |link _ _=>obtain ⟨_,e,_⟩:=hpa;exact nomatch e
   have tN:∀ H',Tells (tTest (tOp (fun x y H Q=>y = .non/\Q (.bl (!decide (x = .non))) H) (tVar 4) (tC .non))) [some (.ref l),some (.ref ou),some (.ref nn),some (.bl bg),some x] H' true:=fun H' R k=>⟨_,rfl,rfl,_,rfl,by rw[decide_eq_false hxn];exact k H' (Same.refl _)⟩
   have hq3 : ∀ {H' : Hp}, Same H H' -> NewQ G0 [ou, nn] H' fun G => QAt c G x (toQ pc) := fun s' => (NewQ.old (H3 := H) (R := fun G => PcAt c G x pc) s' s0 (fun b hb=>by
    rcases List.mem_cons.mp hb with z |z
    ·rw[z];exact hou
    ·rw[List.mem_singleton.mp z];exact hnn) hpa).map fun G h=>h.toQ hstar
   cases bg with
   |true=>
    refine s_if true (t_and true true (tN H3) fun _ H4 s4=>t_bv (ev_v rfl)) (fun H4 s4 _=>?_) fun _ _ z=>Bool.noConfusion z
    have en4:=s4 _ _ en
    have s34:=s3.trans s4
    refine ⟨_,rfl, .inl ⟨rfl,_,SqL.of en4⟩,_,rfl,nn,_,_,rfl,rfl,en4,by rw[hs];omega,?_⟩
    have hrun:dn++wsGo (some iq) (pc::ps.drop (i+1))=wsGo none ps:=hrun
    rw[ws_some_one hstar] at hrun
    refine ⟨ws,ys++[x],dn,iq++[toQ pc],nn,true,_,rfl,same_grow hnn s34,(upd_ne (Ne.symm hne)).trans (s4 _ _ eo),upd_same,hnn,hne,?_,by omega,by rw[List.length_append,List.length_cons,List.length_nil];omega,?_,?_,hone.snoc pc,fun z=>Bool.noConfusion z,hrun⟩
    ·refine NewQ.upd ?_ (List.mem_cons_of_mem _ List.mem_cons_self)
     exact NewQ.join (hn.same s4) (hq3 s34) (fun G G' s h=>⟨h.1.same s,h.2.same s⟩) mo_Q fun G h1 h2=>⟨h1.1,h1.2.snoc h2⟩
    ·have:=lenQ_toQ pc
     rw[lenQ_app]
     omega
    ·exact hqo.app (QOk.cons (fun l z=>ok_toQ (fun y e=>by subst e;exact hok y (List.mem_of_getElem? hpc)) z) QOk.nil)
   |false=>
    refine s_if false (t_and true false (tN H3) fun _ H4 s4=>t_bv (ev_v rfl)) (fun _ _ z=>Bool.noConfusion z) fun H4 s4 _=>?_
    refine s_if true (tN H4) (fun H5 s5 _=>?_) fun _ _ z=>Bool.noConfusion z
    have s45:=s4.trans s5
    have eo5:=s45 _ _ eo
    have s35:=s3.trans s45
    refine ⟨_,rfl, .inl ⟨rfl,_,SqL.of eo5⟩,_,rfl,ou,_,_,rfl,rfl,eo5,by rw[hs];omega,?_⟩
    have hrun:dn++wsGo none (pc::ps.drop (i+1))=wsGo none ps:=hrun
    rw[ws_none_one hstar] at hrun
    refine ⟨ws++[x],ys,dn++[toQ pc],iq,nn,false,_,rfl,same_grow hou s35,upd_same,(upd_ne hne).trans (s45 _ _ en),hnn,hne,?_,by rw[List.length_append,List.length_cons,List.length_nil];omega,by omega,by omega,hqo,hone,hbg,by rw[List.append_assoc];exact hrun⟩
    refine NewQ.upd ?_ List.mem_cons_self
    exact NewQ.join (hn.same s45) (hq3 s35) (fun G G' s h=>⟨h.1.same s,h.2.same s⟩) mo_Q fun G h1 h2=>⟨h1.1.snoc h2,h1.2⟩
 ·rintro σ H3 ⟨ws,ys,dn,iq,nn,bg,x4,rfl,s3,eo,en,hnn,hne,hn,hwl,hyl,hiq,hqo,hone,hbg,hrun⟩
  rw[hulen,List.drop_length] at hrun
  have fin:∀ {ws':List V} {dn':List Qc} {H5:Hp},Same H H5->H5 ou=some (.lst ws')->H5 nn=some (.lst ys)->ws'.length<=us.length+1->(NewQ G0 [ou,nn] H5 fun G=>QsAt c G ws' dn'/\QsAt c G ys iq)->dn'++iq=wsGo none ps->∃ v,[some (V.ref l),some (V.ref ou),some (V.ref nn),some (V.bl bg),x4][1]? = some (some v)/\∃ v2,[some (V.ref l),some (V.ref ou),some (V.ref nn),some (V.bl bg),x4][2]? = some (some v2)/\rCat v v2 H5 Q:=fun {ws' dn' H5} s5 eo5 en5 hl5 hn5 e5=>
   ⟨_, rfl, _, rfl, ou, nn, _, _, rfl, rfl, eo5, en5, by rw [hs]; omega, fun r hr0 => q r _ _ (s5.trans (same_new hr0 _)) (s5.free hr0) upd_same (by
    have h:=(hn5.same (same_new hr0 (.lst (ws'++ys)))).dif (fun G G' s h=>⟨h.1.same s,h.2.same s⟩)
    rw[<- e5]
    exact h.1.app h.2)⟩
  cases bg with
  |true=>
   refine s_if true (t_bv (ev_v rfl)) (fun H5 s5 _=>?_) fun _ _ z=>Bool.noConfusion z
   have eo5:=s5 _ _ eo
   refine ⟨_,rfl, .inl ⟨rfl,_,SqL.of eo5⟩,ou,_,_,rfl,rfl,eo5,by rw[hs];omega,?_⟩
   refine fin (same_grow hou (s3.trans s5)) upd_same ((upd_ne hne).trans (s5 _ _ en)) (by rw[List.length_append,List.length_cons,List.length_nil];omega) (dn':=dn++[.txt [42]]) ?_ (by rw[List.append_assoc];exact hrun)
   refine NewQ.upd ?_ List.mem_cons_self
   exact NewQ.join (hn.same s5) (NewQ.triv (R:=fun G=>QAt c G (V.str "*") (.txt [42])) rfl) (fun G G' s h=>⟨h.1.same s,h.2.same s⟩) mo_Q fun G h1 h2=>⟨h1.1.snoc h2,h1.2⟩
  |false=>
   have hz:=hbg rfl
   refine s_if false (t_bv (ev_v rfl)) (fun _ _ z=>Bool.noConfusion z) fun H5 s5 _=>?_
   refine fin (s3.trans s5) (s5 _ _ eo) (s5 _ _ en) (by omega) (hn.same s5) ?_
   rw[hz]
   exact hrun
abbrev sPartsOf:Stmt:=top 23
theorem scPartsOf:FnScope ["text"] ["text"] (defScope sPartsOf):=⟨rfl,rfl,rfl,by decide +kernel,rfl,by decide +kernel,by decide +kernel⟩
def spPartsOf (c:Cp):Sp:=fun vs H Q _=>∃ t:List Nat,vs=[vS t]/\t.length<=100000/\Asc t/\∀ r as H',Same H H'->H r=none->H' r=some (.lst (as.map V.ref))->PCs c (dif H H') as (partsC t)->Q (.ref r) H'
theorem ok_partsOf {f:Addr} {fd:FuncData} (F:Fun K "parts_of" "parts_of" sPartsOf f fd) (T:TxI K mg c BT) (D_pieces_of:Def P w K mg base 5 "pieces_of" ["text"] (spPieces c)) (D_with_strong:Def P w K mg base 4 "with_strong" ["pieces"] (spStrongs c)) (D_merged:Def P w K mg base 3 "merged" ["pieces"] (spMerged c)):FnOk P w K mg base CX0 6 f fd ["text"] (spPartsOf c):=by
 have sc:=scPartsOf
 refine F.ok sc (fun vs H Q E h=>?_) (fun cdv A outer s H vs Q E hr h=>?_)
 ·obtain ⟨t,rfl,_⟩:=h
  rfl
 obtain ⟨t,rfl,hl,ha,q⟩:=h
 refine of_XB (xb1 (xret (xcD D_merged (hr.mono (by omega)) (xac (xcD D_with_strong (hr.mono (by omega)) (xac (xcD D_pieces_of (hr.mono (by omega)) (xac (xv 0) xa0)) xa0)) xa0)))) ?_
 have hp:=pieces_len _ t (Nat.le_refl _)
 have hok:=pieces_ok _ t (Nat.le_refl _) ha
 have hsz:=ws_size (piecesC t) none
 have h1:lenQ (wsGo none (piecesC t))<=(piecesC t).length+0:=hsz.1
 have h2:(wsGo none (piecesC t)).length<=(piecesC t).length+0:=hsz.2
 refine ⟨_,rfl,t,rfl,hl,ha,fun r1 us H1 s1 hr1 e1 k1=>?_⟩
 refine ⟨H,r1,us,piecesC t,rfl,s1,e1,k1,hok,by omega,fun r2 ws H2 s2 hr2 e2 k2=>?_⟩
 have s12:=s1.trans s2
 refine ⟨H,[],r2,ws,wsGo none (piecesC t),rfl,s12,(fun _ z=>nomatch z),e2,NewQ.of (H3:=H) (Same.refl _) (fun _ z=>nomatch z) k2,ws_ok _ none hok (fun _ e=>nomatch e),by omega,by omega,fun r as H3 s3 hr3 e3 k3=>?_⟩
 exact q r as H3 (s12.trans s3) (s12.free hr3) e3 (k3.dif mo_PCs)
end
end K5
set_option Elab.async false
set_option linter.all false
set_option maxRecDepth 100000
namespace L2
open PySem PySem.Spec PyProof.Rows
section
variable {X:Cx} {k:Nat} {scope:Scope} {cl:List (Str×Addr)} {C:Addr} {N':List Str} {fp:List Addr} {s:Shared} {H:Hp} {o e:Expr} {ta:TE} {t:TA} {m:Str} {apos pos:Pos} {es:List Expr}
theorem xmVC {pl:Sem Bool} (he:XE (compX X scope cl C N' fp s H) o ta) (hr:Room k X.A) (ha:XA (compX X scope cl C N' fp s H) (e::es) t) (hst:noStars (e::es)=true:=by rfl)
  (ht : eval (.Call (.Attribute o m apos) (e :: es) [] pos) (compX X scope cl C N' fp s H).env = (do
   let ov ← eval o (compX X scope cl C N' fp s H).env
   standAt apos.atName
   let (f,first) ← holding [ov] (getMethod ov m pl)
   callWith pos f first (backTo pos (starEach (e::es) (compX X scope cl C N' fp s H).env)) (backToKw pos (keywordEach [] (compX X scope cl C N' fp s H).env))):=by rfl):
  XE (compX X scope cl C N' fp s H) (.Call (.Attribute o m apos) (e::es) [] pos) (tMethV X k m ta t):=xmV (X:=compX X scope cl C N' fp s H) (pl:=pl) he hr ha hst ht
end
end L2
namespace Lw
open PySem L2 Lm
def said1 (f g:List Nat->List Nat):P1->List Nat
 | .plain s=>s.cps.toList
 | .code s=>[39]++s.cps.toList++[39]
 | .link w n=>w.cps.toList++[32,40]++f n.cps.toList++[41]
 | .note n=>[91]++g n.cps.toList++[93]
def saidC (f g:List Nat->List Nat):PC->List Nat
 | .one p=>said1 f g p
 | .strong ps=>[42]++(ps.map (said1 f g)).flatten++[42]
def Asc1:P1->Prop
 | .plain s=>Asc s.cps.toList
 | .code s=>Asc s.cps.toList
 | .link w n=>Asc w.cps.toList/\Asc n.cps.toList
 | .note n=>Asc n.cps.toList
def AscC:PC->Prop
 | .one p=>Asc1 p
 | .strong ps=>∀ p∈ps,Asc1 p
def SayOk (f:List Nat->List Nat):Prop:=∀ n,Asc n->Asc (f n)
theorem asc_said1 {f g:List Nat->List Nat} (hf:SayOk f) (hg:SayOk g):∀ {p:P1},Asc1 p->Asc (said1 f g p)
 | .plain _,h=>h
 | .code _,h=>asc_app (asc_app (by unfold Asc;decide) h) (by unfold Asc;decide)
 | .link _ _,h=>asc_app (asc_app (asc_app h.1 (by unfold Asc;decide)) (hf _ h.2)) (by unfold Asc;decide)
 | .note _,h=>asc_app (asc_app (by unfold Asc;decide) (hg _ h)) (by unfold Asc;decide)
theorem asc_flat {l:List (List Nat)} (h:∀ x∈l,Asc x):Asc l.flatten:=fun c hc=>by
 obtain ⟨x,hx,hcx⟩:=List.mem_flatten.mp hc
 exact h x hx c hcx
theorem asc_saidC {f g:List Nat->List Nat} (hf:SayOk f) (hg:SayOk g):∀ {p:PC},AscC p->Asc (saidC f g p)
 | .one _,h=>asc_said1 hf hg h
 | .strong _, h => asc_app (asc_app (by unfold Asc; decide) (asc_flat fun x hx=>by
   obtain ⟨p,hp,rfl⟩:=List.mem_map.mp hx
   exact asc_said1 hf hg (h p hp))) (by unfold Asc;decide)
def spSay (f:List Nat->List Nat):Sp:=fun vs H Q _=>∃ n:List Nat,vs=[vS n]/\n.length<=100000/\∀ H',Same H H'->Q (vS (f n)) H'
def spSaid (c:Cp) (gl gn:Addr) (f g:List Nat->List Nat) (R:PC->Prop):Sp:=fun vs H Q _=>∃ a p,vs=[.ref a, .ref gl, .ref gn]/\PCAt c H a p/\R p/\AscC p/\(saidC f g p).length<=100000/\∀ H',Same H H'->Q (vS (saidC f g p)) H'
def spSaids (c:Cp) (gl gn:Addr) (f g:List Nat->List Nat) (R:PC->Prop):Sp:=fun vs H Q _=>∃ (l:Addr) (as:List Addr) (ps:List PC),vs=[.ref l, .ref gl, .ref gn]/\H l=some (.lst (as.map V.ref))/\PCs c H as ps/\(∀ p∈ps,R p/\AscC p)/\as.length<=100000/\((ps.map (saidC f g)).flatten).length<=100000/\∀ H',Same H H'->Q (vS ((ps.map (saidC f g)).flatten)) H'
def SaidV (P:Program) (w:World) (K:PySem.W.Frag) (mg:Str->Option Value) (base:Heap) (k:Nat) (c:Cp) (gl gn:Addr) (f g:List Nat->List Nat) (R:PC->Prop):Prop:=
 ∀ p,R p->AscC p->(saidC f g p).length<=100000->∀ H a,PCAt c H a p->∃ C dx fs sp,H a=some (.ins C dx fs)/\fs.lookup ("said":Str)=none/\MethV P w K mg base k C "said" ["self","link","note"] sp/\∀ Q E,(∀ H',Same H H'->Q (vS (saidC f g p)) H')->sp [.ref a, .ref gl, .ref gn] H Q E
theorem flat_le {l:List (List Nat)} {x:List Nat} (h:x∈l):x.length<=l.flatten.length:=by
 induction l with
 |nil=>cases h
 |cons y l ih=>
  rw[List.flatten_cons,List.length_append]
  rcases List.mem_cons.mp h with z |z
  ·rw[z];omega
  ·have:=ih z;omega
theorem dn_strs {H:Hp}:∀ {vs:List V} {ls:List (List Nat)},DnAll H vs (ls.map fun l=>PyData.str (S l))->vs=ls.map vS
 |_,[], .nil=>rfl
 |_,l::ls, .cons (.str _ _ _) r=>by rw[dn_strs r];rfl
theorem range_get {α β:Type} (ps:List α) (d:α) (f:α->β):(List.range ps.length).map (fun i=>f (ps.getD i d))=ps.map f:=by
 apply List.ext_getElem?
 intro i
 rw[List.getElem?_map,List.getElem?_map]
 by_cases hi:i < ps.length
 ·rw[List.getElem?_range hi,List.getElem?_eq_getElem hi]
  simp only[Option.map_some,List.getD_eq_getElem?_getD,List.getElem?_eq_getElem hi,Option.getD_some]
 ·rw[List.getElem?_eq_none (by rw[List.length_range];omega),List.getElem?_eq_none (by omega)]
  rfl
end Lw
set_option Elab.async false
set_option linter.all false
set_option maxRecDepth 100000
namespace L2
open PySem PySem.Spec PyProof.Rows
section
variable {X:Cx}
def rEqW (K:PySem.W.Frag) (k:Bool):R2:=fun x y H Q=>∃ d,Den K H x d/\Den K H y d/\d.depth<=64/\Q (.bl k) H
theorem shapedW {K:PySem.W.Frag} {H:Hp} {x:V} {d:PyData} (dx:Den K H x d) (hd:d.depth<=64):SeqAt.shaped d=true:=by
 unfold SeqAt.shaped
 rw[dx.lay,Bool.true_and]
 exact decide_eq_true hd
theorem op_eqW (hu:X.A.units+64 < cLine):OpR X (compareOp .Eq) (rEqW X.K true):=by
 intro pins s σ H x y v u Q I rx ry h
 obtain ⟨d,dx,dy,hd,q⟩:=h
 obtain ⟨as,ra⟩:=dx.reads I rx
 obtain ⟨bs,rb⟩:=dy.reads I ry
 refine eq_dataH ra rb (shapedW dx hd) (shapedW dy hd) hu ?_
 rw[eqv_refl d dx.lay]
 exact ⟨.bl true,H,I,rfl,q⟩
theorem op_neW (hu:X.A.units+64 < cLine):OpR X (compareOp .NotEq) (rEqW X.K false):=by
 intro pins s σ H x y v u Q I rx ry h
 obtain ⟨d,dx,dy,hd,q⟩:=h
 obtain ⟨as,ra⟩:=dx.reads I rx
 obtain ⟨bs,rb⟩:=dy.reads I ry
 refine ne_dataH ra rb (shapedW dx hd) (shapedW dy hd) hu ?_
 rw[eqv_refl d dx.lay]
 exact ⟨.bl false,H,I,rfl,q⟩
end
end L2
namespace Lw
open PySem L2 Lm
theorem depthAll_le {n:Nat}:∀ {ds:List PyData},(∀ d∈ds,d.depth<=n)->PyData.depthAll ds<=n
 | [],_=>by unfold PyData.depthAll;omega
 |d::ds,h=>by
  have h1:=h d List.mem_cons_self
  have h2:=depthAll_le fun x hx=>h x (List.mem_cons_of_mem _ hx)
  unfold PyData.depthAll
  omega
theorem depth_list {n:Nat} {ds:List PyData} (h:∀ d∈ds,d.depth<=n):(PyData.list ds).depth<=n+1:=by
 have:=depthAll_le h
 unfold PyData.depth
 omega
theorem depth_tup {n:Nat} {ds:List PyData} (h:∀ d∈ds,d.depth<=n):(PyData.tuple ds).depth<=n+1:=by
 have:=depthAll_le h
 unfold PyData.depth
 omega
theorem depth_str (x:Str):(PyData.str x).depth=0:=by unfold PyData.depth;rfl
theorem d1_depth (p:P1):(d1 p).depth<=1:=by
 cases p <;> (refine depth_tup fun d hd=>?_) <;> simp only[List.mem_cons,List.not_mem_nil,or_false] at hd <;> (rcases hd with rfl |rfl |rfl) <;> (rw[depth_str];exact Nat.le_refl 0)
theorem dP_depth (p:PC):(dP p).depth<=3:=by
 cases p with
 |one p=>exact Nat.le_trans (d1_depth p) (by decide)
 |strong ps=>
  refine depth_tup fun d hd=>?_
  simp only[List.mem_cons,List.not_mem_nil,or_false] at hd
  rcases hd with rfl |rfl
  ·rw[depth_str];decide
  ·refine depth_list fun d hd=>?_
   obtain ⟨p,_,rfl⟩:=List.mem_map.mp hd
   exact d1_depth p
end Lw
set_option Elab.async false
set_option linter.all false
set_option maxRecDepth 100000
namespace Lw
open PySem L2 Lm
def atP:PC->List Atm
 | .one (.plain s)=>s.cps.toList.map .sg
 |p=>[.pt p]
def atPs (ps:List PC):List Atm:=ps.flatMap atP
theorem atPs_cons (a:PC) (b:List PC):atPs (a::b)=atP a++atPs b:=List.flatMap_cons
def sz1:P1->Nat
 | .plain s=>s.cps.toList.length
 | .code s=>s.cps.toList.length+2
 | .link w n=>w.cps.toList.length+n.cps.toList.length+20
 | .note n=>n.cps.toList.length+20
def szC:PC->Nat
 | .one p=>sz1 p
 | .strong ps=>(ps.map sz1).sum+2
def Ok1:P1->Prop
 | .plain s=>Asc s.cps.toList/\s.cps.toList≠[]
 | .code s=>Asc s.cps.toList
 | .link w n=>Asc w.cps.toList/\Asc n.cps.toList
 | .note n=>Asc n.cps.toList
def OkC:PC->Prop
 | .one p=>Ok1 p
 | .strong ps=>∀ p∈ps,Ok1 p
theorem Ok1.asc:∀ {p:P1},Ok1 p->Asc1 p
 | .plain _,h=>h.1
 | .code _,h=>h
 | .link _ _,h=>h
 | .note _,h=>h
theorem OkC.asc:∀ {p:PC},OkC p->AscC p
 | .one _,h=>Ok1.asc h
 | .strong _,h=>fun p hp=>(h p hp).asc
theorem said_sz1 {f g:List Nat->List Nat} (hf:∀ n,(f n).length<=n.length+10) (hg:∀ n,(g n).length<=n.length+10):∀ p:P1,(said1 f g p).length<=sz1 p
 | .plain _=>Nat.le_refl _
 | .code s=>by show ([39]++s.cps.toList++[39]).length<=_;rw[List.length_append,List.length_append];show 1+_+1<=s.cps.toList.length+2;omega
 | .link w n=>by
  have:=hf n.cps.toList
  show (w.cps.toList++[32,40]++f n.cps.toList++[41]).length<=_
  rw[List.length_append,List.length_append,List.length_append]
  show _+2+_+1<=w.cps.toList.length+n.cps.toList.length+20
  omega
 | .note n=>by
  have:=hg n.cps.toList
  show ([91]++g n.cps.toList++[93]).length<=_
  rw[List.length_append,List.length_append]
  show 1+_+1<=n.cps.toList.length+20
  omega
theorem flat_sum {α:Type} (l:List α) (f:α->List Nat) (g:α->Nat) (h:∀ x,(f x).length<=g x):(l.map f).flatten.length<=(l.map g).sum:=by
 induction l with
 |nil=>exact Nat.le_refl 0
 |cons x l ih=>
  have:=h x
  rw[List.map_cons,List.map_cons,List.flatten_cons,List.sum_cons,List.length_append]
  omega
theorem said_sz {f g:List Nat->List Nat} (hf:∀ n,(f n).length<=n.length+10) (hg:∀ n,(g n).length<=n.length+10):∀ p:PC,(saidC f g p).length<=szC p
 | .one p=>said_sz1 hf hg p
 | .strong ps=>by
  have:=flat_sum ps (said1 f g) sz1 (said_sz1 hf hg)
  show ([42]++(ps.map (said1 f g)).flatten++[42]).length<=(ps.map sz1).sum+2
  rw[List.length_append,List.length_append]
  show 1+_+1<=_
  omega
theorem said_all {f g:List Nat->List Nat} (hf:∀ n,(f n).length<=n.length+10) (hg:∀ n,(g n).length<=n.length+10) (ps:List PC):(ps.map (saidC f g)).flatten.length<=(ps.map szC).sum:=flat_sum ps _ _ (said_sz hf hg)
theorem atP_np {p:PC} (h:p.isPlain=false):atP p=[.pt p]:=by
 match p,h with
 | .one (.code _),_=>rfl
 | .one (.link _ _),_=>rfl
 | .one (.note _),_=>rfl
 | .strong _,_=>rfl
end Lw
set_option Elab.async false
set_option linter.all false
set_option maxRecDepth 100000
namespace Lw
open PySem L2 Lm
def Kd (o:HO):Prop:=(∃ xs,o = .lst xs) ∨ (∃ xs,o = .tup xs) ∨ ∃ C dx fs,o = .ins C dx fs
theorem Kd.lst {xs:List V}:Kd (.lst xs) := .inl ⟨xs,rfl⟩
theorem Kd.tup {xs:List V}:Kd (.tup xs) := .inr (.inl ⟨xs,rfl⟩)
theorem Kd.ins {C dx:Addr} {fs:List (Str×V)}:Kd (.ins C dx fs) := .inr (.inr ⟨C,dx,fs,rfl⟩)
def KS (H H':Hp):Prop:=∀ b o,Kd o->H b=some o->H' b=some o
theorem KS.trans {H H1 H2:Hp} (a:KS H H1) (b:KS H1 H2):KS H H2:=fun c o k h=>b c o k (a c o k h)
theorem KS.of {H H':Hp} (s:Same H H'):KS H H':=fun b o _ h=>s b o h
mutual
theorem dn_ks {H H':Hp} (s:KS H H'):∀ {v:V} {d:PyData},Dn H v d->Dn H' v d
 |_,_, .non => .non
 |_,_, .bl b => .bl b
 |_,_, .int i => .int i
 |_,_, .str x a b => .str x a b
 |_,_, .lst e r l => .lst (s _ _ Kd.lst e) (dnAll_ks s r) l
 |_,_, .tup e r => .tup (s _ _ Kd.tup e) (dnAll_ks s r)
theorem dnAll_ks {H H':Hp} (s:KS H H'):∀ {vs:List V} {ds:List PyData},DnAll H vs ds->DnAll H' vs ds
 |_,_, .nil => .nil
 |_,_, .cons a b => .cons (dn_ks s a) (dnAll_ks s b)
end
mutual
theorem dn_det {H:Hp}:∀ {v:V} {d d':PyData},Dn H v d->Dn H v d'->d=d'
 |_,_,_, .non, .non=>rfl
 |_,_,_, .bl _, .bl _=>rfl
 |_,_,_, .int _, .int _=>rfl
 |_,_,_, .str _ _ _, .str _ _ _=>rfl
 |_,_,_, .lst e r _, .lst e' r' _=>by
  rw[e] at e'
  cases e'
  rw[dnAll_det r r']
 |_,_,_, .tup e r, .tup e' r'=>by
  rw[e] at e'
  cases e'
  rw[dnAll_det r r']
 |_,_,_, .lst e r _, .tup e' r'=>by rw[e] at e';cases e'
 |_,_,_, .tup e r, .lst e' r' _=>by rw[e] at e';cases e'
theorem dnAll_det {H:Hp}:∀ {vs:List V} {ds ds':List PyData},DnAll H vs ds->DnAll H vs ds'->ds=ds'
 |_,_,_, .nil, .nil=>rfl
 |_,_,_, .cons a b, .cons a' b'=>by rw[dn_det a a',dnAll_det b b']
end
theorem p1_ks {c:Cp} {H H':Hp} {a:Addr} (s:KS H H'):∀ {p:P1},P1At c H a p->P1At c H' a p
 | .plain _,⟨g,dx,e⟩=>⟨g,dx,s _ _ Kd.ins e⟩
 | .code _,⟨g,dx,e⟩=>⟨g,dx,s _ _ Kd.ins e⟩
 | .link _ _,⟨g,g2,dx,e⟩=>⟨g,g2,dx,s _ _ Kd.ins e⟩
 | .note _,⟨g,dx,e⟩=>⟨g,dx,s _ _ Kd.ins e⟩
theorem p1s_ks {c:Cp} {H H':Hp} (s:KS H H'):∀ {as:List Addr} {ps:List P1},P1s c H as ps->P1s c H' as ps
 | [],[],_=>trivial
 |_::_,_::_,⟨a,b⟩=>⟨p1_ks s a,p1s_ks s b⟩
theorem pc_ks {c:Cp} {H H':Hp} {a:Addr} (s:KS H H'):∀ {p:PC},PCAt c H a p->PCAt c H' a p
 | .one _,h=>p1_ks s h
 | .strong _,⟨dx,l,as,e1,e2,r⟩=>⟨dx,l,as,s _ _ Kd.ins e1,s _ _ Kd.lst e2,p1s_ks s r⟩
theorem pcs_ks {c:Cp} {H H':Hp} (s:KS H H'):∀ {as:List Addr} {ps:List PC},PCs c H as ps->PCs c H' as ps
 | [],[],_=>trivial
 |_::_,_::_,⟨a,b⟩=>⟨pc_ks s a,pcs_ks s b⟩
def R2:PC->Prop
 | .one _=>True
 | .strong ps=>ps.length<=100000
theorem sz_pos {p:P1} (h:Ok1 p):1<=sz1 p:=by
 cases p with
 |plain s=>
  have:s.cps.toList≠[]:=h.2
  show 1<=s.cps.toList.length
  cases e:s.cps.toList with
  |nil=>exact absurd e this
  |cons _ _=>simp
 |code s=>show 1<=_+2;omega
 |link a b=>show 1<=_+20;omega
 |note s=>show 1<=_+20;omega
theorem len_sz1 {l:List P1} (h:∀ p∈l,Ok1 p):l.length<=(l.map sz1).sum:=by
 induction l with
 |nil=>exact Nat.le_refl 0
 |cons p l ih=>
  have h1:=ih fun q hq=>h q (List.mem_cons_of_mem _ hq)
  have h2:=sz_pos (h p List.mem_cons_self)
  rw[List.map_cons,List.sum_cons,List.length_cons]
  omega
theorem len_sz {l:List PC} (h:∀ p∈l,OkC p):l.length<=(l.map szC).sum:=by
 induction l with
 |nil=>exact Nat.le_refl 0
 |cons p l ih=>
  have h1:=ih fun q hq=>h q (List.mem_cons_of_mem _ hq)
  have h2:1<=szC p:=by
   have:=h p List.mem_cons_self
   cases p with
   |one q=>exact sz_pos this
   |strong q=>show 1<=_+2;omega
  rw[List.map_cons,List.sum_cons,List.length_cons]
  omega
theorem mem_szC {l:List PC} {p:PC} (h:p∈l):szC p<=(l.map szC).sum:=by
 induction l with
 |nil=>cases h
 |cons q l ih=>
  rw[List.map_cons,List.sum_cons]
  rcases List.mem_cons.mp h with z |z
  ·rw[z];omega
  ·have:=ih z;omega
theorem r2_of {l:List PC} (h:∀ p∈l,OkC p) (hs:(l.map szC).sum<=90000):∀ p∈l,R2 p:=fun p hp=>by
 have h1:=mem_szC hp
 have h2:=h p hp
 cases p with
 |one q=>trivial
 |strong q=>
  have h3:=len_sz1 h2
  have h4:szC (.strong q)=(q.map sz1).sum+2:=rfl
  show q.length<=100000
  omega
end Lw
set_option Elab.async false
set_option linter.all false
set_option maxRecDepth 100000
namespace Lw
open PySem L2 Lm
def escC:List Nat:=[92,42,96,91,93]
def grd (c:Nat):List Nat:=if escC.contains c then [92,c] else [c]
def guardC (l:List Nat):List Nat:=l.flatMap grd
theorem guard_cons (c:Nat) (l:List Nat):guardC (c::l)=grd c++guardC l:=List.flatMap_cons
def caretC (w:List Nat):List Nat:=if w.head? = some 94 then [92] else []
def raw1:P1->List Nat
 | .plain s=>guardC s.cps.toList
 | .code s=>[96]++s.cps.toList++[96]
 | .link w n=>[91]++caretC w.cps.toList++guardC w.cps.toList++[93,40]++n.cps.toList++[41]
 | .note n=>[91,94]++n.cps.toList++[93]
def isNote:PC->Bool
 | .one (.note _)=>true
 |_=>false
def colonC (b:Bool) (t:List Nat):List Nat:=if b&&decide (t.head? = some 58) then 92::t else t
def raws1:Bool->List P1->List Nat
 |_,[]=>[]
 |b,p::r=>colonC b (raw1 p)++raws1 (isNote (.one p)) r
def rawP:PC->List Nat
 | .one p=>raw1 p
 | .strong ps=>[42]++raws1 false ps++[42]
def raws:Bool->List PC->List Nat
 |_,[]=>[]
 |b,p::r=>colonC b (rawP p)++raws (isNote p) r
theorem raws_one:∀ (b:Bool) (ps:List P1),raws b (ps.map .one)=raws1 b ps
 |_,[]=>rfl
 |b,p::r=>by show colonC b (raw1 p)++raws _ (r.map .one)=_;rw[raws_one _ r];rfl
def Gz (raw:List Nat) (A:List Atm):Prop:=∀ rest,∃ pcs,piecesC (raw++rest)=pcs++piecesC rest/\(∀ p∈pcs,p≠Pc.star)/\atQs (pcs.map toQ)=A
theorem Gz.nil:Gz [] []:=fun rest=>⟨[],rfl,(fun _ z=>nomatch z),rfl⟩
theorem Gz.app {a b:List Nat} {A B:List Atm} (h:Gz a A) (k:Gz b B):Gz (a++b) (A++B):=fun rest=>by
 obtain ⟨p1,e1,n1,a1⟩:=h (b++rest)
 obtain ⟨p2,e2,n2,a2⟩:=k rest
 refine ⟨p1++p2,by rw[List.append_assoc,e1,e2,List.append_assoc],fun p hp=>?_,by rw[List.map_append,atQs_app,a1,a2]⟩
 rcases List.mem_append.mp hp with z |z
 ·exact n1 p z
 ·exact n2 p z
theorem Gz.step {raw:List Nat} {p:Pc} (hp:p ≠ .star) (h:∀ rest,stepC (raw++rest)=some (p,rest)):Gz raw (atQ (toQ p)):=fun rest=>
 ⟨[p],by rw[pieces_step (h rest)];rfl,fun q hq=>by rw[List.mem_singleton.mp hq];exact hp,by
  show atQs [toQ p]=_
  rw[atQs_cons]
  exact List.append_nil _⟩
theorem gz_sign {c:Nat} (h:plS c=true):Gz [c] [.sg c]:=Gz.step (p := .sign c) (fun z=>nomatch z) fun rest=>step_pl h
theorem gz_take {c:Nat} (h:takenC.contains c=true):Gz [92,c] [.sg c]:=Gz.step (p := .sign c) (fun z=>nomatch z) fun rest=>step_take h
theorem esc_taken:∀ c∈escC,takenC.contains c=true:=by decide
theorem gz_grd (c:Nat):Gz (grd c) [.sg c]:=by
 unfold grd
 split
 ·rename_i h
  exact gz_take (esc_taken c (by simpa using h))
 ·rename_i h
  refine gz_sign ?_
  have h:c∉escC:=by simpa using h
  unfold escC at h
  simp only[List.mem_cons,List.not_mem_nil,or_false,not_or] at h
  unfold plS
  simp only[Bool.and_eq_true,decide_eq_true_eq]
  exact ⟨⟨⟨h.1,h.2.1⟩,h.2.2.1⟩,h.2.2.2.1⟩
theorem gz_guard:∀ l:List Nat,Gz (guardC l) (l.map .sg)
 | []=>Gz.nil
 |c::l=>by rw[guard_cons];exact (gz_grd c).app (gz_guard l)
theorem guard_head (c:Nat) (l:List Nat):(guardC (c::l)).head? = some (if escC.contains c then 92 else c):=by
 rw[guard_cons]
 unfold grd
 split <;> rfl
theorem gz_colon (b:Bool) {l:List Nat} (hl:l≠[]):Gz (colonC b (guardC l)) (l.map .sg):=by
 unfold colonC
 split
 ·rename_i h
  rw[Bool.and_eq_true,decide_eq_true_eq] at h
  cases l with
  |nil=>exact absurd rfl hl
  |cons c l=>
   rw[guard_head] at h
   have hc:c=58:=by
    have:=Option.some.inj h.2
    split at this
    ·omega
    ·exact this
   subst hc
   rw[guard_cons]
   show Gz ([92,58]++guardC l) _
   exact (gz_take (by decide)).app (gz_guard l)
 ·exact gz_guard l
theorem gz_code {s:List Nat} (hs:96∉s) (hn:s≠[]):Gz ([96]++s++[96]) [.pt (.one (.code (S s)))]:=Gz.step (p := .code s) (fun z=>nomatch z) fun rest=>by
 show stepC (96::(s++[96])++rest)=_
 rw[List.cons_append,List.append_assoc]
 exact step_code hs hn
theorem gz_note {n:List Nat} (hn:isNameC n=true) (hc:93∉n) (hs:smallC n=n):Gz ([91,94]++n++[93]) [.pt (.one (.note (S n)))]:=Gz.step (p := .note n) (fun z=>nomatch z) fun rest=>by
 show stepC (91::94::(n++[93])++rest)=_
 have:=step_mark (r:=rest) hn hc
 rw[hs] at this
 rw[List.cons_append,List.cons_append,List.append_assoc]
 exact this
def LkQ (p:List Nat×List Nat):Prop:=∀ rest,nxtC (p.1++rest)=(nxtC rest).map (· + p.1.length)/\freeC (p.1++rest)=p.2++freeC rest
theorem lq_one {c:Nat} (h:c≠92) (h2:c≠93):LkQ ([c],[c]):=fun rest=>⟨nxt_one (takes_no h) h2,free_one' (takes_no h)⟩
theorem lq_take {c:Nat} (h:takenC.contains c=true):LkQ ([92,c],[c]):=fun rest=>⟨nxt_take (takes_iff.mpr ⟨rfl,h⟩),free_take' (takes_iff.mpr ⟨rfl,h⟩)⟩
theorem lq_nil:LkQ ([],[]):=fun rest=>⟨by show nxtC rest=(nxtC rest).map (· + 0);cases nxtC rest <;> rfl,rfl⟩
theorem LkQ.app {a b a' b':List Nat} (h:LkQ (a,a')) (k:LkQ (b,b')):LkQ (a++b,a'++b'):=fun rest=>by
 have h1:=h (b++rest)
 have h2:=k rest
 dsimp only at h1 h2 ⊢
 rw[List.append_assoc,List.append_assoc,h1.1,h1.2,h2.1,h2.2,map_add,List.length_append,Nat.add_comm]
 exact ⟨rfl,rfl⟩
theorem lq_grd (c:Nat):LkQ (grd c,[c]):=by
 unfold grd
 split
 ·rename_i h
  exact lq_take (esc_taken c (by simpa using h))
 ·rename_i h
  have h:c∉escC:=by simpa using h
  unfold escC at h
  simp only[List.mem_cons,List.not_mem_nil,or_false,not_or] at h
  exact lq_one h.1 h.2.2.2.2
theorem lq_guard:∀ l:List Nat,LkQ (guardC l,l)
 | []=>lq_nil
 |c::l=>by rw[guard_cons];exact (lq_grd c).app (lq_guard l)
theorem lq_words (w:List Nat):LkQ (caretC w++guardC w,w):=by
 unfold caretC
 split
 ·rename_i h
  cases w with
  |nil=>cases h
  |cons c w=>
   have hc:c=94:=Option.some.inj h
   subst hc
   rw[guard_cons]
   show LkQ ([92,94]++guardC w,[94]++w)
   exact (lq_take (by decide)).app (lq_guard w)
 ·exact lq_guard w
theorem words_head {w:List Nat} (h:w≠[]):(caretC w++guardC w).head? ≠ some 94/\caretC w++guardC w≠[]:=by
 cases w with
 |nil=>exact absurd rfl h
 |cons c w=>
  unfold caretC
  split
  ·exact ⟨by simp,by simp⟩
  ·rename_i hc
   have hc:c≠94:=fun z=>hc (by rw[z];rfl)
   rw[List.nil_append,guard_head]
   refine ⟨fun z=>?_,fun z=>?_⟩
   ·have:=Option.some.inj z
    split at this
    ·omega
    ·exact hc this
   ·have:=guard_head c w
    rw[z] at this
    cases this
theorem gz_link {w n:List Nat} (hw:w≠[]) (hn:isNameC n=true) (hc:41∉n) (hs:smallC n=n):Gz ([91]++caretC w++guardC w++[93,40]++n++[41]) [.pt (.one (.link (S w) (S n)))]:=Gz.step (p := .link w n) (fun z=>nomatch z) fun rest=>by
 have hq:=lq_words w
 obtain ⟨h1,h2⟩:=words_head hw
 have := step_link (raw := caretC w ++ guardC w) (words := w) (name := n) (r := rest) h1 h2 (fun r=>by
  rw[(hq (93::r)).1,nxt_bar]
  show some (0+_)=_
  rw [Nat.zero_add]) (by
  have:=(hq []).2
  dsimp only at this
  rw[List.append_nil,show freeC []=[] from rfl,List.append_nil] at this
  exact this) hn hc
 rw[hs] at this
 rw[show [91]++caretC w++guardC w++[93,40]++n++[41]++rest=91::((caretC w++guardC w)++93::40::(n++41::rest)) by simp]
 exact this
def Nm1:P1->Prop
 | .plain s=>s.cps.toList≠[]
 | .code s=>s.cps.toList≠[]/\96∉s.cps.toList
 | .link w n=>w.cps.toList≠[]/\isNameC n.cps.toList=true/\smallC n.cps.toList=n.cps.toList
 | .note n=>isNameC n.cps.toList=true/\smallC n.cps.toList=n.cps.toList
def NoAdj:Bool->List PC->Prop
 |_,[]=>True
 |b,p::r=>(b&&p.isPlain)=false/\NoAdj p.isPlain r
def NmC:PC->Prop
 | .one p=>Nm1 p
 | .strong ps=>(∀ p∈ps,Nm1 p)/\NoAdj false (ps.map .one)/\ps≠[]
def NmL (D:List PC):Prop:=(∀ p∈D,NmC p)/\NoAdj false D
theorem name_signs {n:List Nat} (h:isNameC n=true):41∉n/\93∉n:=by
 have hall:∀ c∈nameSigns,c≠41/\c≠93:=by decide
 unfold isNameC at h
 rw[Bool.and_eq_true] at h
 have hm:∀ c∈n,c∈nameSigns:=fun c hc=>by simpa using List.all_eq_true.mp h.2 c hc
 exact ⟨fun z=>(hall 41 (hm 41 z)).1 rfl,fun z=>(hall 93 (hm 93 z)).2 rfl⟩
theorem gz_one {p:P1} (h:Nm1 p) (b:Bool):Gz (colonC b (raw1 p)) (atP (.one p)):=by
 have nc:∀ {l:List Nat} {c:Nat},c≠58->colonC b (c::l)=c::l:=fun {l c} hc=>by
  unfold colonC
  rw[if_neg]
  rw[Bool.and_eq_true,decide_eq_true_eq]
  exact fun z=>hc (Option.some.inj z.2)
 cases p with
 |plain s=>exact gz_colon b h
 |code s=>
  show Gz (colonC b (96::(s.cps.toList++[96]))) _
  rw[nc (by decide)]
  have:=gz_code h.2 h.1
  rw[S_of] at this
  exact this
 |link w n=>
  have e:raw1 (.link w n)=91::(caretC w.cps.toList++guardC w.cps.toList++[93,40]++n.cps.toList++[41]):=by
   show [91]++caretC w.cps.toList++guardC w.cps.toList++[93,40]++n.cps.toList++[41]=_
   simp
  rw[e,nc (by decide),<- e]
  have:=gz_link h.1 h.2.1 (name_signs h.2.1).1 h.2.2
  rw[S_of,S_of] at this
  exact this
 |note n=>
  show Gz (colonC b (91::(94::(n.cps.toList++[93])))) _
  rw[nc (by decide)]
  have:=gz_note h.1 (name_signs h.1).2 h.2
  rw[S_of] at this
  exact this
theorem gz_ones:∀ {ps:List P1} (b:Bool),(∀ p∈ps,Nm1 p)->Gz (raws1 b ps) (atPs (ps.map .one))
 | [],_,_=>Gz.nil
 |p::r,b,h=>by
  show Gz (colonC b (raw1 p)++raws1 _ r) (atPs (.one p::r.map .one))
  rw[atPs_cons]
  exact (gz_one (h p List.mem_cons_self) b).app (gz_ones _ fun q hq=>h q (List.mem_cons_of_mem _ hq))
def Bz (raw:List Nat) (A:List Atm):Prop:=∀ rest,∃ pcs,piecesC (raw++rest)=pcs++piecesC rest/\∀ r,∃ qs,wsGo none (pcs++r)=qs++wsGo none r/\atQs qs=A
theorem Gz.bz {a:List Nat} {A:List Atm} (h:Gz a A):Bz a A:=fun rest=>by
 obtain ⟨pcs,e,n,ea⟩:=h rest
 exact ⟨pcs,e,fun r=>⟨pcs.map toQ,ws_no pcs r n,ea⟩⟩
theorem Bz.app {a b:List Nat} {A B:List Atm} (h:Bz a A) (k:Bz b B):Bz (a++b) (A++B):=fun rest=>by
 obtain ⟨p1,e1,n1⟩:=h (b++rest)
 obtain ⟨p2,e2,n2⟩:=k rest
 refine ⟨p1++p2,by rw[List.append_assoc,e1,e2,List.append_assoc],fun r=>?_⟩
 obtain ⟨q1,f1,g1⟩:=n1 (p2++r)
 obtain ⟨q2,f2,g2⟩:=n2 r
 exact ⟨q1++q2,by rw[List.append_assoc,f1,f2,List.append_assoc],by rw[atQs_app,g1,g2]⟩
theorem Bz.nil:Bz [] []:=Gz.nil.bz
theorem Gz.strong {a:List Nat} {A:List Atm} (h:Gz a A) (hA:A≠[]):Bz ([42]++a++[42]) [.pt (.strong (ones (mgA [] A)))]:=fun rest=>by
 obtain ⟨pcs,e,n,ea⟩:=h (42::rest)
 have hne:pcs≠[]:=fun z=>by rw[z] at ea;exact hA ea.symm
 refine ⟨.star::(pcs++[.star]),?_,fun r=>⟨[strongQ (pcs.map toQ)],?_,?_⟩⟩
 ·rw[show ([42]++a++[42]++rest:List Nat)=42::(a++42::rest) by simp,pieces_step step_star,e,pieces_step step_star]
  simp
 ·show wsGo (some []) ((pcs++[Pc.star])++r)=_
  rw[List.append_assoc,ws_in pcs _ [] n]
  rfl
 ·unfold strongQ
  rw[if_neg (by simp[hne])]
  show [Atm.pt (.strong (ones (mgGo [] (pcs.map toQ))))]++[]=_
  rw[mg_at _ [] ne_toQ (fun _ z=>nomatch z),ea]
  rfl
theorem flA_one {l:List Nat} (h:l≠[]):flA l=[.one (.plain (S l))]:=by
 unfold flA
 rw[if_neg (by simp[h])]
theorem mg_norm:∀ {D:List PC} {b:Bool} {acc:List Nat},NoAdj b D->(∀ s,PC.one (.plain s)∈D->s.cps.toList≠[])->(b=true->acc≠[])->(b=false->acc=[])->mgA acc (atPs D)=flA acc++D
 | [],b,acc,_,_,_,_=>(List.append_nil _).symm
 |p::r,b,acc,h,hp,h1,h2=>by
  rw[atPs_cons]
  by_cases hpl:p.isPlain=true
  ·obtain ⟨s,rfl⟩:∃ s,p = .one (.plain s):=by
    match p,hpl with
    | .one (.plain s),_=>exact ⟨s,rfl⟩
   have hb:b=false:=by
    have:=h.1
    rw[hpl,Bool.and_true] at this
    exact this
   have hs:=hp s List.mem_cons_self
   rw[h2 hb]
   show mgA [] (s.cps.toList.map .sg++atPs r)=[]++_
   rw[mgA_text,List.nil_append,mg_norm (b:=true) (acc:=s.cps.toList) (by have:=h.2;rw[hpl] at this;exact this) (fun t ht=>hp t (List.mem_cons_of_mem _ ht)) (fun _=>hs) (fun z=>Bool.noConfusion z),flA_one hs,S_of]
   rfl
  ·have hpl:=Bool.eq_false_iff.mpr hpl
   rw[atP_np hpl]
   show flA acc++p::mgA [] (atPs r)=_
   rw[mg_norm (b:=false) (acc:=[]) (by have:=h.2;rw[hpl] at this;exact this) (fun t ht=>hp t (List.mem_cons_of_mem _ ht)) (fun z=>Bool.noConfusion z) (fun _=>rfl)]
   rfl
theorem nm_plain {D:List PC} (h:∀ p∈D,NmC p):∀ s,PC.one (.plain s)∈D->s.cps.toList≠[]:=fun s hs=>h _ hs
theorem ones_oneM (ps:List P1):ones (ps.map PC.one)=ps:=by
 induction ps with
 |nil=>rfl
 |cons p r ih=>show p::ones (r.map .one)=_;rw[ih]
theorem bz_part {p:PC} (h:NmC p) (b:Bool):Bz (colonC b (rawP p)) (atP p):=by
 cases p with
 |one p=>exact (gz_one h b).bz
 |strong ps=>
  have e:colonC b (rawP (.strong ps))=[42]++raws1 false ps++[42]:=by
   show colonC b (42::(raws1 false ps++[42]))=_
   unfold colonC
   rw[if_neg]
   ·rfl
   ·rw[Bool.and_eq_true,decide_eq_true_eq]
    exact fun z=>absurd (Option.some.inj z.2) (by decide)
  rw[e]
  have hne:atPs (ps.map PC.one)≠[]:=by
   have hps:=h.2.2
   have h1:=h.1
   cases ps with
   |nil=>exact absurd rfl hps
   |cons p r=>
    show atPs (.one p::r.map .one)≠[]
    rw[atPs_cons]
    have hp:=h1 p List.mem_cons_self
    cases p with
    |plain s=>
     intro z
     have z:=(List.append_eq_nil_iff.mp z).1
     exact hp (List.map_eq_nil_iff.mp z)
    |code s=>exact fun z=>nomatch z
    |link a b=>exact fun z=>nomatch z
    |note s=>exact fun z=>nomatch z
  have:=(gz_ones false h.1).strong hne
  rw [mg_norm (b := false) (acc := []) h.2.1 (fun s hs=>by
   obtain ⟨q,hq,e⟩:=List.mem_map.mp hs
   cases e
   exact h.1 _ hq) (fun z=>Bool.noConfusion z) (fun _=>rfl)] at this
  rw[show flA []++ps.map PC.one=ps.map PC.one from rfl,ones_oneM] at this
  exact this
theorem bz_parts:∀ {D:List PC} (b:Bool),(∀ p∈D,NmC p)->Bz (raws b D) (atPs D)
 | [],_,_=>Bz.nil
 |p::r,b,h=>by
  show Bz (colonC b (rawP p)++raws _ r) (atPs (p::r))
  rw[atPs_cons]
  exact (bz_part (h p List.mem_cons_self) b).app (bz_parts _ fun q hq=>h q (List.mem_cons_of_mem _ hq))
theorem parts_raws {D:List PC} (h:NmL D) (ha:Asc (raws false D)):partsC (raws false D)=D:=by
 obtain ⟨pcs,e,k⟩:=bz_parts false h.1 []
 rw[List.append_nil,pieces_nil,List.append_nil] at e
 obtain ⟨qs,e2,hA⟩:=k []
 rw[List.append_nil,show wsGo none []=[] from rfl,List.append_nil] at e2
 unfold partsC
 have hok:=ws_ok (piecesC (raws false D)) none (pieces_ok _ _ (Nat.le_refl _) ha) (fun _ z=>nomatch z)
 rw[mg_at _ [] hok.ne (fun _ z=>nomatch z),e,e2,hA]
 show mgA [] (atPs D)=D
 rw[mg_norm (b:=false) (acc:=[]) h.2 (nm_plain h.1) (fun z=>Bool.noConfusion z) (fun _=>rfl)]
 rfl
def rawsT:Bool->List PC->List (List Nat)
 |_,[]=>[]
 |b,p::r=>colonC b (rawP p)::rawsT (isNote p) r
theorem rawsT_flat:∀ (b:Bool) (ps:List PC),(rawsT b ps).flatten=raws b ps
 |_,[]=>rfl
 |b,p::r=>by show colonC b (rawP p)++(rawsT _ r).flatten=_;rw[rawsT_flat _ r];rfl
theorem colon_le (b:Bool) (t:List Nat):t.length<=(colonC b t).length/\(colonC b t).length<=t.length+1:=by
 unfold colonC
 split
 ·rw[List.length_cons];omega
 ·omega
theorem rawsT_mem {b:Bool} {ps:List PC} {p:PC} (h:p∈ps):(rawP p).length<=(raws b ps).length:=by
 induction ps generalizing b with
 |nil=>cases h
 |cons q r ih=>
  show _<=(colonC b (rawP q)++raws _ r).length
  rw[List.length_append]
  rcases List.mem_cons.mp h with z |z
  ·rw[z];have:=(colon_le b (rawP q)).1;omega
  ·have:=ih (b:=isNote q) z;omega
theorem guard_le (l:List Nat):l.length<=(guardC l).length:=by
 induction l with
 |nil=>exact Nat.le_refl 0
 |cons c l ih=>
  rw[guard_cons,List.length_append,List.length_cons]
  have:1<=(grd c).length:=by unfold grd;split <;> simp
  omega
def spRaw (c:Cp) (R:PC->Prop):Sp:=fun vs H Q _=>∃ a p,vs=[.ref a]/\PCAt c H a p/\R p/\(rawP p).length<=100000/\∀ H',Same H H'->Q (vS (rawP p)) H'
def spRaws (c:Cp) (R:PC->Prop):Sp:=fun vs H Q _=>∃ (l:Addr) (as:List Addr) (ps:List PC),vs=[.ref l]/\H l=some (.lst (as.map V.ref))/\PCs c H as ps/\(∀ p∈ps,R p)/\as.length<=100000/\(raws false ps).length<=100000/\∀ H',Same H H'->Q (vS (raws false ps)) H'
def RawV (P:Program) (w:World) (K:PySem.W.Frag) (mg:Str->Option Value) (base:Heap) (k:Nat) (c:Cp) (R:PC->Prop):Prop:=
 ∀ p,R p->(rawP p).length<=100000->∀ H a,PCAt c H a p->∃ C dx fs sp,H a=some (.ins C dx fs)/\fs.lookup ("raw":Str)=none/\MethV P w K mg base k C "raw" ["self"] sp/\∀ Q E,(∀ H',Same H H'->Q (vS (rawP p)) H')->sp [.ref a] H Q E
end Lw
set_option Elab.async false
set_option linter.all false
set_option maxRecDepth 100000
set_option maxHeartbeats 2000000
namespace K5
open PySem L2 Lm Lw
structure TxR (K:PySem.W.Frag) (mg:Str->Option Value) (c:Cp) (BT:Addr):Prop extends TxI K mg c BT where
 g_ESCAPED:∃ t,mg "ESCAPED"=some (.str (S escC) t)
 c_Mark:mg "Mark"=some (.ref c.Mark)
 m_Plain:PySem.W.kitOne K (.ref c.Plain) (.ref c.Mark)=some false
 m_Code:PySem.W.kitOne K (.ref c.Code) (.ref c.Mark)=some false
 m_Strong:PySem.W.kitOne K (.ref c.Strong) (.ref c.Mark)=some false
 m_Link:PySem.W.kitOne K (.ref c.Link) (.ref c.Mark)=some false
 m_Mark:PySem.W.kitOne K (.ref c.Mark) (.ref c.Mark)=some true
theorem TxR.isMark {K:PySem.W.Frag} {mg:Str->Option Value} {c:Cp} {BT:Addr} (T:TxR K mg c BT) {H:Hp} {a:Addr}:∀ {p:PC},PCAt c H a p->∃ t,TyOf K H (.ref a) t/\PySem.W.kitOne K t (.ref c.Mark)=some (isNote p)
 | .one (.plain _),⟨_,_,e⟩=>⟨_,T.o_Plain.ty e,T.m_Plain⟩
 | .one (.code _),⟨_,_,e⟩=>⟨_,T.o_Code.ty e,T.m_Code⟩
 | .one (.link _ _),⟨_,_,_,e⟩=>⟨_,T.o_Link.ty e,T.m_Link⟩
 | .one (.note _),⟨_,_,e⟩=>⟨_,T.o_Mark.ty e,T.m_Mark⟩
 | .strong _,⟨_,_,_,e,_⟩=>⟨_,T.o_Strong.ty e,T.m_Strong⟩
theorem sz {n:Nat} (h:n<=100000):n<=sizeLine:=by rw[sizeLine_eq];omega
theorem strLen (x:Str):x.length=x.cps.toList.length:=by conv=>lhs;rw[<- S_of x,S_len]
section
variable {P:Program} {w:World} {K:PySem.W.Frag} {mg:Str->Option Value} {base:Heap} {c:Cp} {BT:Addr}
abbrev sEscaped:Stmt:=top 8
theorem scEscaped:FnScope ["signs"] ["signs"] (defScope sEscaped):=⟨rfl,rfl,rfl,by decide +kernel,rfl,by decide +kernel,by decide +kernel⟩
def spEscaped:Sp:=fun vs H Q _=>∃ l:List Nat,vs=[vS l]/\l.length<=100000/\(guardC l).length<=100000/\∀ H',Same H H'->Q (vS (guardC l)) H'
def grdV:V->V
 | .str x=>vS (guardC x.cps.toList)
 |v=>v
theorem grdV_one (d:Nat):grdV (.str ⟨#[d]⟩)=vS (grd d):=by
 show vS (guardC [d])=_
 rw[guard_cons]
 exact congrArg vS (List.append_nil _)
theorem guard_flat (l:List Nat):(l.map grd).flatten=guardC l:=(List.flatMap_def (l:=l) (f:=grd)).symm
theorem ok_escaped {f:Addr} {fd:FuncData} (F:Fun K "escaped" "escaped" sEscaped f fd) (T:TxR K mg c BT):FnOk P w K mg base CX0 1 f fd ["signs"] spEscaped:=by
 have sc:=scEscaped
 refine F.ok sc (fun vs H Q E h=>?_) (fun cdv A outer s H vs Q E hr h=>?_)
 ·obtain ⟨l,rfl,_⟩:=h
  rfl
 obtain ⟨l,rfl,hl,hg,q⟩:=h
 refine of_XB (xb1 (xret (xm PySem.F.plainAttrs_str PySem.F.slot_str_join PySem.F.type_str_join mt_join xstr (xac (xlc (cl:=[]) (own:=["sign"]) (fr:=[]) (N':=["sign"]) rfl (compN (xs:=[]) trivial trivial (by decide +kernel)) (by decide +kernel) (by decide +kernel) (by with_unfolding_all rfl)
  (xis (xv 0))
  (fun _ _ _ _=>xgn (i:=0) (show (["sign"]:List Str).Nodup by decide +kernel) rfl (Or.inl rfl)) (fun _ _ _ _=>xq0) (fun _ _ _ _=>(xifE (xcmpT op_in_str (xv 0) (xgS T.g_ESCAPED) (by with_unfolding_all rfl)) (xop op_add_str xstr (xv 0)) (xv 0)))) xa0)))) ?_
 have hs:sizeLine=16777216:=sizeLine_eq
 refine ⟨rfl,_,rfl,_,rfl,?_⟩
 refine lc_str (fun _=>true) grdV (bigS (by omega)) ?_ ?_
 ·intro d hd H' sm C N hC hN
  refine ⟨(nfLe.refl _ _ _).set (by decide) _,iteT (B:=N H') ?_⟩
  have hc:=hC H' (Same.refl H') rfl
  rw[grdV_one] at hc
  refine ⟨_,rfl,_,_,rfl,rfl,_,rfl,?_⟩
  rw[show (!(Builtin.Str.occurrences (S escC) (S [d]) 0 (S escC).length 1).isEmpty)=escC.contains d from contains_S _ _]
  unfold grd at hc
  by_cases z:escC.contains d=true
  ·rw[if_pos z] at hc
   rw[z]
   refine iteT ⟨_,rfl,_,_,rfl,rfl,(show 1+1<=sizeLine by rw[hs];decide),?_⟩
   rw[show Str.ofString "\\"++S [d]=S [92,d] from S_app [92] [d]]
   exact hc
  ·have z:=Bool.eq_false_iff.mpr z
   rw[if_neg (by rw[z];simp)] at hc
   rw[z]
   exact iteF ⟨_,rfl,hc⟩
 ·intro D H' hD sm eD
  have em:(((S l).cps.toList.map fun c=>V.str ⟨#[c]⟩).filter (fun _=>true)).map grdV=((l.map grd).map S).map V.str:=by
   rw[List.filter_eq_self.mpr (fun _ _=>rfl),S_list,List.map_map,List.map_map,List.map_map]
   exact List.map_congr_left fun d _=>grdV_one d
  refine ⟨S [],D,(l.map grd).map S,rfl,rfl,SqL.of (by rw[eD];exact congrArg some (congrArg HO.lst em)),fit_join _ (by rw[guard_flat];exact hg),?_⟩
  rw[joinT_S,glue_flat,guard_flat]
  exact q H' sm
abbrev sPlainRaw:Stmt:=meth 3 2
abbrev sCodeRaw:Stmt:=meth 4 2
abbrev sStrongRaw:Stmt:=meth 5 2
abbrev sLinkRaw:Stmt:=meth 6 2
abbrev sMarkRaw:Stmt:=meth 7 2
theorem scPlainRaw:FnScope ["self"] ["self"] (defScope sPlainRaw):=⟨rfl,rfl,rfl,by decide +kernel,rfl,by decide +kernel,by decide +kernel⟩
theorem scCodeRaw:FnScope ["self"] ["self"] (defScope sCodeRaw):=⟨rfl,rfl,rfl,by decide +kernel,rfl,by decide +kernel,by decide +kernel⟩
theorem scStrongRaw:FnScope ["self"] ["self"] (defScope sStrongRaw):=⟨rfl,rfl,rfl,by decide +kernel,rfl,by decide +kernel,by decide +kernel⟩
theorem scLinkRaw:FnScope ["self","caret"] ["self"] (defScope sLinkRaw):=⟨rfl,rfl,rfl,by decide +kernel,rfl,by decide +kernel,by decide +kernel⟩
theorem scMarkRaw:FnScope ["self"] ["self"] (defScope sMarkRaw):=⟨rfl,rfl,rfl,by decide +kernel,rfl,by decide +kernel,by decide +kernel⟩
theorem eS (s:Str):V.str s=vS s.cps.toList:=congrArg V.str (S_of s).symm
theorem ok_PlainRaw {f:Addr} {fd:FuncData} (F:Fun K "raw" "Plain.raw" sPlainRaw f fd) (T:TxR K mg c BT) (D_escaped:Def P w K mg base 1 "escaped" ["signs"] spEscaped):FnOk P w K mg base CX0 2 f fd ["self"] (spRaw c fun p=>∃ s,p = .one (.plain s)):=by
 have sc:=scPlainRaw
 refine F.ok sc (fun vs H Q E h=>?_) (fun cdv A outer s H vs Q E hr h=>?_)
 ·obtain ⟨a,p,rfl,_⟩:=h
  rfl
 obtain ⟨a,p,rfl,ha,⟨s,rfl⟩,hl,q⟩:=h
 obtain ⟨g,dx,e⟩:=ha
 refine of_XB (xb1 (xret (xcD D_escaped (hr.mono (by omega)) (xac (xfld (xv 0)) xa0)))) ?_
 exact ⟨_,rfl,a,_,dx,_,_,rfl,e,T.o_Plain.cls,T.a_Plain,rfl,s.cps.toList,by rw[eS];rfl,by rw[<- strLen];exact g.2,hl,q⟩
theorem ok_CodeRaw {f:Addr} {fd:FuncData} (F:Fun K "raw" "Code.raw" sCodeRaw f fd) (T:TxR K mg c BT):FnOk P w K mg base CX0 2 f fd ["self"] (spRaw c fun p=>∃ s,p = .one (.code s)):=by
 have sc:=scCodeRaw
 refine F.ok sc (fun vs H Q E h=>?_) (fun cdv A outer s H vs Q E hr h=>?_)
 ·obtain ⟨a,p,rfl,_⟩:=h
  rfl
 obtain ⟨a,p,rfl,ha,⟨s,rfl⟩,hl,q⟩:=h
 obtain ⟨g,dx,e⟩:=ha
 refine of_XB (xb1 (xret (xop op_add_str (xop op_add_str xstr (xfld (xv 0))) xstr))) ?_
 have hs:sizeLine=16777216:=sizeLine_eq
 have hl:([96]++s.cps.toList++[96]).length<=100000:=hl
 rw[List.length_append,List.length_append] at hl
 simp only[List.length_cons,List.length_nil] at hl
 refine ⟨_,rfl,a,_,dx,_,_,rfl,e,T.o_Code.cls,T.a_Code,rfl,?_⟩
 rw[eS]
 refine ⟨_,_,rfl,rfl,by show 1+(S s.cps.toList).length<=_;rw[S_len s.cps.toList,hs];omega,?_⟩
 rw[show Str.ofString "`"++S s.cps.toList=S ([96]++s.cps.toList) from S_app [96] _]
 refine ⟨_,_,rfl,rfl,by show (S ([96]++s.cps.toList)).length+1<=_;rw[S_len,List.length_append,hs];show 1+_+1<=_;omega,?_⟩
 rw[show S ([96]++s.cps.toList)++Str.ofString "`"=S ([96]++s.cps.toList++[96]) from S_app _ [96]]
 exact q H (Same.refl H)
theorem ok_MarkRaw {f:Addr} {fd:FuncData} (F:Fun K "raw" "Mark.raw" sMarkRaw f fd) (T:TxR K mg c BT):FnOk P w K mg base CX0 2 f fd ["self"] (spRaw c fun p=>∃ s,p = .one (.note s)):=by
 have sc:=scMarkRaw
 refine F.ok sc (fun vs H Q E h=>?_) (fun cdv A outer s H vs Q E hr h=>?_)
 ·obtain ⟨a,p,rfl,_⟩:=h
  rfl
 obtain ⟨a,p,rfl,ha,⟨s,rfl⟩,hl,q⟩:=h
 obtain ⟨g,dx,e⟩:=ha
 refine of_XB (xb1 (xret (xop op_add_str (xop op_add_str xstr (xfld (xv 0))) xstr))) ?_
 have hs:sizeLine=16777216:=sizeLine_eq
 have hl:([91,94]++s.cps.toList++[93]).length<=100000:=hl
 rw[List.length_append,List.length_append] at hl
 simp only[List.length_cons,List.length_nil] at hl
 refine ⟨_,rfl,a,_,dx,_,_,rfl,e,T.o_Mark.cls,T.a_Mark,rfl,?_⟩
 rw[eS]
 refine ⟨_,_,rfl,rfl,by show 2+(S s.cps.toList).length<=_;rw[S_len s.cps.toList,hs];omega,?_⟩
 rw[show Str.ofString "[^"++S s.cps.toList=S ([91,94]++s.cps.toList) from S_app [91,94] _]
 refine ⟨_,_,rfl,rfl,by show (S ([91,94]++s.cps.toList)).length+1<=_;rw[S_len,List.length_append,hs];show 2+_+1<=_;omega,?_⟩
 rw[show S ([91,94]++s.cps.toList)++Str.ofString "]"=S ([91,94]++s.cps.toList++[93]) from S_app _ [93]]
 exact q H (Same.refl H)
theorem ok_LinkRaw {f:Addr} {fd:FuncData} (F:Fun K "raw" "Link.raw" sLinkRaw f fd) (T:TxR K mg c BT) (D_escaped:Def P w K mg base 1 "escaped" ["signs"] spEscaped):FnOk P w K mg base CX0 2 f fd ["self"] (spRaw c fun p=>∃ s n,p = .one (.link s n)):=by
 have sc:=scLinkRaw
 refine F.ok sc (fun vs H Q E h=>?_) (fun cdv A outer s H vs Q E hr h=>?_)
 ·obtain ⟨a,p,rfl,_⟩:=h
  rfl
 obtain ⟨a,p,rfl,ha,⟨s,n,rfl⟩,hl,q⟩:=h
 obtain ⟨g,g2,dx,e⟩:=ha
 refine of_XB (xbc (xset (i:=1) sc.nd rfl (Or.inl rfl) (xifE (xvalT (xm PySem.F.plainAttrs_str PySem.F.slot_str_startswith PySem.F.type_str_startswith mt_startswith (xfld (xv 0)) (xac xstr xa0))) xstr xstr))
  (xb1 (xret (xop op_add_str (xop op_add_str (xop op_add_str (xop op_add_str (xop op_add_str xstr (xv 1)) (xcD D_escaped (hr.mono (by omega)) (xac (xfld (xv 0)) xa0))) xstr) (xfld (xv 0))) xstr)))) ?_
 have hs:sizeLine=16777216:=sizeLine_eq
 rw[show start ["self","caret"] [V.ref a]=[some (V.ref a),none] from rfl]
 have hl:([91]++caretC s.cps.toList++guardC s.cps.toList++[93,40]++n.cps.toList++[41]).length<=100000:=hl
 simp only[List.length_append,List.length_cons,List.length_nil] at hl
 have hsl:s.cps.toList.length<=100000:=by rw[<- strLen];exact g.2
 have rest:∀ H1,Same H H1->∀ R,(∀ H',Same H H'->R (vS (raw1 (.link s n))) H')->tOp (fun x y H Q=>∃ i j,x = .str i/\y = .str j/\i.length+j.length<=sizeLine/\Q (.str (i++j)) H) (tOp (fun x y H Q=>∃ i j,x = .str i/\y = .str j/\i.length+j.length<=sizeLine/\Q (.str (i++j)) H) (tOp (fun x y H Q=>∃ i j,x = .str i/\y = .str j/\i.length+j.length<=sizeLine/\Q (.str (i++j)) H) (tOp (fun x y H Q=>∃ i j,x = .str i/\y = .str j/\i.length+j.length<=sizeLine/\Q (.str (i++j)) H) (tOp (fun x y H Q=>∃ i j,x = .str i/\y = .str j/\i.length+j.length<=sizeLine/\Q (.str (i++j)) H) (tC (.str "[")) (tVar 1)) (tCall spEscaped [] E0 (tCons (tFld K (tVar 0) "words") tNil))) (tC (.str "]("))) (tFld K (tVar 0) "name")) (tC (.str ")")) [some (V.ref a),some (vS (caretC s.cps.toList))] H1 R:=by
  intro H1 s1 R hR
  refine ⟨_,rfl,_,_,rfl,rfl,by show 1+(S (caretC s.cps.toList)).length<=_;rw[S_len,hs];omega,?_⟩
  rw[show Str.ofString "["++S (caretC s.cps.toList)=S ([91]++caretC s.cps.toList) from S_app [91] _]
  refine ⟨_,rfl,a,_,dx,_,_,rfl,s1 _ _ e,T.o_Link.cls,T.a_Linkw,rfl,s.cps.toList,by rw[eS];rfl,hsl,by omega,fun H2 s2=>?_⟩
  refine ⟨_,_,rfl,rfl,by rw[S_len,S_len,hs,List.length_append];show 1+_+_<=_;omega,?_⟩
  rw[S_app]
  refine ⟨_,_,rfl,rfl,by show (S ([91]++caretC s.cps.toList++guardC s.cps.toList)).length+2<=_;rw[S_len,hs,List.length_append,List.length_append];show 1+_+_+2<=_;omega,?_⟩
  rw[show S ([91]++caretC s.cps.toList++guardC s.cps.toList)++Str.ofString "]("=S ([91]++caretC s.cps.toList++guardC s.cps.toList++[93,40]) from S_app _ [93,40]]
  refine ⟨_,rfl,a,_,dx,_,_,rfl,(s1.trans s2) _ _ e,T.o_Link.cls,T.a_Linkn,rfl,?_⟩
  rw[eS]
  refine ⟨_,_,rfl,rfl,by rw[S_len (_++[93,40]),S_len n.cps.toList,hs,List.length_append,List.length_append,List.length_append];show 1+_+_+2+_<=_;omega,?_⟩
  rw[S_app]
  refine ⟨_,_,rfl,rfl,by show (S ([91]++caretC s.cps.toList++guardC s.cps.toList++[93,40]++n.cps.toList)).length+1<=_;rw[S_len,hs,List.length_append,List.length_append,List.length_append,List.length_append];show 1+_+_+2+_+1<=_;omega,?_⟩
  rw[show S ([91]++caretC s.cps.toList++guardC s.cps.toList++[93,40]++n.cps.toList)++Str.ofString ")"=S ([91]++caretC s.cps.toList++guardC s.cps.toList++[93,40]++n.cps.toList++[41]) from S_app _ [41]]
  exact hR H2 (s1.trans s2)
 refine ⟨_,rfl,a,_,dx,_,_,rfl,e,T.o_Link.cls,T.a_Linkw,rfl,rfl,s,_,rfl,rfl,by rw[strLen,hs];omega,_,rfl,?_⟩
 have hst:Txt.startswith s (Str.ofString "^")=decide (s.cps.toList.head? = some 94):=by
  have h1:Txt.startswith (S s.cps.toList) (S [94])=([94]:List Nat).isPrefixOf s.cps.toList:=starts_S _ _
  rw[S_of] at h1
  refine h1.trans ?_
  cases s.cps.toList with
  |nil=>rfl
  |cons x r=>
   rw[Bool.eq_iff_iff]
   simp[List.isPrefixOf]
   exact eq_comm
 rw[hst]
 by_cases z:s.cps.toList.head? = some 94
 ·have ec:caretC s.cps.toList=[92]:=if_pos z
  rw[decide_eq_true z]
  refine iteT ?_
  have:=rest H (Same.refl H) _ q
  rw[ec] at this
  exact this
 ·have ec:caretC s.cps.toList=[]:=if_neg z
  rw[decide_eq_false z]
  refine iteF ?_
  have:=rest H (Same.refl H) _ q
  rw[ec] at this
  exact this
abbrev sRawOf:Stmt:=top 10
theorem scRawOf:FnScope ["parts","texts","behind_mark","part","text"] ["parts"] (defScope sRawOf):=⟨rfl,rfl,rfl,by decide +kernel,rfl,by decide +kernel,by decide +kernel⟩
theorem ok_rawOf {f:Addr} {fd:FuncData} {k:Nat} {R:PC->Prop} (F:Fun K "raw_of" "raw_of" sRawOf f fd) (T:TxR K mg c BT) (hM:RawV P w K mg base k c R):FnOk P w K mg base CX0 (k+1) f fd ["parts"] (spRaws c R):=by
 have sc:=scRawOf
 refine F.ok sc (fun vs H Q E h=>?_) (fun cdv A outer s H vs Q E hr h=>?_)
 ·obtain ⟨l,as,ps,rfl,_⟩:=h
  rfl
 obtain ⟨l,as,ps,rfl,el,hps,hR,hal,hl,q⟩:=h
 refine of_XB (xbc (xset (i:=1) sc.nd rfl (Or.inl rfl) (xlst xa0))
  (xbc (xset (i:=2) sc.nd rfl (Or.inl rfl) xbl)
  (xbc (xfor PassesOwn.never rfl (xil (xv 0)) (xgn (i:=3) sc.nd rfl (Or.inl rfl))
  (xbc (xset (i:=4) sc.nd rfl (Or.inl rfl) (xmV0 (k:=k) (xv 3) (hr.mono (by omega))))
  (xbc (xif (xand (xvalT (xv 2)) (xand1 (xvalT (xm PySem.F.plainAttrs_str PySem.F.slot_str_startswith PySem.F.type_str_startswith mt_startswith (xv 4) (xac xstr xa0))))).xt (xb1 (xset (i:=4) sc.nd rfl (Or.inl rfl) (xop op_add_str xstr (xv 4)))) xb0)
  (xbc (xexpr (xm PySem.F.plainAttrs_list PySem.F.slot_list_append PySem.F.type_list_append mt_append (xv 1) (xac (xv 4) xa0)))
  (xb1 (xset (i:=2) sc.nd rfl (Or.inl rfl) (xcB call_isC T.n_isinstance rfl (xac (xv 3) (xac (xgC T.c_Mark) xa0)))))))))
  (xb1 (xret (xm PySem.F.plainAttrs_str PySem.F.slot_str_join PySem.F.type_str_join mt_join xstr (xac (xv 1) xa0))))))) ?_
 have hs:sizeLine=16777216:=sizeLine_eq
 have hlen:=hps.len
 rw[show start ["parts","texts","behind_mark","part","text"] [V.ref l]=[some (.ref l),none,none,none,none] from rfl]
 refine ⟨big (show (0:Nat)<=1000000 by decide),fun tl htl=>?_⟩
 have s1:=same_new htl (.lst [])
 have e1:upd H tl (.lst []) tl=some (.lst []):=upd_same
 dsimp only[gName,List.set_cons_succ,List.set_cons_zero]
 generalize upd H tl (.lst [])=H1 at s1 e1 ⊢
 refine s_asgC ?_
 dsimp only[List.set_cons_succ,List.set_cons_zero]
 refine ⟨_,rfl,l,rfl,⟨_,SqL.of (s1 _ _ el)⟩,?_⟩
 refine for_list (xs:=as.map V.ref) (fun i σ H'=>∃ (b:Bool) (ts:List (List Nat)) (x3 x4:Option V),σ=[some (.ref l),some (.ref tl),some (.bl b),x3,x4]/\Same H H'/\H' tl=some (.lst (ts.map vS))/\ts.length=i/\ts++rawsT b (ps.drop i)=rawsT false ps) ⟨false,[],none,none,rfl,s1,e1,rfl,rfl⟩ ?_ ?_ ?_
 ·rintro i σ H3 _ ⟨b,ts,x3,x4,_,s3,_⟩
  exact SqL.of (s3 _ _ el)
 ·rintro i x σ H3 hx ⟨b,ts,x3,x4,rfl,s3,e3,htl3,hrun⟩
  rw[List.getElem?_map] at hx
  cases hai:as[i]? with
  |none=>rw[hai] at hx;cases hx
  |some a=>
  rw[hai] at hx
  cases hx
  obtain ⟨p,hp1,hp2⟩:=hps.get hai
  have hpm:=List.mem_of_getElem? hp1
  have hpi:=List.getElem?_eq_some_iff.mp hp1
  have hpl:(rawP p).length<=100000:=Nat.le_trans (rawsT_mem (b:=false) hpm) hl
  rw[List.drop_eq_getElem_cons hpi.1,hpi.2] at hrun
  have hrun:ts++colonC b (rawP p)::rawsT (isNote p) (ps.drop (i+1))=rawsT false ps:=hrun
  have hcl:=colon_le b (rawP p)
  dsimp only[gName,List.set_cons_succ,List.set_cons_zero]
  obtain ⟨Cc,dx,fs,sp,e1',e2',V,hsp⟩:=hM p (hR p hpm) hpl H3 a (hp2.same s3)
  refine ⟨_,rfl,a,Cc,dx,fs,_,sp,rfl,e1',e2',V,hsp _ _ fun H4 s4=>?_⟩
  dsimp only[gName,List.set_cons_succ,List.set_cons_zero]
  have tS:Tells (tAnd (tB (tVar 2)) (tB (tBM K "str" (rS2 fun z y => .bl (Txt.startswith z y)) (tVar 4) (tCons (tC (.str ":")) tNil)))) [some (.ref l),some (.ref tl),some (.bl b),some (.ref a),some (vS (rawP p))] H4 (b&&([58]:List Nat).isPrefixOf (rawP p)):=t_and _ _ (t_bv (ev_v rfl)) fun _ H5 s5=>t_starts (rawP p) [58] (by omega) rfl (ev_v rfl)
  have hpre:([58]:List Nat).isPrefixOf (rawP p)=decide ((rawP p).head? = some 58):=by
   cases rawP p with
   |nil=>rfl
   |cons x r=>
    rw[Bool.eq_iff_iff]
    simp[List.isPrefixOf]
    exact eq_comm
  rw[hpre] at tS
  refine s_join (fun σ' H'=>σ'=[some (.ref l),some (.ref tl),some (.bl b),some (.ref a),some (vS (colonC b (rawP p)))]/\Same H4 H') (fun N hN=>?_) ?_
  ·by_cases z:(b&&decide ((rawP p).head? = some 58))=true
   ·refine s_if true (tS.eq z) (fun H5 s5 _=>?_) fun _ _ y=>Bool.noConfusion y
    refine ⟨_,rfl,_,_,rfl,rfl,by show 1+(S (rawP p)).length<=_;rw[S_len,hs];omega,?_⟩
    rw[show Str.ofString "\\"++S (rawP p)=S (92::rawP p) from S_app [92] _]
    dsimp only[gName,List.set_cons_succ,List.set_cons_zero]
    refine hN _ _ ⟨?_,s5⟩
    unfold colonC
    rw[if_pos z]
   ·have z:=Bool.eq_false_iff.mpr z
    refine s_if false (tS.eq z) (fun _ _ y=>Bool.noConfusion y) fun H5 s5 _=>?_
    refine hN _ _ ⟨?_,s5⟩
    unfold colonC
    rw[if_neg (by rw[z];simp)]
  ·rintro σ' H5 ⟨rfl,s5⟩
   have s35:=(s3.trans s4).trans s5
   have e5:=s5 _ _ (s4 _ _ e3)
   refine ⟨_,rfl, .inl ⟨rfl,_,SqL.of e5⟩,_,rfl,tl,_,_,rfl,rfl,e5,by rw[List.length_map,hs];have:=(List.getElem?_eq_some_iff.mp hai).1;omega,?_⟩
   obtain ⟨ty,hty,hkt⟩:=T.isMark (hp2.same s35)
   have hal2:a≠tl:=fun z=>by
    have:=s5 _ _ (s4 _ _ e1')
    rw[z,e5] at this
    cases this
   have htl0:H tl=none:=htl
   obtain ⟨ty2,hty2,hkt2⟩:=T.isMark (H:=upd H5 tl (.lst (ts.map vS++[vS (colonC b (rawP p))]))) (hp2.same (same_grow htl0 s35))
   refine ⟨_,rfl,_,_,_,_,rfl,hty2,hkt2,?_⟩
   dsimp only[gName,List.set_cons_succ,List.set_cons_zero]
   exact ⟨isNote p,ts++[colonC b (rawP p)],_,_,rfl,same_grow htl0 s35,by rw[upd_same,List.map_append];rfl,by rw[List.length_append,htl3];rfl,by rw[List.append_assoc];exact hrun⟩
 ·rintro σ H3 ⟨b,ts,x3,x4,rfl,s3,e3,htl3,hrun⟩
  rw[List.length_map,hlen,List.drop_length] at hrun
  have hts:ts=rawsT false ps:=by rw[<- hrun];exact (List.append_nil _).symm
  subst hts
  refine ⟨rfl,_,rfl,S [],tl,(rawsT false ps).map S,rfl,rfl,SqL.of (by rw[e3,List.map_map];rfl),fit_join _ (by rw[rawsT_flat];exact hl),?_⟩
  rw[joinT_S,glue_flat,rawsT_flat]
  exact q H3 s3
theorem ok_StrongRaw {f:Addr} {fd:FuncData} {k:Nat} (F:Fun K "raw" "Strong.raw" sStrongRaw f fd) (T:TxR K mg c BT) (D_raw_of:Def P w K mg base k "raw_of" ["parts"] (spRaws c R1)):FnOk P w K mg base CX0 (k+1) f fd ["self"] (spRaw c fun p=>∃ ps,p = .strong ps/\ps.length<=100000):=by
 have sc:=scStrongRaw
 refine F.ok sc (fun vs H Q E h=>?_) (fun cdv A outer s H vs Q E hr h=>?_)
 ·obtain ⟨a,p,rfl,_⟩:=h
  rfl
 obtain ⟨a,p,rfl,ha,⟨ps,rfl,hpl⟩,hl,q⟩:=h
 obtain ⟨dx,l,as,e,el,hps⟩:=ha
 refine of_XB (xb1 (xret (xop op_add_str (xop op_add_str xstr (xcD D_raw_of (hr.mono (by omega)) (xac (xfld (xv 0)) xa0))) xstr))) ?_
 have hs:sizeLine=16777216:=sizeLine_eq
 have hl:([42]++raws1 false ps++[42]).length<=100000:=hl
 rw[List.length_append,List.length_append] at hl
 simp only[List.length_cons,List.length_nil] at hl
 refine ⟨_,rfl,a,_,dx,_,_,rfl,e,T.o_Strong.cls,T.a_Strong,rfl,l,as,ps.map .one,rfl,el,hps.toC,fun p hp=>?_,by rw[hps.len];exact hpl,by rw[raws_one];omega,fun H1 s1=>?_⟩
 ·obtain ⟨x,hx,rfl⟩:=List.mem_map.mp hp
  unfold R1
  simp[one?]
 ·rw[raws_one]
  refine ⟨_,_,rfl,rfl,by show 1+(S (raws1 false ps)).length<=_;rw[S_len,hs];omega,?_⟩
  rw[show Str.ofString "*"++S (raws1 false ps)=S ([42]++raws1 false ps) from S_app [42] _]
  refine ⟨_,_,rfl,rfl,by show (S ([42]++raws1 false ps)).length+1<=_;rw[S_len,hs,List.length_append];show 1+_+1<=_;omega,?_⟩
  rw[show S ([42]++raws1 false ps)++Str.ofString "*"=S ([42]++raws1 false ps++[42]) from S_app _ [42]]
  exact q H1 s1
end
end K5
set_option Elab.async false
set_option linter.all false
set_option maxRecDepth 100000
set_option maxHeartbeats 2000000
namespace K5
open PySem L2 Lm Lw
section
variable {P:Program} {w:World} {K:PySem.W.Frag} {mg:Str->Option Value} {base:Heap} {c:Cp} {BT:Addr} {gl gn:Addr} {sf sg:List Nat->List Nat} {x1 x2:Str}
abbrev sPlainSaid:Stmt:=meth 3 3
abbrev sCodeSaid:Stmt:=meth 4 3
abbrev sStrongSaid:Stmt:=meth 5 3
abbrev sLinkSaid:Stmt:=meth 6 3
abbrev sMarkSaid:Stmt:=meth 7 3
theorem scPlainSaid:FnScope ["self","link","note"] ["self","link","note"] (defScope sPlainSaid):=⟨rfl,rfl,rfl,by decide +kernel,rfl,by decide +kernel,by decide +kernel⟩
theorem scCodeSaid:FnScope ["self","link","note"] ["self","link","note"] (defScope sCodeSaid):=⟨rfl,rfl,rfl,by decide +kernel,rfl,by decide +kernel,by decide +kernel⟩
theorem scStrongSaid:FnScope ["self","link","note"] ["self","link","note"] (defScope sStrongSaid):=⟨rfl,rfl,rfl,by decide +kernel,rfl,by decide +kernel,by decide +kernel⟩
theorem scLinkSaid:FnScope ["self","link","note"] ["self","link","note"] (defScope sLinkSaid):=⟨rfl,rfl,rfl,by decide +kernel,rfl,by decide +kernel,by decide +kernel⟩
theorem scMarkSaid:FnScope ["self","link","note"] ["self","link","note"] (defScope sMarkSaid):=⟨rfl,rfl,rfl,by decide +kernel,rfl,by decide +kernel,by decide +kernel⟩
theorem appLen (x y:Str):(x++y).length=x.length+y.length:=by rw[<- S_of x,<- S_of y,S_app,S_len,S_len,S_len,List.length_append]
theorem ok_PlainSaid {f:Addr} {fd:FuncData} (F:Fun K "said" "Plain.said" sPlainSaid f fd) (T:TxI K mg c BT):FnOk P w K mg base CX0 3 f fd ["self","link","note"] (spSaid c gl gn sf sg fun p=>∃ s,p = .one (.plain s)):=by
 have sc:=scPlainSaid
 refine F.ok sc (fun vs H Q E h=>?_) (fun cdv A outer s H vs Q E hr h=>?_)
 ·obtain ⟨a,p,rfl,_⟩:=h
  rfl
 obtain ⟨a,p,rfl,ha,⟨s,rfl⟩,_,hl,q⟩:=h
 obtain ⟨g,dx,e⟩:=ha
 refine of_XB (xb1 (xret (xfld (xv 0)))) ?_
 refine ⟨_,rfl,a,_,dx,_,_,rfl,e,T.o_Plain.cls,T.a_Plain,rfl,?_⟩
 have h:=q H (Same.refl H)
 rw[show vS (saidC sf sg (.one (.plain s)))=V.str s from congrArg V.str (S_of s)] at h
 exact h
theorem ok_CodeSaid {f:Addr} {fd:FuncData} (F:Fun K "said" "Code.said" sCodeSaid f fd) (T:TxI K mg c BT):FnOk P w K mg base CX0 3 f fd ["self","link","note"] (spSaid c gl gn sf sg fun p=>∃ s,p = .one (.code s)):=by
 have sc:=scCodeSaid
 refine F.ok sc (fun vs H Q E h=>?_) (fun cdv A outer s H vs Q E hr h=>?_)
 ·obtain ⟨a,p,rfl,_⟩:=h
  rfl
 obtain ⟨a,p,rfl,ha,⟨s,rfl⟩,_,hl,q⟩:=h
 obtain ⟨g,dx,e⟩:=ha
 refine of_XB (xb1 (xret (xop op_add_str (xop op_add_str xstr (xfld (xv 0))) xstr))) ?_
 have hl:([39]++s.cps.toList++[39]).length<=100000:=hl
 rw[List.length_append,List.length_append,<- strLen] at hl
 have h1:(("'":Str)).length=1:=rfl
 refine ⟨_,rfl,a,_,dx,_,_,rfl,e,T.o_Code.cls,T.a_Code,rfl,_,_,rfl,rfl,sz (by rw[h1];simp at hl;omega),_,_,rfl,rfl,sz (by rw[appLen,h1];simp at hl;omega),?_⟩
 have h:=q H (Same.refl H)
 have e3:vS (saidC sf sg (.one (.code s)))=V.str (("'":Str)++s++"'"):=by
  show V.str (S ([39]++s.cps.toList++[39]))=_
  rw[<- S_app,<- S_app,S_of]
  rfl
 rw[e3] at h
 exact h
theorem ok_MarkSaid {f:Addr} {fd:FuncData} (F:Fun K "said" "Mark.said" sMarkSaid f fd) (T:TxI K mg c BT) (hV:FnV P w K mg base 2 gn [x2] (spSay sg)):FnOk P w K mg base CX0 3 f fd ["self","link","note"] (spSaid c gl gn sf sg fun p=>∃ s,p = .one (.note s)):=by
 have sc:=scMarkSaid
 refine F.ok sc (fun vs H Q E h=>?_) (fun cdv A outer s H vs Q E hr h=>?_)
 ·obtain ⟨a,p,rfl,_⟩:=h
  rfl
 obtain ⟨a,p,rfl,ha,⟨s,rfl⟩,_,hl,q⟩:=h
 obtain ⟨g,dx,e⟩:=ha
 refine of_XB (xb1 (xret (xop op_add_str (xop op_add_str xstr (xcV (i:=2) (k:=2) rfl (Or.inl rfl) (hr.mono (by omega)) (xac (xfld (xv 0)) xa0))) xstr))) ?_
 have hl:([91]++sg s.cps.toList++[93]).length<=100000:=hl
 rw[List.length_append,List.length_append] at hl
 have h1:(("[":Str)).length=1:=rfl
 have h2:(("]":Str)).length=1:=rfl
 refine ⟨gn,_,_,rfl,hV,_,rfl,a,_,dx,_,_,rfl,e,T.o_Mark.cls,T.a_Mark,rfl,s.cps.toList,by show [V.str s]=[V.str (S _)];rw[S_of],by rw[<- strLen];exact g.2,fun H1 s1=>?_⟩
 refine ⟨_,_,rfl,rfl,sz (by rw[h1,S_len];simp at hl;omega),_,_,rfl,rfl,sz (by rw[appLen,h1,h2,S_len];simp at hl;omega),?_⟩
 have h:=q H1 s1
 have e3:vS (saidC sf sg (.one (.note s)))=V.str (("[":Str)++S (sg s.cps.toList)++"]"):=by
  show V.str (S ([91]++sg s.cps.toList++[93]))=_
  rw[<- S_app,<- S_app]
  rfl
 rw[e3] at h
 exact h
theorem ok_LinkSaid {f:Addr} {fd:FuncData} (F:Fun K "said" "Link.said" sLinkSaid f fd) (T:TxI K mg c BT) (hV:FnV P w K mg base 2 gl [x1] (spSay sf)):FnOk P w K mg base CX0 3 f fd ["self","link","note"] (spSaid c gl gn sf sg fun p=>∃ s n,p = .one (.link s n)):=by
 have sc:=scLinkSaid
 refine F.ok sc (fun vs H Q E h=>?_) (fun cdv A outer s H vs Q E hr h=>?_)
 ·obtain ⟨a,p,rfl,_⟩:=h
  rfl
 obtain ⟨a,p,rfl,ha,⟨s,n,rfl⟩,_,hl,q⟩:=h
 obtain ⟨g,g2,dx,e⟩:=ha
 refine of_XB (xb1 (xret (xop op_add_str (xop op_add_str (xop op_add_str (xfld (xv 0)) xstr) (xcV (i:=1) (k:=2) rfl (Or.inl rfl) (hr.mono (by omega)) (xac (xfld (xv 0)) xa0))) xstr))) ?_
 have hl:(s.cps.toList++[32,40]++sf n.cps.toList++[41]).length<=100000:=hl
 rw[List.length_append,List.length_append,List.length_append,<- strLen] at hl
 simp at hl
 have h1:((" (":Str)).length=2:=rfl
 have h2:((")":Str)).length=1:=rfl
 refine ⟨_,rfl,a,_,dx,_,_,rfl,e,T.o_Link.cls,T.a_Linkw,rfl,_,_,rfl,rfl,sz (by rw[h1];omega),?_⟩
 refine ⟨gl,_,_,rfl,hV,_,rfl,a,_,dx,_,_,rfl,e,T.o_Link.cls,T.a_Linkn,rfl,n.cps.toList,by show [V.str n]=[V.str (S _)];rw[S_of],by rw[<- strLen];exact g2.2,fun H1 s1=>?_⟩
 refine ⟨_,_,rfl,rfl,sz (by rw[appLen,h1,S_len (sf n.cps.toList)];omega),_,_,rfl,rfl,sz (by rw[appLen,appLen,h1,h2,S_len (sf n.cps.toList)];omega),?_⟩
 have h:=q H1 s1
 have e3:vS (saidC sf sg (.one (.link s n)))=V.str (s++" ("++S (sf n.cps.toList)++")"):=by
  show V.str (S (s.cps.toList++[32,40]++sf n.cps.toList++[41]))=_
  rw[<- S_app,<- S_app,<- S_app,S_of]
  rfl
 rw[e3] at h
 exact h
abbrev sSaids:Stmt:=top 11
theorem scSaids:FnScope ["parts","link","note"] ["parts","link","note"] (defScope sSaids):=⟨rfl,rfl,rfl,by decide +kernel,rfl,by decide +kernel,by decide +kernel⟩
theorem ok_saids {f:Addr} {fd:FuncData} {k:Nat} {R:PC->Prop} (F:Fun K "said_of" "said_of" sSaids f fd) (hf:SayOk sf) (hg:SayOk sg) (hM:SaidV P w K mg base k c gl gn sf sg R):FnOk P w K mg base CX0 (k+1) f fd ["parts","link","note"] (spSaids c gl gn sf sg R):=by
 have sc:=scSaids
 refine F.ok sc (fun vs H Q E h=>?_) (fun cdv A outer s H vs Q E hr h=>?_)
 ·obtain ⟨l,as,ps,rfl,_⟩:=h
  rfl
 obtain ⟨l,as,ps,rfl,el,hps,hR,hl,hz,q⟩:=h
 refine of_XB (xb1 (xret (xm PySem.F.plainAttrs_str PySem.F.slot_str_join PySem.F.type_str_join mt_join xstr (xac (xlc (cl:=[("note",s.heap.objs.size+2),("link",s.heap.objs.size+1)]) (own:=["part"]) (fr:=[1,2]) (N':=["part","link","note"]) rfl (compN (xs:=["link","note"]) ⟨rfl,⟨rfl,trivial⟩⟩ ⟨rfl,rfl, .inl rfl, .inl rfl,⟨rfl,rfl, .inl rfl, .inl rfl,trivial⟩⟩ (by decide +kernel)) (by decide +kernel) (by decide +kernel) (by with_unfolding_all rfl)
  (xil (xv 0))
  (fun _ _ _ _=>xgn (i:=0) (show (["part","link","note"]:List Str).Nodup by decide +kernel) rfl (Or.inl rfl)) (fun _ _ _ _=>xq0) (fun _ _ _ _=>(xmVC (k:=k) (xv 0) (hr.mono (by omega)) (xac (xv 1) (xac (xv 2) xa0))))) xa0)))) ?_
 have hlen:=hps.len
 refine ⟨rfl,_,rfl,l,rfl,⟨_,SqL.of el⟩,?_⟩
 refine lc_newD (fun i=>PyData.str (S (saidC sf sg (ps.getD i (.one (.note "")))))) (SqL.of el) (by rw[List.length_map];exact hl) ?_ ?_
 ·intro i x hx H2 s2 C N hC
  rw[List.getElem?_map] at hx
  cases hai:as[i]? with
  |none=>rw[hai] at hx;cases hx
  |some a=>
  rw[hai] at hx
  cases hx
  obtain ⟨p,hp1,hp2⟩:=hps.get hai
  have hmem:=List.mem_of_getElem? hp1
  have hpl:(saidC sf sg p).length<=100000:=Nat.le_trans (flat_le (List.mem_map_of_mem hmem)) hz
  obtain ⟨Cc,dx,fs,sp,e1,e2,V,hsp⟩:=hM p (hR p hmem).1 (hR p hmem).2 hpl H2 a (hp2.same s2)
  refine ⟨(nfLe.refl _ _ _).set (by decide) _,iteT (B:=N H2) ⟨_,rfl,a,Cc,dx,fs,_,sp,rfl,e1,e2,V,_,rfl,_,rfl,hsp _ _ fun H4 s4=>hC _ H4 s4 ?_⟩⟩
  rw[List.getD_eq_getElem?_getD,hp1]
  exact (strG_S (asc_saidC hf hg (hR p hmem).2) hpl).dn
 ·intro D H2 hD s2 dD
  rw[List.length_map,hlen,range_get ps _ fun p=>PyData.str (S (saidC sf sg p))] at dD
  obtain ⟨a',xs,ds,ev,ed,ea,hds,_⟩ |⟨_,h2⟩:=Dn.lstCase dD.out
  ·cases ev
   cases ed
   have hxs:xs=(ps.map (saidC sf sg)).map vS:=dn_strs (by rw[List.map_map];exact hds)
   subst hxs
   refine ⟨S [],_,(ps.map (saidC sf sg)).map S,rfl,rfl,SqL.of (by rw[ea,List.map_map,List.map_map,List.map_map];rfl),fit_join _ hz,?_⟩
   rw[joinT_S,glue_flat]
   exact q H2 s2
  ·exact absurd rfl (h2 _)
theorem ok_StrongSaid {f:Addr} {fd:FuncData} {k:Nat} (F:Fun K "said" "Strong.said" sStrongSaid f fd) (T:TxI K mg c BT) (D_said_of:Def P w K mg base k "said_of" ["parts","link","note"] (spSaids c gl gn sf sg R1)):FnOk P w K mg base CX0 (k+1) f fd ["self","link","note"] (spSaid c gl gn sf sg fun p=>∃ ps,p = .strong ps/\ps.length<=100000):=by
 have sc:=scStrongSaid
 refine F.ok sc (fun vs H Q E h=>?_) (fun cdv A outer s H vs Q E hr h=>?_)
 ·obtain ⟨a,p,rfl,_⟩:=h
  rfl
 obtain ⟨a,p,rfl,ha,⟨ps,rfl,hpl⟩,hasc,hl,q⟩:=h
 obtain ⟨dx,l,as,e,el,hps⟩:=ha
 refine of_XB (xb1 (xret (xop op_add_str (xop op_add_str xstr (xcD D_said_of (hr.mono (by omega)) (xac (xfld (xv 0)) (xac (xv 1) (xac (xv 2) xa0))))) xstr))) ?_
 have hl:([42]++(ps.map (said1 sf sg)).flatten++[42]).length<=100000:=hl
 rw[List.length_append,List.length_append] at hl
 simp only[List.length_cons,List.length_nil] at hl
 have em:(ps.map PC.one).map (saidC sf sg)=ps.map (said1 sf sg):=by rw[List.map_map];rfl
 have h1:(("*":Str)).length=1:=rfl
 refine ⟨_,rfl,a,_,dx,_,_,rfl,e,T.o_Strong.cls,T.a_Strong,rfl,_,rfl,_,rfl,l,as,ps.map .one,rfl,el,hps.toC,fun p hp=>?_,by rw[hps.len];exact hpl,by rw[em];omega,fun H1 s1=>?_⟩
 ·obtain ⟨x,hx,rfl⟩:=List.mem_map.mp hp
  exact ⟨by unfold R1;simp[one?],hasc x hx⟩
 ·rw[em]
  refine ⟨_,_,rfl,rfl,sz (by rw[h1,S_len];omega),_,_,rfl,rfl,sz (by rw[appLen,h1,S_len];omega),?_⟩
  have h:=q H1 s1
  have e3:vS (saidC sf sg (.strong ps))=V.str (("*":Str)++S ((ps.map (said1 sf sg)).flatten)++"*"):=by
   show V.str (S ([42]++(ps.map (said1 sf sg)).flatten++[42]))=_
   rw[<- S_app,<- S_app]
   rfl
  rw[e3] at h
  exact h
end
end K5
set_option Elab.async false
set_option linter.all false
set_option maxRecDepth 100000
namespace L2
open PySem PySem.Spec PyProof.Rows
structure BaseY (K:PySem.W.Frag) (mg:Str->Option Value) (b₀:Heap) (D:List Clo) (base:Heap):Prop where
 kin:K.In base
 glob:base.Ns mainGlobals mg
 old:∀ b o,b₀.get? b=some o->base.get? b=some o
 fn:∀ d∈D,base.get? d.g=some d.obj
 cd:∀ d∈D,base.CodeRec (.ref d.c) d.qual
theorem closL_none {env:Env}:∀ {l:List (Str×NameKind)} {acc:List (Str×Addr)},(∀ y∈l,y.2≠NameKind.free)->closL env l acc=acc
 | [],_,_=>rfl
 |(n,k)::r,acc,h=>by
  unfold closL
  rw[if_neg fun z=>h _ List.mem_cons_self (eq_of_beq z)]
  exact closL_none fun y hy=>h y (List.mem_cons_of_mem _ hy)
theorem cells0 {base:Heap} {env:Env} {sc:Scope} (h:∀ y∈sc.names,y.2≠NameKind.free):CloCells base (closL env sc.names []) sc [] []:=by
 rw[closL_none h]
 exact ⟨(fun _ _ z=>nomatch z),(fun _ _ _ z=>nomatch z),fun x hx=>absurd rfl (h _ (PySem.mem_of_lookup hx)),rfl,fun i _ _ z=>by simp at z⟩
section
variable {X:Cx} {pins:List (Addr×Obj)} {σ:St} {H:Hp} {s:Shared} {D:List Clo}
def InY (X:Cx) (D:List Clo) (b:Addr):Prop:=X.base.get? b≠none ∨ b∈adrs D
noncomputable def baseY (X:Cx) (D:List Clo) (h:Heap):Heap:=PySem.W.hideAll h ((List.range h.objs.size).filter fun b=>@decide (¬ InY X D b) (Classical.propDecidable _))
theorem mem_hidY {n:Nat} {b:Addr}:b∈(List.range n).filter (fun b=>@decide (¬ InY X D b) (Classical.propDecidable _)) ↔ b < n/\¬ InY X D b:=by
 rw[List.mem_filter,List.mem_range]
 exact and_congr Iff.rfl (@decide_eq_true_iff _ (Classical.propDecidable _))
theorem baseY_get {h:Heap} {b:Addr} {o:Obj} (e:h.get? b=some o) (p:InY X D b):(baseY X D h).get? b=some o:=
 PySem.W.hideAll_get _ e fun z=>(mem_hidY.mp z).2 p
theorem of_baseY {h:Heap} {b:Addr} {o:Obj} (e:(baseY X D h).get? b=some o):h.get? b=some o/\InY X D b:=by
 have e1:=PySem.W.of_hideAll _ e
 refine ⟨e1,Classical.byContradiction fun n=>?_⟩
 have:=PySem.W.hideAll_none (h:=h) _ (mem_hidY.mpr ⟨Heap.lt_size e1,n⟩)
 unfold baseY at e
 rw[this] at e;cases e
theorem Inv.baseY_ok (I:Inv X pins σ H s) (hD:∀ d∈D,CloOk H d):BaseY X.K X.mg X.base D (baseY X D s.heap):=by
 have old:∀ b o,X.base.get? b=some o->(baseY X D s.heap).get? b=some o:=fun b o e=>baseY_get (I.bk b o e) (.inl (by rw[e];simp))
 refine ⟨I.mod.kin.keeps old,I.mod.glob.keeps old,old,fun d hd=>?_,fun d hd=>?_⟩
 ·obtain ⟨z,_⟩:=I.hok d.g _ (hD d hd).1
  exact baseY_get z (.inr (mem_adrs.mpr ⟨d,hd, .inl rfl⟩))
 ·obtain ⟨⟨c,o,vs,t,e,z,r⟩,_⟩:=I.hok d.c _ (hD d hd).2.1
  have e':d.c=c:=by cases e;rfl
  exact ⟨c,o,vs,t,e,baseY_get z (.inr (mem_adrs.mpr ⟨d,hd, .inr (.inl e'.symm)⟩)),r⟩
theorem Inv.env0Y (I:Inv X pins σ H s) (hD:∀ d∈D,CloOk H d):Env0 X.prog X.w X.K X.mg (baseY X D s.heap) X.A X.stack s (drop H D):=by
 have B:=I.baseY_ok hD
 have dn:∀ b,H b=none->drop H D b=none:=fun b e=>by unfold drop;split;rfl;exact e
 have frN:∀ b∈frs X.stack,(baseY X D s.heap).get? b=none:=fun b hb=>by
  cases q:(baseY X D s.heap).get? b with
  |none=>rfl
  |some o=>
   obtain ⟨e,p⟩:=of_baseY q
   rcases p with p |p
   ·exact absurd (I.stack.mem hb).1 p
   ·obtain ⟨φ,z⟩:=clo_ext hD p
    rw[I.stkFree b hb] at z;cases z
 have fun':∀ l:List Env,(∀ b∈frs l,b∈frs X.stack)->s.heap.FunFrames X.base l->s.heap.FunFrames (baseY X D s.heap) l:=by
  intro l
  induction l with
  |nil=>intro _ _;trivial
  |cons env r ih=>
   intro hs hl
   obtain ⟨hk,⟨L,o,hf,hn,ho,hd⟩,hr⟩:=hl
   have hL:L∈frs X.stack:=hs L (by unfold frs;rw[List.filterMap_cons,hf];exact List.mem_cons_self)
   exact ⟨hk,⟨L,o,hf,frN L hL,ho,hd⟩,ih (fun b hb=>hs b (by unfold frs;rw[List.filterMap_cons,hf];exact List.mem_cons_of_mem _ hb)) hr⟩
 refine ⟨I.ok.frames,⟨B.kin,B.glob,?_,I.mod.nolimit.keeps B.old⟩,fun b o e=>?_,Nat.le_of_eq (PySem.W.hideAll_size _ _),fun' X.stack (fun _ h=>h) I.stack,fun b hb=>dn b (I.stkFree b hb),fun b o e=>?_,I.bare,I.tk⟩
 ·obtain ⟨mb,h1,h2⟩:=I.mod.blt
  exact ⟨mb,h1.keeps B.old,h2⟩
 ·obtain ⟨e1,p⟩:=of_baseY e
  refine ⟨e1,?_⟩
  rcases p with p |p
  ·cases q:X.base.get? b with
   |none=>exact absurd q p
   |some o'=>exact dn b (I.bs b o' q).2
  ·exact drop_in p
 ·by_cases hb:b∈adrs D
  ·rw[drop_in hb] at e;cases e
  ·rw[drop_ne hb] at e
   refine (I.hok b o e).stay (fun _ _ _ q=>q) (fun c q=>?_) fun c xs q=>?_
   ·rw[drop_ne (clo_out hD q fun φ z=>by cases z)];exact q
   ·rw[drop_ne (clo_out hD q fun φ z=>by cases z)];exact q
theorem run_fnY {k:Nat} {f:Addr} {fd:FuncData} {ps:List Str} {sp:Sp} {us:List Value} {vs:List V} {Q:VK} (I:Inv X pins σ H s) (hD:∀ d∈D,CloOk H d) (F:FnOk X.prog X.w X.K X.mg (baseY X D s.heap) CX0 k f fd ps sp) (hr:Room k X.A) (hb:Binds X.K fd ps []) (r:Vals vs us)
  (q:sp vs (drop H D) (fun v H2=>(∀ b∈adrs D,H2 b=none)->Q v (back H D H2)) E0):wpAny (model X.prog X.w) X.A (call (.ref f) us) (EP X pins σ Q) X.xe s:=by
 have hl:(us++[]).length=ps.length:=by rw[List.append_nil,<- r.length];exact F.len _ _ _ _ q
 refine wpAny_call (codeAny_mono (F.run X.A X.stack s (drop H D) ⟨us,[]⟩ us vs _ E0 hr (I.env0Y hD) (by have:=hb s us I.kIn hl;rwa [List.append_nil] at this) r q) fun r s' hq=>?_)
 cases r with
 |error e=>exact False.elim hq
 |ok fl=>
  cases fl with
  |ret u=>exact I.afterX hD hq
  |next=>exact False.elim hq
  |brk=>exact False.elim hq
  |cont=>exact False.elim hq
end
def tCallY (X:Cx) (k:Nat) (x:Str) (ps:List Str) (t:TA):TE:=fun σ H Q=>t σ H fun vs H1=>∃ D sp,(∀ d∈D,CloOk H1 d)/\(∀ base,BaseY X.K X.mg X.base D base->Def X.prog X.w X.K X.mg base k x ps sp) ∧
 sp vs (drop H1 D) (fun v H2=>(∀ b∈adrs D,H2 b=none)->Q v (back H1 D H2)) E0
def tMethY (X:Cx) (k:Nat) (m:Str) (ta:TE) (t:TA):TE:=fun σ H Q=>ta σ H fun x H1=>∃ a C dx fs ps sp D,x = .ref a/\H1 a=some (.ins C dx fs)/\fs.lookup m=none/\(∀ d∈D,CloOk H1 d)/\(∀ base,BaseY X.K X.mg X.base D base->MethV X.prog X.w X.K X.mg base k C m ps sp) ∧
 t σ H1 fun vs H2=>(∀ d∈D,CloOk H2 d)/\sp (x::vs) (drop H2 D) (fun v H3=>(∀ b∈adrs D,H3 b=none)->Q v (back H2 D H3)) E0
section
variable {X:Cx} {k i:Nat} {x m:Str} {ps:List Str} {e o:Expr} {es:List Expr} {te ta:TE} {t:TA} {p pos apos:Pos}
theorem xcY (hm:∃ f,X.mg x=some (.ref f)/\PySem.W.keepIn X.K (.ref f)=true) (hr:Room k X.A) (ha:XA X (e::es) t) (hg:Gl X x:=by exact rfl) (hdb:(x==("__debug__":Str))=false:=by decide) (hst:noStars (e::es)=true:=by rfl):
  XE X (.Call (.Name x p) (e::es) [] pos) (tCallY X k x ps t):=by
 obtain ⟨f,hmf,hk⟩:=hm
 refine ⟨fun pins s σ H Q I h=>?_⟩
 refine wpAny_Call_Name_kw (ld_glob I hg hmf ?_ hdb)
 refine PySem.W.callWith_K (h₀:=X.base) I.ok.mod.kin hk (thn (ha.h pos pins s σ H _ I h) fun us s1 ⟨vs,H1,I1,r,D,sp,hD,hF,q⟩=>⟨I1.kIn,?_⟩) (star_cons (star_parts hst).1) (stars_any (star_parts hst).2)
 obtain ⟨f',fd,F,hm',_,hb⟩:=(hF _ (I1.baseY_ok hD)).ex
 have e':=hmf.symm.trans hm'
 cases e'
 exact run_fnY I1 hD F hr hb r q
theorem xmY {pl:Sem Bool} (he:XE X o ta) (hr:Room k X.A) (ha:XA X (e::es) t) (hst:noStars (e::es)=true:=by rfl)
  (ht : eval (.Call (.Attribute o m apos) (e :: es) [] pos) X.env = (do
   let ov ← eval o X.env
   standAt apos.atName
   let (f,first) ← holding [ov] (getMethod ov m pl)
   callWith pos f first (backTo pos (starEach (e::es) X.env)) (backToKw pos (keywordEach [] X.env))):=by rfl):
  XE X (.Call (.Attribute o m apos) (e::es) [] pos) (tMethY X k m ta t):=by
 refine ⟨fun pins s σ H Q I h=>?_⟩
 refine PySem.W.methodCall_KW (pl:=pl) (thn (he.h pins s σ H _ I h) fun u s1 ⟨x,H1,I1,rx,a,C,dx,fs,ps,sp,D,ex,ea,l,hD,V,q⟩=>?_) ht
 subst ex
 obtain rfl:u=Value.ref a:=rx
 obtain ⟨f,fd,c,hm,_,_⟩:=(V _ (I1.baseY_ok hD)).ex
 refine getmeth_ok I1 ea c hm l ?_
 refine PySem.W.callWith_K (first:=[.ref a]) (h₀:=X.base) I.ok.mod.kin hm.kp (thn (ha.h pos pins s1 σ H1 _ I1 q) fun us s2 ⟨vs,H2,I2,r,hD2,q2⟩=>⟨I2.kIn,?_⟩) (star_cons (star_parts hst).1) (stars_any (star_parts hst).2)
 obtain ⟨f',fd',_,hm',F,hb⟩:=(V _ (I2.baseY_ok hD2)).ex
 have e':=hm.at_.symm.trans hm'.at_
 cases e'
 exact run_fnY (us := .ref a::us) (vs := .ref a::vs) I2 hD2 F hr hb (.cons rfl r) q2
end
section
variable {X:Cx} {k:Nat} {scope:Scope} {cl:List (Str×Addr)} {C:Addr} {N':List Str} {fp:List Addr} {s:Shared} {H:Hp} {o e:Expr} {ta:TE} {t:TA} {m:Str} {apos pos:Pos} {es:List Expr}
theorem xmYC {pl:Sem Bool} (he:XE (compX X scope cl C N' fp s H) o ta) (hr:Room k X.A) (ha:XA (compX X scope cl C N' fp s H) (e::es) t) (hst:noStars (e::es)=true:=by rfl)
  (ht : eval (.Call (.Attribute o m apos) (e :: es) [] pos) (compX X scope cl C N' fp s H).env = (do
   let ov ← eval o (compX X scope cl C N' fp s H).env
   standAt apos.atName
   let (f,first) ← holding [ov] (getMethod ov m pl)
   callWith pos f first (backTo pos (starEach (e::es) (compX X scope cl C N' fp s H).env)) (backToKw pos (keywordEach [] (compX X scope cl C N' fp s H).env))):=by rfl):
  XE (compX X scope cl C N' fp s H) (.Call (.Attribute o m apos) (e::es) [] pos) (tMethY X k m ta t):=xmY (X:=compX X scope cl C N' fp s H) (pl:=pl) he hr ha hst ht
end
end L2
set_option Elab.async false
set_option linter.all false
set_option maxRecDepth 100000
namespace L2
open PySem PySem.Spec PyProof.Rows
open Builtin Builtin.Str
section
variable {prog:Program} {w:World} {A:Around} {E:Value->Shared->Prop}
end
section
variable {X:Cx} {pos:Pos}
end
end L2
namespace Lm
open PySem PySem.Spec L2 Lw PyProof.Rows Builtin Builtin.Str
section
variable {X:Cx}
end
end Lm
set_option Elab.async false
set_option linter.all false
set_option maxRecDepth 100000
namespace Lw
open PySem L2 Lm
end Lw
set_option Elab.async false
set_option linter.all false
set_option maxRecDepth 100000
namespace Lw
open PySem L2 Lm
end Lw
set_option Elab.async false
set_option linter.all false
set_option maxRecDepth 100000
namespace Lw
open PySem L2 Lm
end Lw
set_option Elab.async false
set_option linter.all false
set_option maxRecDepth 100000
namespace Lw
open PySem L2 Lm
theorem name12 {n:List Nat} (h:isNameC n=true):n.length<=12:=by
 unfold isNameC at h
 rw[Bool.and_eq_true,Bool.and_eq_true] at h
 exact of_decide_eq_true h.1.2
theorem okSg_ne {x:Str} (h:okSg x=true):x.cps.toList≠[]:=fun z=>by
 unfold okSg at h
 rw[Bool.and_eq_true] at h
 have:x=S []:=by rw[<- S_of x,z]
 rw[this] at h
 exact absurd h.1 (by decide)
theorem okNm_of {n:Str} (h:okNm n=true):isNameC n.cps.toList=true/\smallC n.cps.toList=n.cps.toList:=by
 unfold okNm at h
 rw[Bool.and_eq_true] at h
 refine ⟨h.1,S_inj ?_⟩
 rw[of_decide_eq_true h.2,S_of]
theorem nm_one:∀ {p:P1},P1Ok p->Nm1 p
 | .plain _,h=>okSg_ne h.1
 | .code s,h=>by
  have h1:=h.1
  unfold okCd at h1
  rw[Bool.and_eq_true] at h1
  refine ⟨okSg_ne h1.1,fun z=>?_⟩
  have h2:=h1.2
  unfold hasS at h2
  rw[<- S_of s,show ("`":Str)=S [96] from rfl,contains_S] at h2
  rw[List.contains_iff_mem.mpr z] at h2
  cases h2
 | .link w n,h=>⟨okSg_ne h.1.1,okNm_of h.2.1⟩
 | .note n,h=>okNm_of h.1
theorem alt_adj:∀ {ps:List PC} {b:Bool},Alt b (ps.map PC.isPlain)->NoAdj b ps
 | [],_,_=>trivial
 |p::ps,b,⟨h1,h2⟩=>⟨by
   rw[Bool.eq_false_iff]
   intro z
   exact h1 (by rw[Bool.and_eq_true] at z;exact z),alt_adj h2⟩
theorem nm_of {ps:List PC} (h:∀ p∈ps,PCOk p) (k:Alt false (ps.map PC.isPlain)):NmL ps:=by
 refine ⟨fun p hp=>?_,alt_adj k⟩
 have:=h p hp
 cases p with
 |one p=>exact nm_one this
 |strong qs=>exact ⟨fun q hq=>nm_one (this.2.2.1 q hq),alt_adj (by rw[plain_one];exact this.2.2.2),this.1⟩
end Lw
set_option Elab.async false
set_option linter.all false
set_option maxRecDepth 100000
namespace Lw
open PySem L2 Lm
theorem guard_len (l:List Nat):(guardC l).length<=2 * l.length:=by
 unfold guardC
 induction l with
 |nil=>exact Nat.le_refl _
 |cons x l ih=>
  rw[List.flatMap_cons,List.length_append,List.length_cons]
  have:(grd x).length<=2:=by unfold grd;split <;> simp
  omega
theorem guard_asc {l:List Nat} (h:Asc l):Asc (guardC l):=fun c hc=>by
 obtain ⟨x,hx,hc⟩:=List.mem_flatMap.mp hc
 unfold grd at hc
 split at hc
 ·rcases List.mem_cons.mp hc with z |z
  ·omega
  ·rw[List.mem_singleton.mp z];exact h x hx
 ·rw[List.mem_singleton.mp hc];exact h x hx
theorem colon_len (b:Bool) (t:List Nat):(colonC b t).length<=t.length+1:=by
 unfold colonC
 split
 ·exact Nat.le_refl _
 ·omega
theorem colon_asc {b:Bool} {t:List Nat} (h:Asc t):Asc (colonC b t):=by
 unfold colonC
 split
 ·intro c hc
  rcases List.mem_cons.mp hc with z |z
  ·omega
  ·exact h c z
 ·exact h
theorem raw1_len (p:P1):(raw1 p).length<=2 * sz1 p:=by
 cases p with
 |plain s=>exact guard_len _
 |code s=>show ([96]++s.cps.toList++[96]).length<=2 * (s.cps.toList.length+2);rw[List.length_append,List.length_append];show 1+_+1<=_;omega
 |link w n=>
  show ([91]++caretC w.cps.toList++guardC w.cps.toList++[93,40]++n.cps.toList++[41]).length<=2 * (w.cps.toList.length+n.cps.toList.length+20)
  have h1:=guard_len w.cps.toList
  have h2:(caretC w.cps.toList).length<=1:=by unfold caretC;split <;> simp
  simp only[List.length_append,List.length_cons,List.length_nil]
  omega
 |note n=>show ([91,94]++n.cps.toList++[93]).length<=2 * (n.cps.toList.length+20);simp only[List.length_append,List.length_cons,List.length_nil];omega
theorem asc_mk (l:List Nat) (h:l.all (fun c=>decide (c < 128))=true):Asc l:=fun c hc=>of_decide_eq_true (List.all_eq_true.mp h c hc)
theorem raw1_asc {p:P1} (h:Ok1 p):Asc (raw1 p):=by
 cases p with
 |plain s=>exact guard_asc h.1
 |code s=>exact asc_app (asc_app (asc_mk _ rfl) h) (asc_mk _ rfl)
 |link w n=>
  have h2:Asc (caretC w.cps.toList):=by unfold caretC;split <;> exact asc_mk _ rfl
  exact asc_app (asc_app (asc_app (asc_app (asc_app (asc_mk _ rfl) h2) (guard_asc h.1)) (asc_mk _ rfl)) h.2) (asc_mk _ rfl)
 |note n=>exact asc_app (asc_app (asc_mk _ rfl) h) (asc_mk _ rfl)
theorem raws1_ok:∀ {b:Bool} {ps:List P1},(∀ p∈ps,Ok1 p)->(raws1 b ps).length<=3 * (ps.map sz1).sum/\Asc (raws1 b ps)
 |_,[],_=>⟨Nat.le_refl _,fun _ z=>nomatch z⟩
 |b,p::r,h=>by
  obtain ⟨i1,i2⟩:=raws1_ok (b:=isNote (.one p)) (ps:=r) fun q hq=>h q (List.mem_cons_of_mem _ hq)
  have hp:=h p List.mem_cons_self
  have h1:=raw1_len p
  have h2:=colon_len b (raw1 p)
  have h3:=sz_pos hp
  refine ⟨?_,asc_app (colon_asc (raw1_asc hp)) i2⟩
  show (colonC b (raw1 p)++raws1 _ r).length<=_
  rw[List.length_append,List.map_cons,List.sum_cons]
  omega
theorem rawP_ok {p:PC} (h:OkC p):(rawP p).length<=3 * szC p/\Asc (rawP p)/\1<=szC p:=by
 cases p with
 |one p=>
  have h1:=raw1_len p
  exact ⟨by show (raw1 p).length<=3 * sz1 p;omega,raw1_asc h,sz_pos h⟩
 |strong ps=>
  obtain ⟨i1,i2⟩:=raws1_ok (b:=false) h
  refine ⟨?_,asc_app (asc_app (asc_mk _ rfl) i2) (asc_mk _ rfl),by show 1<=_+2;omega⟩
  show ([42]++raws1 false ps++[42]).length<=3 * ((ps.map sz1).sum+2)
  rw[List.length_append,List.length_append]
  show 1+_+1<=_
  omega
theorem raws_ok:∀ {b:Bool} {D:List PC},(∀ p∈D,OkC p)->(raws b D).length<=4 * (D.map szC).sum/\Asc (raws b D)
 |_,[],_=>⟨Nat.le_refl _,fun _ z=>nomatch z⟩
 |b,p::r,h=>by
  obtain ⟨i1,i2⟩:=raws_ok (b:=isNote p) (D:=r) fun q hq=>h q (List.mem_cons_of_mem _ hq)
  obtain ⟨h1,h2,h3⟩:=rawP_ok (h p List.mem_cons_self)
  have h4:=colon_len b (rawP p)
  refine ⟨?_,asc_app (colon_asc h2) i2⟩
  show (colonC b (rawP p)++raws _ r).length<=_
  rw[List.length_append,List.map_cons,List.sum_cons]
  omega
end Lw
set_option Elab.async false
set_option linter.all false
set_option maxRecDepth 100000
set_option maxHeartbeats 4000000
namespace K5
open PySem L2 Lm Lw PySem.Builtin.Int
theorem told2 {G:Hp} {v:V} {k s:Str} (h:Dn G v (.tuple [.str k, .str s])):∃ a,v = .ref a/\G a=some (.tup [.str k, .str s]):=by
 cases h with |tup e r=>cases r with |cons a r=>cases r with |cons b r=>cases r;cases a;cases b;exact ⟨_,rfl,e⟩
theorem told3 {G:Hp} {v:V} {k s n:Str} (h:Dn G v (.tuple [.str k, .str s, .str n])):∃ a,v = .ref a/\G a=some (.tup [.str k, .str s, .str n]):=by
 cases h with |tup e r=>cases r with |cons a r=>cases r with |cons b r=>cases r with |cons c r=>cases r;cases a;cases b;cases c;exact ⟨_,rfl,e⟩
theorem toldS {G:Hp} {v:V} {k:Str} {d:PyData} (h:Dn G v (.tuple [.str k,d])):∃ a y,v = .ref a/\G a=some (.tup [.str k,y])/\Dn G y d:=by
 cases h with |tup e r=>cases r with |cons a r=>cases r with |cons b r=>cases r;cases a;exact ⟨_,_,rfl,e,b⟩
theorem s_five {tk:TE} {A B C D E:TS} {X:Ends} {σ:St} {H:Hp} (p:PC) (ev:∀ H',Same H H'->Ev tk σ H' (.str (kdP p))) (h:∀ H',Same H H'->(match p with | .one (.plain _)=>A | .one (.code _)=>B | .strong _=>C | .one (.link _ _)=>D | .one (.note _)=>E) X σ H'):
  tIfS (tTest (tOp rEq tk (tC (.str "plain")))) A (tIfS (tTest (tOp rEq tk (tC (.str "code")))) B (tIfS (tTest (tOp rEq tk (tC (.str "strong")))) C (tIfS (tTest (tOp rEq tk (tC (.str "link")))) D E))) X σ H:=by
 obtain ⟨a,b,c,d,e,f,g,i,j,l⟩:=kinds
 have q:∀ H',Same H H'->∀ y:Str,Tells (tTest (tOp rEq tk (tC (.str y)))) σ H' (decide (kdP p=y)):=fun H' s' y=>t_eqS (ev H' s') ev_c
 refine s_if _ (q H (Same.refl H) _) (fun H1 s1 z=>?_) fun H1 s1 n1=>s_if _ (q H1 s1 _) (fun H2 s2 z=>?_) fun H2 s2 n2=>s_if _ (q H2 (s1.trans s2) _) (fun H3 s3 z=>?_) fun H3 s3 n3=>s_if _ (q H3 ((s1.trans s2).trans s3) _) (fun H4 s4 z=>?_) fun H4 s4 n4=>?_
 ·have z:kdP p=kPlain:=of_decide_eq_true z
  match p,z,h with
  | .one (.plain _),_,h=>exact h _ s1
  | .one (.code _),z,_=>exact absurd z.symm a
  | .strong _,z,_=>exact absurd z.symm c
  | .one (.link _ _),z,_=>exact absurd z.symm g
  | .one (.note _),z,_=>exact absurd z.symm b
 ·have z:kdP p=kCode:=of_decide_eq_true z
  match p,z,h with
  | .one (.plain _),z,_=>exact absurd z a
  | .one (.code _),_,h=>exact h _ (s1.trans s2)
  | .strong _,z,_=>exact absurd z.symm e
  | .one (.link _ _),z,_=>exact absurd z.symm i
  | .one (.note _),z,_=>exact absurd z.symm d
 ·have z:kdP p=kStrong:=of_decide_eq_true z
  match p,z,h with
  | .one (.plain _),z,_=>exact absurd z c
  | .one (.code _),z,_=>exact absurd z e
  | .strong _,_,h=>exact h _ ((s1.trans s2).trans s3)
  | .one (.link _ _),z,_=>exact absurd z.symm l
  | .one (.note _),z,_=>exact absurd z f
 ·have z:kdP p=kLink:=of_decide_eq_true z
  match p,z,h with
  | .one (.plain _),z,_=>exact absurd z g
  | .one (.code _),z,_=>exact absurd z i
  | .strong _,z,_=>exact absurd z l
  | .one (.link _ _),_,h=>exact h _ (((s1.trans s2).trans s3).trans s4)
  | .one (.note _),z,_=>exact absurd z j
 ·have n1:kdP p≠kPlain:=of_decide_eq_false n1
  have n2:kdP p≠kCode:=of_decide_eq_false n2
  have n3:kdP p≠kStrong:=of_decide_eq_false n3
  have n4:kdP p≠kLink:=of_decide_eq_false n4
  match p,n1,n2,n3,n4,h with
  | .one (.plain _),z,_,_,_,_=>exact absurd rfl z
  | .one (.code _),_,z,_,_,_=>exact absurd rfl z
  | .strong _,_,_,z,_,_=>exact absurd rfl z
  | .one (.link _ _),_,_,_,z,_=>exact absurd rfl z
  | .one (.note _),_,_,_,_,h=>exact h _ (((s1.trans s2).trans s3).trans s4)
section
variable {P:Program} {w:World} {K:PySem.W.Frag} {mg:Str->Option Value} {base:Heap}
abbrev sGuarded:Stmt:=top 53
theorem scGuarded:FnScope ["_law_signs_here","_law_found","_law_sign"] ["_law_signs_here"] (defScope sGuarded):=⟨rfl,rfl,rfl,by decide +kernel,rfl,by decide +kernel,by decide +kernel⟩
def spGuarded:Sp:=fun vs H Q _=>∃ l:List Nat,vs=[vS l]/\l.length<=100000/\∀ H',Same H H'->Q (vS (guardC l)) H'
theorem ok_guarded {f:Addr} {fd:FuncData} (F:Fun K "_law_guarded" "_law_guarded" sGuarded f fd):FnOk P w K mg base CX0 1 f fd ["_law_signs_here"] spGuarded:=by
 have sc:=scGuarded
 refine F.ok sc (fun vs H Q E h=>?_) (fun cdv A outer s H vs Q E hr h=>?_)
 ·obtain ⟨l,rfl,_⟩:=h
  rfl
 obtain ⟨l,rfl,hl,q⟩:=h
 refine of_XB (xbc (xset (i:=1) sc.nd rfl (Or.inl rfl) xstr)
  (xbc (xfor PassesOwn.never rfl (xis (xv 0)) (xgn (i:=2) sc.nd rfl (Or.inl rfl))
  (xbc (xif (xcmpT op_in_str (xv 2) xstr (by with_unfolding_all rfl)) (xb1 (xset (i:=1) sc.nd rfl (Or.inl rfl) (xop op_add_str (xv 1) xstr))) xb0)
  (xb1 (xset (i:=1) sc.nd rfl (Or.inl rfl) (xop op_add_str (xv 1) (xv 2))))))
  (xb1 (xret (xv 1))))) ?_
 rw[show start ["_law_signs_here","_law_found","_law_sign"] [vS l]=[some (vS l),none,none] from rfl]
 refine s_asgC ?_
 dsimp only[List.set_cons_succ,List.set_cons_zero]
 refine ⟨_,rfl,_,rfl,?_⟩
 refine for_str (z:=S l) (fun i σ H'=>∃ x2,σ=[some (vS l),some (vS (guardC (l.take i))),x2]/\Same H H') ⟨none,rfl,Same.refl _⟩ ?_ ?_
 ·rintro i c σ H3 hc ⟨x2,rfl,s3⟩
  rw[S_list] at hc
  have htk:guardC (l.take (i+1))=guardC (l.take i)++grd c:=by
   rw[List.take_add_one,hc]
   unfold guardC
   simp
  have h1:=guard_len (l.take i)
  have h2:(l.take i).length<=l.length:=by rw[List.length_take];omega
  rw[htk]
  generalize guardC (l.take i)=fd0 at h1 ⊢
  dsimp only[gName,List.set_cons_succ,List.set_cons_zero]
  refine s_if (escC.contains c) (fun R k=>⟨_,rfl,_,_,rfl,rfl,_,rfl,?_⟩) (fun H4 s4 z=>?_) fun H4 s4 z=>?_
  ·rw[show (!(Builtin.Str.occurrences (Str.ofString "\\*`[]") (S [c]) 0 (Str.ofString "\\*`[]").length 1).isEmpty)=escC.contains c from contains_S escC c]
   exact k _ (Same.refl _)
  ·refine ev_cat (a:=fd0) (b:=[92]) (ev_v rfl) (ev_lit rfl) (by show _+1<=_;omega) _ ?_
   dsimp only[gName,List.set_cons_succ,List.set_cons_zero]
   refine ev_cat (a:=fd0++[92]) (b:=[c]) (ev_v rfl) (ev_v rfl) (by rw[List.length_append];show _+1+1<=_;omega) _ ⟨some (vS [c]),?_,s3.trans s4⟩
   unfold grd
   rw[if_pos z,List.append_assoc]
   rfl
  ·unfold tNext
   dsimp only
   refine ev_cat (a:=fd0) (b:=[c]) (ev_v rfl) (ev_v rfl) (by show _+1<=_;omega) _ ⟨some (vS [c]),?_,s3.trans s4⟩
   unfold grd
   rw[if_neg (by rw[z];exact Bool.false_ne_true)]
   rfl
 ·rintro σ H3 ⟨x2,rfl,s3⟩
  rw[S_len,List.take_length]
  exact ⟨_,rfl,q H3 s3⟩
end
end K5
set_option Elab.async false
set_option linter.all false
set_option maxRecDepth 100000
set_option maxHeartbeats 4000000
namespace K5
open PySem L2 Lm Lw PySem.Builtin.Int
section
variable {P:Program} {w:World} {K:PySem.W.Frag} {mg:Str->Option Value} {base:Heap}
theorem S_ex (s:Str):∃ l,s=S l:=⟨_,(S_of s).symm⟩
theorem told_get {H:Hp} {xs:List V} {ps:List PC} {i:Nat} {x:V} (da:DnAll H xs (ps.map dP)) (hx:xs[i]? = some x):∃ p,ps[i]? = some p/\ps.drop i=p::ps.drop (i+1)/\Dn H x (dP p):=by
 obtain ⟨hil,_⟩:=List.getElem?_eq_some_iff.mp hx
 have hl:=da.len
 rw[List.length_map] at hl
 have hi:i < ps.length:=by omega
 refine ⟨ps[i],List.getElem?_eq_getElem hi,List.drop_eq_getElem_cons hi,?_⟩
 obtain ⟨v,h1,h2⟩:=da.get (i:=i) (d:=dP ps[i]) (by rw[List.getElem?_map,List.getElem?_eq_getElem hi];rfl)
 rw[hx] at h1
 cases h1
 exact h2
theorem told_in {H:Hp} {v:V} {p:PC} (h:Dn H v (dP p)):∃ a ys,v = .ref a/\H a=some (.tup (.str (kdP p)::ys)):=by
 match p,h with
 | .one (.plain _),h=>obtain ⟨a,e,k⟩:=told2 h;exact ⟨a,_,e,k⟩
 | .one (.code _),h=>obtain ⟨a,e,k⟩:=told2 h;exact ⟨a,_,e,k⟩
 | .one (.link _ _),h=>obtain ⟨a,e,k⟩:=told3 h;exact ⟨a,_,e,k⟩
 | .one (.note _),h=>obtain ⟨a,e,k⟩:=told2 h;exact ⟨a,_,e,k⟩
 | .strong _,h=>obtain ⟨a,y,e,k,_⟩:=toldS h;exact ⟨a,_,e,k⟩
abbrev sLSaid:Stmt:=top 55
theorem scLSaid:FnScope ["_law_due","_law_word","_law_found","_law_part_here"] ["_law_due","_law_word"] (defScope sLSaid):=⟨rfl,rfl,rfl,by decide +kernel,rfl,by decide +kernel,by decide +kernel⟩
abbrev sayL (wd:List Nat):List Nat->List Nat:=fun n=>wd++n
abbrev sayN (wd:List Nat):List Nat->List Nat:=fun n=>n++wd
def saids (wd:List Nat) (ps:List PC):List Nat:=(ps.map (saidC (sayL wd) (sayN wd))).flatten
def spLSaid (R:PC->Prop):Sp:=fun vs H Q _=>∃ (v:V) (ps:List PC) (wd:List Nat),vs=[v,vS wd]/\Dn H v (.list (ps.map dP))/\(∀ p∈ps,R p)/\(saids wd ps).length<=100000/\∀ H',Same H H'->Q (vS (saids wd ps)) H'
theorem ok_lsaid {f:Addr} {fd:FuncData} {k:Nat} {R:PC->Prop} {spI:Sp} (F:Fun K "_law_said" "_law_said" sLSaid f fd) (D_l_said:Def P w K mg base k "_law_said" ["_law_due","_law_word"] spI) (hI:∀ ps,R (.strong ps)->∀ vs H Q E,spLSaid R1 vs H Q E->spI vs H Q E):FnOk P w K mg base CX0 (k+1) f fd ["_law_due","_law_word"] (spLSaid R):=by
 have sc:=scLSaid
 refine F.ok sc (fun vs H Q E h=>?_) (fun cdv A outer s H vs Q E hr h=>?_)
 ·obtain ⟨v,ps,wd,rfl,_⟩:=h
  rfl
 obtain ⟨v,ps,wd,rfl,hd,hR,hsum,q⟩:=h
 refine of_XB (xbc (xset (i:=2) sc.nd rfl (Or.inl rfl) xstr)
  (xbc (xfor PassesOwn.never rfl (xil (xv 0)) (xgn (i:=3) sc.nd rfl (Or.inl rfl))
  (xb1 (xif (xcmpT op_eq (xix ix_tup (xv 3) xint (fun _ _=>rfl)) xstr (nomark _)) (xb1 (xset (i:=2) sc.nd rfl (Or.inl rfl) (xop op_add_str (xv 2) (xix ix_tup (xv 3) xint (fun _ _=>rfl))))) (xb1 (xif (xcmpT op_eq (xix ix_tup (xv 3) xint (fun _ _=>rfl)) xstr (nomark _)) (xb1 (xset (i:=2) sc.nd rfl (Or.inl rfl) (xop op_add_str (xop op_add_str (xop op_add_str (xv 2) xstr) (xix ix_tup (xv 3) xint (fun _ _=>rfl))) xstr))) (xb1 (xif (xcmpT op_eq (xix ix_tup (xv 3) xint (fun _ _=>rfl)) xstr (nomark _)) (xb1 (xset (i:=2) sc.nd rfl (Or.inl rfl) (xop op_add_str (xop op_add_str (xop op_add_str (xv 2) xstr) (xcD D_l_said (hr.mono (by omega)) (xac (xix ix_tup (xv 3) xint (fun _ _=>rfl)) (xac (xv 1) xa0)))) xstr))) (xb1 (xif (xcmpT op_eq (xix ix_tup (xv 3) xint (fun _ _=>rfl)) xstr (nomark _)) (xb1 (xset (i:=2) sc.nd rfl (Or.inl rfl) (xop op_add_str (xop op_add_str (xop op_add_str (xop op_add_str (xop op_add_str (xv 2) (xix ix_tup (xv 3) xint (fun _ _=>rfl))) xstr) (xv 1)) (xix ix_tup (xv 3) xint (fun _ _=>rfl))) xstr))) (xb1 (xset (i:=2) sc.nd rfl (Or.inl rfl) (xop op_add_str (xop op_add_str (xop op_add_str (xop op_add_str (xv 2) xstr) (xix ix_tup (xv 3) xint (fun _ _=>rfl))) (xv 1)) xstr))))))))))))
  (xb1 (xret (xv 2))))) ?_
 rw[show start ["_law_due","_law_word","_law_found","_law_part_here"] [v,vS wd]=[some v,some (vS wd),none,none] from rfl]
 obtain ⟨l,xs,ds,rfl,hds,el,da,hdl⟩ |⟨_,z⟩:=Dn.lstCase hd
 rotate_left
 ·exact absurd rfl (z _)
 cases hds
 have hxl:xs.length=ps.length:=by rw[da.len,List.length_map]
 refine s_asgC ?_
 dsimp only[List.set_cons_succ,List.set_cons_zero]
 refine ⟨_,rfl,l,rfl,⟨_,SqL.of el⟩,?_⟩
 refine for_list (xs:=xs) (fun i σ H'=>∃ fd0 x3,σ=[some (.ref l),some (vS wd),some (vS fd0),x3]/\Same H H'/\fd0++saids wd (ps.drop i)=saids wd ps) ⟨[],none,rfl,Same.refl _,rfl⟩ ?_ ?_ ?_
 ·rintro i σ H3 _ ⟨_,x1,_,s3,_⟩
  exact SqL.of (s3 _ _ el)
 ·rintro i x σ H3 hx ⟨fd0,x3,rfl,s3,hfd⟩
  obtain ⟨p,hp,hdr,hdx⟩:=told_get da hx
  rw[hdr] at hfd
  have hfd:fd0++(saidC (sayL wd) (sayN wd) p++saids wd (ps.drop (i+1)))=saids wd ps:=hfd
  have hlen:fd0.length+(saidC (sayL wd) (sayN wd) p).length<=100000:=by
   have:=congrArg List.length hfd
   rw[List.length_append,List.length_append] at this
   omega
  rw[<- List.append_assoc] at hfd
  have hRp:=hR p (List.mem_of_getElem? hp)
  obtain ⟨tb,ys,rfl,et⟩:=told_in hdx
  have et:=s3 _ _ et
  dsimp only[gName,List.set_cons_succ,List.set_cons_zero]
  have done:∀ (l2:List Nat) (H4:Hp),Same H3 H4->l2=fd0++saidC (sayL wd) (sayN wd) p->∃ fd1 x3,[some (V.ref l),some (vS wd),some (vS l2),some (V.ref tb)]=[some (.ref l),some (vS wd),some (vS fd1),x3]/\Same H H4/\fd1++saids wd (ps.drop (i+1))=saids wd ps:=fun l2 H4 s4 e=>⟨l2,_,rfl,s3.trans s4,by rw[e];exact hfd⟩
  refine s_five p (fun H' s'=>ev_ixT (ev_v rfl) ev_c (SqT.of (s' _ _ et)) (atI_nat (j:=0) rfl)) fun H4 s4=>?_
  have ev:∀ (j:Nat) (y:V),(V.str (kdP p)::ys)[j]? = some y->Ev (tOp (rIxT K) (tVar 3) (tC (.int j))) [some (.ref l),some (vS wd),some (vS fd0),some (.ref tb)] H4 y:=fun j y hj=>ev_ixT (ev_v rfl) ev_c (SqT.of (s4 _ _ et)) (atI_nat hj)
  match p,hdx,hRp,hlen,ev,et,done with
  | .one (.plain st),hdx,hRp,hlen,ev,et,done=>
   obtain ⟨_,e',e⟩:=told2 hdx
   cases e'
   cases (s3 _ _ e).symm.trans et
   obtain ⟨st,rfl⟩:=S_ex st
   have hlen:fd0.length+st.length<=100000:=hlen
   exact ev_cat (ev_v rfl) (ev 1 (vS st) rfl) (by omega) _ (done _ _ s4 rfl)
  | .one (.code st),hdx,hRp,hlen,ev,et,done=>
   obtain ⟨_,e',e⟩:=told2 hdx
   cases e'
   cases (s3 _ _ e).symm.trans et
   obtain ⟨st,rfl⟩:=S_ex st
   have hlen:fd0.length+([39]++st++[39]).length<=100000:=hlen
   simp only[List.length_append,List.length_cons,List.length_nil] at hlen
   exact ev_cat (ev_cat (ev_cat (ev_v rfl) (ev_lit (b:=[39]) rfl) (by simp;omega)) (ev 1 (vS st) rfl) (by simp;omega)) (ev_lit (b:=[39]) rfl) (by simp;omega) _ (done _ _ s4 (by show _=_++([39]++st++[39]);simp))
  | .strong qs,hdx,hRp,hlen,ev,et,done=>
   obtain ⟨_,vm,e',e,b⟩:=toldS hdx
   cases e'
   cases (s3 _ _ e).symm.trans et
   have hlen:fd0.length+([42]++(qs.map (said1 (sayL wd) (sayN wd))).flatten++[42]).length<=100000:=hlen
   simp only[List.length_append,List.length_cons,List.length_nil] at hlen
   have em:(qs.map PC.one).map dP=qs.map d1:=by rw[List.map_map];rfl
   have ex:saids wd (qs.map PC.one)=(qs.map (said1 (sayL wd) (sayN wd))).flatten:=by unfold saids;rw[List.map_map];rfl
   refine ⟨_,rfl,_,_,rfl,rfl,by show (S fd0).length+1<=_;rw[S_len,sizeLine_eq];omega,?_⟩
   rw[show S fd0++Str.ofString "*"=S (fd0++[42]) from S_app fd0 [42]]
   refine ev 1 _ rfl _ ?_
   refine ⟨_,rfl,hI qs hRp _ _ _ _ ⟨_,qs.map .one,wd,rfl,by rw[em];exact b.same (s3.trans s4),fun p hp=>?_,by rw[ex];omega,fun H7 s7=>?_⟩⟩
   ·obtain ⟨x,_,rfl⟩:=List.mem_map.mp hp
    unfold R1
    simp[one?]
   rw[ex]
   have done:=done (fd0++([42]++(qs.map (said1 (sayL wd) (sayN wd))).flatten++[42])) H7 (s4.trans s7) rfl
   generalize (qs.map (said1 (sayL wd) (sayN wd))).flatten=X at hlen done ⊢
   refine ⟨_,_,rfl,rfl,by rw[S_len,S_len,sizeLine_eq];simp;omega,_,_,rfl,rfl,by rw[S_app,S_len,sizeLine_eq];show _+1<=_;simp;omega,?_⟩
   rw[S_app (fd0++[42]) X,show S (fd0++[42]++X)++Str.ofString "*"=S (fd0++([42]++X++[42])) from (S_app _ [42]).trans (by simp)]
   exact done
  | .one (.link st nm),hdx,hRp,hlen,ev,et,done=>
   obtain ⟨_,e',e⟩:=told3 hdx
   cases e'
   cases (s3 _ _ e).symm.trans et
   obtain ⟨st,rfl⟩:=S_ex st
   obtain ⟨nm,rfl⟩:=S_ex nm
   have hlen:fd0.length+(st++[32,40]++(wd++nm)++[41]).length<=100000:=hlen
   simp only[List.length_append,List.length_cons,List.length_nil] at hlen
   exact ev_cat (ev_cat (ev_cat (ev_cat (ev_cat (ev_v rfl) (ev 1 (vS st) rfl) (by omega)) (ev_lit (b:=[32,40]) rfl) (by simp;omega)) (ev_v (v:=vS wd) rfl) (by simp;omega)) (ev 2 (vS nm) rfl) (by simp;omega)) (ev_lit (b:=[41]) rfl) (by simp;omega) _ (done _ _ s4 (by show _=_++(st++[32,40]++(wd++nm)++[41]);simp))
  | .one (.note nm),hdx,hRp,hlen,ev,et,done=>
   obtain ⟨_,e',e⟩:=told2 hdx
   cases e'
   cases (s3 _ _ e).symm.trans et
   obtain ⟨nm,rfl⟩:=S_ex nm
   have hlen:fd0.length+([91]++(nm++wd)++[93]).length<=100000:=hlen
   simp only[List.length_append,List.length_cons,List.length_nil] at hlen
   exact ev_cat (ev_cat (ev_cat (ev_cat (ev_v rfl) (ev_lit (b:=[91]) rfl) (by simp;omega)) (ev 1 (vS nm) rfl) (by simp;omega)) (ev_v (v:=vS wd) rfl) (by simp;omega)) (ev_lit (b:=[93]) rfl) (by simp;omega) _ (done _ _ s4 (by show _=_++([91]++(nm++wd)++[93]);simp))
 ·rintro σ H3 ⟨fd0,x1,rfl,s3,hfd⟩
  rw[hxl,List.drop_length] at hfd
  have hfd:fd0++[]=_:=hfd
  rw[List.append_nil] at hfd
  rw[hfd]
  exact ⟨_,rfl,q H3 s3⟩
end
end K5
set_option Elab.async false
set_option linter.all false
set_option maxRecDepth 100000
set_option maxHeartbeats 4000000
namespace K5
open PySem L2 Lm Lw PySem.Builtin.Int
theorem colon_no {b:Bool} {l:List Nat} {c:Nat} (hc:c≠58):colonC b (c::l)=c::l:=by
 unfold colonC
 rw[if_neg]
 rw[Bool.and_eq_true,decide_eq_true_eq]
 exact fun z=>hc (Option.some.inj z.2)
def bsl (b:Bool):List Nat:=if b then [92] else []
theorem colon_plain (b:Bool) (l:List Nat):colonC b (guardC l)=bsl (b&&([58]:List Nat).isPrefixOf l)++guardC l:=by
 unfold colonC bsl
 cases l with
 |nil=>cases b <;> rfl
 |cons c l=>
  rw[guard_head]
  have:decide (some (if escC.contains c=true then 92 else c)=some 58)=([58]:List Nat).isPrefixOf (c::l):=by
   rw[show ([58]:List Nat).isPrefixOf (c::l)=(58==c) from Bool.and_true _]
   by_cases h:c=58
   ·subst h;rfl
   ·rw[show (58==c)=false from beq_eq_false_iff_ne.mpr (Ne.symm h)]
    refine decide_eq_false fun z=>?_
    have:=Option.some.inj z
    split at this
    ·omega
    ·exact h this
  rw[this]
  split <;> rfl
theorem caret_pre (l:List Nat):caretC l=bsl (([94]:List Nat).isPrefixOf l):=by
 unfold caretC bsl
 cases l with
 |nil=>rfl
 |cons c l=>
  rw[show ([94]:List Nat).isPrefixOf (c::l)=(94==c) from Bool.and_true _]
  by_cases h:c=94
  ·subst h;rfl
  ·rw[if_neg (show ¬ (c::l).head? = some 94 from fun z=>h (Option.some.inj z)),if_neg (by rw[beq_iff_eq];exact Ne.symm h)]
theorem note_kd (p:PC):decide (kdP p=kNote)=isNote p:=by
 obtain ⟨a,b,c,d,e,f,g,i,j,l⟩:=kinds
 match p with
 | .one (.plain _)=>exact decide_eq_false b
 | .one (.code _)=>exact decide_eq_false d
 | .strong _=>exact decide_eq_false (Ne.symm f)
 | .one (.link _ _)=>exact decide_eq_false (Ne.symm j)
 | .one (.note _)=>exact decide_eq_true rfl
section
variable {K:PySem.W.Frag} {σ:St} {H:Hp} {ta tb:TE}
theorem ev_starts {y:Str} {l:List Nat} (z:List Nat) (hl:l.length<=1000000) (ey:y=S z) (he:Ev ta σ H (vS l)):Ev (tBM K "str" (rS2 fun z y => .bl (Txt.startswith z y)) ta (tCons (tC (.str y)) tNil)) σ H (.bl (z.isPrefixOf l)):=fun R r=>
 he _ ⟨rfl,_,_,rfl,rfl,bigS hl,by show R (.bl (Txt.startswith (S l) y)) H;rw[ey,starts_S];exact r⟩
theorem ev_and {a b:Bool} (h1:Ev ta σ H (.bl a)) (h2:Ev tb σ H (.bl b)):Ev (tAndV ta tb) σ H (.bl (a&&b)):=fun R r=>h1 _ ⟨a,rfl,by
 cases a with
 |true=>exact h2 _ r
 |false=>exact r⟩
theorem ev_eqS {x y:Str} (h1:Ev ta σ H (.str x)):Ev (tOp rEq ta (tC (.str y))) σ H (.bl (decide (x=y))):=fun R r=>h1 _ ⟨rfl,by
 rw[show decide (x=y)=decide (V.str x=V.str y) from decide_eq_decide.mpr ⟨congrArg V.str,V.str.inj⟩] at r
 exact r⟩
theorem cat_call {tx:TE} {a:List Nat} {x:V} {sp:Sp} {Q:VK} (h1:Ev ta σ H (vS a)) (hx:Ev tx σ H x) (h2:sp [x] H (fun y H2=>∃ i j,vS a = .str i/\y = .str j/\i.length+j.length<=sizeLine/\Q (.str (i++j)) H2) E0):tOp (fun x y H Q=>∃ i j,x = .str i/\y = .str j/\i.length+j.length<=sizeLine/\Q (.str (i++j)) H) ta (tCall sp [] E0 (tCons tx tNil)) σ H Q:=h1 _ (hx _ h2)
theorem ev_bsl {b:Bool} (h:Ev tb σ H (.bl b)):Ev (tOp (fun x y H Q=>∃ z n,x = .str z/\y = .int n/\z.length<=1000/\0<=n/\n<=1000/\Q (.str (Txt.mul z n)) H) (tC (.str "\\")) (tCB (fun xs H Q=>(∃ i,xs=[.int i]/\Q (.int i) H) ∨ ∃ k,xs=[.bl k]/\Q (.int (if k=true then 1 else 0)) H) (tCons tb tNil))) σ H (vS (bsl b)):=fun R r=>
 h _ (.inr ⟨b,rfl,_,_,rfl,rfl,by decide,by cases b <;> decide,by cases b <;> decide,by
  cases b
  ·exact (congrArg (fun z=>R (V.str z) H) (mul_S 92 0)).mpr r
  ·exact (congrArg (fun z=>R (V.str z) H) (mul_S 92 1)).mpr r⟩)
end
section
variable {P:Program} {w:World} {K:PySem.W.Frag} {mg:Str->Option Value} {base:Heap}
abbrev sLRaw:Stmt:=top 54
theorem scLRaw:FnScope ["_law_told","_law_found","_law_before","_law_part_here","_law_words"] ["_law_told"] (defScope sLRaw):=⟨rfl,rfl,rfl,by decide +kernel,rfl,by decide +kernel,by decide +kernel⟩
def spLRaw (R:PC->Prop):Sp:=fun vs H Q _=>∃ (v:V) (ps:List PC),vs=[v]/\Dn H v (.list (ps.map dP))/\(∀ p∈ps,R p)/\(raws false ps).length<=100000/\∀ H',Same H H'->Q (vS (raws false ps)) H'
theorem ok_lraw {f:Addr} {fd:FuncData} {k:Nat} {R:PC->Prop} {spI:Sp} (F:Fun K "_law_raw" "_law_raw" sLRaw f fd) (T:TxL mg) (D_l_guarded:Def P w K mg base 1 "_law_guarded" ["_law_signs_here"] spGuarded) (D_l_raw:Def P w K mg base k "_law_raw" ["_law_told"] spI) (hI:∀ ps,R (.strong ps)->∀ vs H Q E,spLRaw R1 vs H Q E->spI vs H Q E):FnOk P w K mg base CX0 (k+2) f fd ["_law_told"] (spLRaw R):=by
 have sc:=scLRaw
 refine F.ok sc (fun vs H Q E h=>?_) (fun cdv A outer s H vs Q E hr h=>?_)
 ·obtain ⟨v,ps,rfl,_⟩:=h
  rfl
 obtain ⟨v,ps,rfl,hd,hR,hsum,q⟩:=h
 refine of_XB (xbc (xset (i:=1) sc.nd rfl (Or.inl rfl) xstr)
  (xbc (xset (i:=2) sc.nd rfl (Or.inl rfl) xstr)
  (xbc (xfor PassesOwn.never rfl (xil (xv 0)) (xgn (i:=3) sc.nd rfl (Or.inl rfl))
  (xbc (xif (xcmpT op_eq (xix ix_tup (xv 3) xint (fun _ _ => rfl)) xstr (nomark _)) (xb1 (xset (i := 1) sc.nd rfl (Or.inl rfl) (xop op_add_str (xop op_add_str (xv 1) (xop op_mulS xstr (xcTy call_int1 T.n_int rfl (xac (xandV (xcmp op_eq (xv 2) xstr (nomark _)) (xone (xm PySem.F.plainAttrs_str PySem.F.slot_str_startswith PySem.F.type_str_startswith mt_startswith (xix ix_tup (xv 3) xint (fun _ _ => rfl)) (xac xstr xa0)))) xa0)))) (xcD D_l_guarded (hr.mono (by omega)) (xac (xix ix_tup (xv 3) xint (fun _ _ => rfl)) xa0))))) (xb1 (xif (xcmpT op_eq (xix ix_tup (xv 3) xint (fun _ _ => rfl)) xstr (nomark _)) (xb1 (xset (i := 1) sc.nd rfl (Or.inl rfl) (xop op_add_str (xop op_add_str (xop op_add_str (xv 1) xstr) (xix ix_tup (xv 3) xint (fun _ _ => rfl))) xstr))) (xb1 (xif (xcmpT op_eq (xix ix_tup (xv 3) xint (fun _ _ => rfl)) xstr (nomark _)) (xb1 (xset (i := 1) sc.nd rfl (Or.inl rfl) (xop op_add_str (xop op_add_str (xop op_add_str (xv 1) xstr) (xcD D_l_raw (hr.mono (by omega)) (xac (xix ix_tup (xv 3) xint (fun _ _ => rfl)) xa0))) xstr))) (xb1 (xif (xcmpT op_eq (xix ix_tup (xv 3) xint (fun _ _ => rfl)) xstr (nomark _)) (xbc (xset (i:=4) sc.nd rfl (Or.inl rfl) (xop op_add_str (xop op_mulS xstr (xcTy call_int1 T.n_int rfl (xac (xm PySem.F.plainAttrs_str PySem.F.slot_str_startswith PySem.F.type_str_startswith mt_startswith (xix ix_tup (xv 3) xint (fun _ _=>rfl)) (xac xstr xa0)) xa0))) (xcD D_l_guarded (hr.mono (by omega)) (xac (xix ix_tup (xv 3) xint (fun _ _=>rfl)) xa0))))
  (xb1 (xset (i:=1) sc.nd rfl (Or.inl rfl) (xop op_add_str (xop op_add_str (xop op_add_str (xop op_add_str (xop op_add_str (xv 1) xstr) (xv 4)) xstr) (xix ix_tup (xv 3) xint (fun _ _=>rfl))) xstr)))) (xb1 (xset (i:=1) sc.nd rfl (Or.inl rfl) (xop op_add_str (xop op_add_str (xop op_add_str (xv 1) xstr) (xix ix_tup (xv 3) xint (fun _ _=>rfl))) xstr))))))))))
  (xb1 (xset (i:=2) sc.nd rfl (Or.inl rfl) (xix ix_tup (xv 3) xint (fun _ _=>rfl))))))
  (xb1 (xret (xv 1)))))) ?_
 rw[show start ["_law_told","_law_found","_law_before","_law_part_here","_law_words"] [v]=[some v,none,none,none,none] from rfl]
 obtain ⟨l,xs,ds,rfl,hds,el,da,hdl⟩ |⟨_,z⟩:=Dn.lstCase hd
 rotate_left
 ·exact absurd rfl (z _)
 cases hds
 have hxl:xs.length=ps.length:=by rw[da.len,List.length_map]
 refine s_asgC (s_asgC ?_)
 dsimp only[List.set_cons_succ,List.set_cons_zero]
 refine ⟨_,rfl,l,rfl,⟨_,SqL.of el⟩,?_⟩
 refine for_list (xs:=xs) (fun i σ H'=>∃ fd0 b bs x3 x4,σ=[some (.ref l),some (vS fd0),some (.str bs),x3,x4]/\Same H H'/\decide (bs=kNote)=b/\fd0++raws b (ps.drop i)=raws false ps) ⟨[],false,_,none,none,rfl,Same.refl _,by decide +kernel,rfl⟩ ?_ ?_ ?_
 ·rintro i σ H3 _ ⟨_,_,_,_,_,_,s3,_⟩
  exact SqL.of (s3 _ _ el)
 ·rintro i x σ H3 hx ⟨fd0,b,bs,x3,x4,rfl,s3,hbs,hfd⟩
  obtain ⟨p,hp,hdr,hdx⟩:=told_get da hx
  rw[hdr] at hfd
  have hfd:fd0++(colonC b (rawP p)++raws (isNote p) (ps.drop (i+1)))=raws false ps:=hfd
  have hlen:fd0.length+(colonC b (rawP p)).length<=100000:=by
   have:=congrArg List.length hfd
   rw[List.length_append,List.length_append] at this
   omega
  rw[<- List.append_assoc] at hfd
  have hRp:=hR p (List.mem_of_getElem? hp)
  obtain ⟨tb,ys,rfl,et⟩:=told_in hdx
  have et:=s3 _ _ et
  dsimp only[gName,List.set_cons_succ,List.set_cons_zero]
  refine s_join (fun σ' H'=>∃ x4',σ'=[some (.ref l),some (vS (fd0++colonC b (rawP p))),some (.str bs),some (V.ref tb),x4']/\Same H3 H') (fun N hN=>?_) ?_
  ·refine s_five p (fun H' s'=>ev_ixT (ev_v rfl) ev_c (SqT.of (s' _ _ et)) (atI_nat (j:=0) rfl)) fun H4 s4=>?_
   have ev:∀ (j:Nat) (y:V) (H':Hp),Same H4 H'->(V.str (kdP p)::ys)[j]? = some y->Ev (tOp (rIxT K) (tVar 3) (tC (.int j))) [some (.ref l),some (vS fd0),some (.str bs),some (.ref tb),x4] H' y:=fun j y H' s' hj=>ev_ixT (ev_v rfl) ev_c (SqT.of ((s4.trans s') _ _ et)) (atI_nat hj)
   have done:∀ (l2:List Nat) (x:Option V) (H5:Hp),Same H4 H5->l2=fd0++colonC b (rawP p)->N [some (V.ref l),some (vS l2),some (.str bs),some (V.ref tb),x] H5:=fun l2 x H5 s5 e=>hN _ _ ⟨x,by rw[e],s4.trans s5⟩
   match p,hdx,hRp,hlen,ev,et,done with
   | .one (.plain st),hdx,hRp,hlen,ev,et,done=>
    obtain ⟨_,e',e⟩:=told2 hdx
    cases e'
    cases (s3 _ _ e).symm.trans et
    obtain ⟨st,rfl⟩:=S_ex st
    have hg:=guard_le st
    have done:∀ (l2:List Nat) (H5:Hp),Same H4 H5->l2=fd0++colonC b (guardC st)->N [some (V.ref l),some (vS l2),some (.str bs),some (V.ref tb),x4] H5:=fun l2 H5=>done l2 x4 H5
    have hlen:fd0.length+(colonC b (guardC st)).length<=100000:=hlen
    rw[colon_plain] at hlen done
    rw[List.length_append] at hlen
    have hE:Ev (tOp rEq (tVar 2) (tC (.str "note"))) [some (.ref l),some (vS fd0),some (.str bs),some (.ref tb),x4] H4 (.bl b):=by rw[<- hbs];exact ev_eqS (ev_v rfl)
    refine cat_call (ev_cat (a:=fd0) (ev_v rfl) (ev_bsl (ev_and hE (ev_starts [58] (by omega) rfl (ev 1 (vS st) H4 (Same.refl _) rfl)))) (by omega)) (ev 1 (vS st) H4 (Same.refl _) rfl) ⟨st,rfl,by omega,fun H5 s5=>⟨_,_,rfl,rfl,by rw[S_len,S_len,sizeLine_eq,List.length_append];omega,?_⟩⟩
    rw[S_app]
    exact done _ _ s5 (List.append_assoc _ _ _)
   | .one (.code st),hdx,hRp,hlen,ev,et,done=>
    obtain ⟨_,e',e⟩:=told2 hdx
    cases e'
    cases (s3 _ _ e).symm.trans et
    obtain ⟨st,rfl⟩:=S_ex st
    have hc:colonC b (rawP (.one (.code (S st))))=[96]++st++[96]:=colon_no (by decide)
    rw[hc] at hlen done
    simp only[List.length_append,List.length_cons,List.length_nil] at hlen
    exact ev_cat (ev_cat (ev_cat (ev_v rfl) (ev_lit (b:=[96]) rfl) (by simp;omega)) (ev 1 (vS st) H4 (Same.refl _) rfl) (by simp;omega)) (ev_lit (b:=[96]) rfl) (by simp;omega) _ (done _ x4 _ (Same.refl _) (by simp))
   | .strong qs,hdx,hRp,hlen,ev,et,done=>
    obtain ⟨_,vm,e',e,b'⟩:=toldS hdx
    cases e'
    cases (s3 _ _ e).symm.trans et
    have hc:colonC b (rawP (.strong qs))=[42]++raws1 false qs++[42]:=colon_no (by decide)
    rw[hc] at hlen done
    simp only[List.length_append,List.length_cons,List.length_nil] at hlen
    have em:(qs.map PC.one).map dP=qs.map d1:=by rw[List.map_map];rfl
    refine ⟨_,rfl,_,_,rfl,rfl,by show (S fd0).length+1<=_;rw[S_len,sizeLine_eq];omega,?_⟩
    rw[show S fd0++Str.ofString "*"=S (fd0++[42]) from S_app fd0 [42]]
    refine ev 1 _ H4 (Same.refl _) rfl _ ?_
    refine hI qs hRp _ _ _ _ ⟨_,qs.map .one,rfl,by rw[em];exact b'.same (s3.trans s4),fun p hp=>?_,by rw[raws_one];omega,fun H7 s7=>?_⟩
    ·obtain ⟨x,_,rfl⟩:=List.mem_map.mp hp
     unfold R1
     simp[one?]
    rw[raws_one]
    have done:=done (fd0++([42]++raws1 false qs++[42])) x4 H7 s7 rfl
    generalize raws1 false qs=X at hlen done ⊢
    refine ⟨_,_,rfl,rfl,by rw[S_len,S_len,sizeLine_eq];simp;omega,_,_,rfl,rfl,by rw[S_app,S_len,sizeLine_eq];show _+1<=_;simp;omega,?_⟩
    rw[S_app (fd0++[42]) X,show S (fd0++[42]++X)++Str.ofString "*"=S (fd0++([42]++X++[42])) from (S_app _ [42]).trans (by simp)]
    exact done
   | .one (.link st nm),hdx,hRp,hlen,ev,et,done=>
    obtain ⟨_,e',e⟩:=told3 hdx
    cases e'
    cases (s3 _ _ e).symm.trans et
    obtain ⟨st,rfl⟩:=S_ex st
    obtain ⟨nm,rfl⟩:=S_ex nm
    have hg:=guard_le st
    have hc:colonC b (rawP (.one (.link (S st) (S nm))))=[91]++caretC st++guardC st++[93,40]++nm++[41]:=colon_no (by decide)
    rw[hc] at hlen done
    rw[caret_pre] at hlen done
    simp only[List.length_append,List.length_cons,List.length_nil] at hlen
    show tAsg (tOp _ _ _) (gName 4) _ _ _
    refine cat_call (ev_bsl (ev_starts [94] (by omega) rfl (ev 1 (vS st) H4 (Same.refl _) rfl))) (ev 1 (vS st) H4 (Same.refl _) rfl) ⟨st,rfl,by omega,fun H5 s5=>⟨_,_,rfl,rfl,by rw[S_len,S_len,sizeLine_eq];omega,?_⟩⟩
    rw[S_app]
    dsimp only[gName,List.set_cons_succ,List.set_cons_zero]
    refine ev_cat (ev_cat (ev_cat (ev_cat (ev_cat (a:=fd0) (ev_v rfl) (ev_lit (b:=[91]) rfl) (by simp;omega)) (ev_v (v:=vS (bsl (([94]:List Nat).isPrefixOf st)++guardC st)) rfl) (by simp;omega)) (ev_lit (b:=[93,40]) rfl) (by simp;omega)) (b:=nm) ?_ (by simp;omega)) (ev_lit (b:=[41]) rfl) (by simp;omega) _ (done _ _ _ s5 (by simp))
    exact ev_ixT (ev_v rfl) ev_c (SqT.of ((s4.trans s5) _ _ et)) (atI_nat (j:=2) rfl)
   | .one (.note nm),hdx,hRp,hlen,ev,et,done=>
    obtain ⟨_,e',e⟩:=told2 hdx
    cases e'
    cases (s3 _ _ e).symm.trans et
    obtain ⟨nm,rfl⟩:=S_ex nm
    have hc:colonC b (rawP (.one (.note (S nm))))=[91,94]++nm++[93]:=colon_no (by decide)
    rw[hc] at hlen done
    simp only[List.length_append,List.length_cons,List.length_nil] at hlen
    exact ev_cat (ev_cat (ev_cat (ev_v rfl) (ev_lit (b:=[91,94]) rfl) (by simp;omega)) (ev 1 (vS nm) H4 (Same.refl _) rfl) (by simp;omega)) (ev_lit (b:=[93]) rfl) (by simp;omega) _ (done _ x4 _ (Same.refl _) (by simp))
  ·rintro σ' H5 ⟨x4',rfl,s5⟩
   exact ev_ixT (ev_v rfl) ev_c (SqT.of (s5 _ _ et)) (atI_nat (j:=0) rfl) _ ⟨_,isNote p,kdP p,_,x4',rfl,s3.trans s5,note_kd p,hfd⟩
 ·rintro σ H3 ⟨fd0,b,bs,x3,x4,rfl,s3,_,hfd⟩
  rw[hxl,List.drop_length] at hfd
  have hfd:fd0++[]=_:=hfd
  rw[List.append_nil] at hfd
  rw[hfd]
  exact ⟨_,rfl,q H3 s3⟩
end
end K5
set_option Elab.async false
set_option linter.all false
set_option maxRecDepth 100000
set_option maxHeartbeats 4000000
namespace K5
open PySem L2 Lm Lw PySem.Builtin.Int
def Gs1:P1->Prop
 | .plain s=>StrG s
 | .code s=>StrG s
 | .link w n=>StrG w/\StrG n
 | .note n=>StrG n
theorem dn_strG {G:Hp} {v:V} {s:Str} (h:Dn G v (.str s)):StrG s:=by cases h with |str _ a b=>exact ⟨a,b⟩
theorem told_gs {G:Hp} {v:V}:∀ {p:P1},Dn G v (d1 p)->Gs1 p
 | .plain _,h=>let ⟨_,_,_,_,k⟩:=toldS h;dn_strG k
 | .code _,h=>let ⟨_,_,_,_,k⟩:=toldS h;dn_strG k
 | .note _,h=>let ⟨_,_,_,_,k⟩:=toldS h;dn_strG k
 | .link _ _,h=>by cases h with |tup _ r=>cases r with |cons _ r=>cases r with |cons a r=>cases r with |cons b _=>exact ⟨dn_strG a,dn_strG b⟩
section
variable {c:Cp} {H H3 H4:Hp} {W:List Addr} {r:Addr} {as:List Addr} {dn:List PC} {y:Addr} {p:PC}
theorem built_add (hr0:H r=none) (s3:Same H H3) (er:H3 r=some (.lst (as.map V.ref))) (hW:r∈W) (hn:NewQ H W H3 fun G=>PCs c G as dn) (s4:Same H3 H4) (hy:NewQ H W H4 fun G=>PCAt c G y p):
  Same H (upd H4 r (.lst (as.map V.ref++[.ref y])))/\(upd H4 r (.lst (as.map V.ref++[.ref y]))) r=some (.lst ((as++[y]).map V.ref))/\NewQ H W (upd H4 r (.lst (as.map V.ref++[.ref y]))) fun G=>PCs c G (as++[y]) (dn++[p]):=
 ⟨same_grow hr0 (s3.trans s4),by rw[upd_same,List.map_append];rfl,NewQ.upd (NewQ.join (hn.same s4) hy mo_PCs mo_PC fun G h1 h2=>h1.snoc h2) hW⟩
end
section
variable {P:Program} {w:World} {K:PySem.W.Frag} {mg:Str->Option Value} {base:Heap} {c:Cp}
abbrev sBuilt:Stmt:=top 56
theorem scBuilt:FnScope ["_law_told","_law_found","_law_part_here","_law_inner"] ["_law_told"] (defScope sBuilt):=⟨rfl,rfl,rfl,by decide +kernel,rfl,by decide +kernel,by decide +kernel⟩
def spBuilt (c:Cp) (R:PC->Prop):Sp:=fun vs H Q _=>∃ (v:V) (ps:List PC),vs=[v]/\Dn H v (.list (ps.map dP))/\(∀ p∈ps,R p)/\∀ r as H',Same H H'->H r=none->H' r=some (.lst (as.map V.ref))->(NewQ H [r] H' fun G=>PCs c G as ps)->Q (.ref r) H'
theorem ok_built {f:Addr} {fd:FuncData} {k:Nat} {R:PC->Prop} {spI:Sp} (F:Fun K "_law_built" "_law_built" sBuilt f fd) (D_Link:New P w K mg base 1 "Link" c.Link ["self","words","name"] (spInit2 c.Link "words" "name")) (D_Plain:New P w K mg base 1 "Plain" c.Plain ["self","signs"] (spInit1 c.Plain "signs")) (D_Code:New P w K mg base 1 "Code" c.Code ["self","signs"] (spInit1 c.Code "signs"))
  (D_Mark:New P w K mg base 1 "Mark" c.Mark ["self","name"] (spInit1 c.Mark "name")) (D_Strong:New P w K mg base 1 "Strong" c.Strong ["self","parts"] (spInitS c.Strong)) (D_l_built:Def P w K mg base k "_law_built" ["_law_told"] spI) (hI:∀ ps,R (.strong ps)->∀ vs H Q E,spBuilt c R1 vs H Q E->spI vs H Q E):FnOk P w K mg base CX0 (k+3) f fd ["_law_told"] (spBuilt c R):=by
 have sc:=scBuilt
 refine F.ok sc (fun vs H Q E h=>?_) (fun cdv A outer s H vs Q E hr h=>?_)
 ·obtain ⟨v,ps,rfl,_⟩:=h
  rfl
 obtain ⟨v,ps,rfl,hd,hR,q⟩:=h
 refine of_XB (xbc (xset (i:=1) sc.nd rfl (Or.inl rfl) (xlst xa0))
  (xbc (xfor PassesOwn.never rfl (xil (xv 0)) (xgn (i:=2) sc.nd rfl (Or.inl rfl))
  (xb1 (xif (xcmpT op_eq (xix ix_tup (xv 2) xint (fun _ _ => rfl)) xstr (nomark _)) (xb1 (xexpr (xm PySem.F.plainAttrs_list PySem.F.slot_list_append PySem.F.type_list_append mt_append (xv 1) (xac (xnew D_Plain (hr.mono (by omega)) (xac (xix ix_tup (xv 2) xint (fun _ _ => rfl)) xa0)) xa0)))) (xb1 (xif (xcmpT op_eq (xix ix_tup (xv 2) xint (fun _ _ => rfl)) xstr (nomark _)) (xb1 (xexpr (xm PySem.F.plainAttrs_list PySem.F.slot_list_append PySem.F.type_list_append mt_append (xv 1) (xac (xnew D_Code (hr.mono (by omega)) (xac (xix ix_tup (xv 2) xint (fun _ _ => rfl)) xa0)) xa0)))) (xb1 (xif (xcmpT op_eq (xix ix_tup (xv 2) xint (fun _ _ => rfl)) xstr (nomark _)) (xbc (xset (i:=3) sc.nd rfl (Or.inl rfl) (xcD D_l_built (hr.mono (by omega)) (xac (xix ix_tup (xv 2) xint (fun _ _=>rfl)) xa0)))
  (xbc (xexpr (xm PySem.F.plainAttrs_list PySem.F.slot_list_append PySem.F.type_list_append mt_append (xv 1) (xac (xnew D_Strong (hr.mono (by omega)) (xac (xv 3) xa0)) xa0)))
  (xb1 (xexpr (xm PySem.F.plainAttrs_list PySem.F.slot_list_append PySem.F.type_list_append mt_append (xv 3) (xac (xnew D_Plain (hr.mono (by omega)) (xac xstr xa0)) xa0)))))) (xb1 (xif (xcmpT op_eq (xix ix_tup (xv 2) xint (fun _ _=>rfl)) xstr (nomark _)) (xb1 (xexpr (xm PySem.F.plainAttrs_list PySem.F.slot_list_append PySem.F.type_list_append mt_append (xv 1) (xac (xnew D_Link (hr.mono (by omega)) (xac (xix ix_tup (xv 2) xint (fun _ _=>rfl)) (xac (xix ix_tup (xv 2) xint (fun _ _=>rfl)) xa0))) xa0)))) (xb1 (xexpr (xm PySem.F.plainAttrs_list PySem.F.slot_list_append PySem.F.type_list_append mt_append (xv 1) (xac (xnew D_Mark (hr.mono (by omega)) (xac (xix ix_tup (xv 2) xint (fun _ _=>rfl)) xa0)) xa0)))))))))))))
  (xb1 (xret (xv 1))))) ?_
 have hs:sizeLine=16777216:=sizeLine_eq
 rw[show start ["_law_told","_law_found","_law_part_here","_law_inner"] [v]=[some v,none,none,none] from rfl]
 obtain ⟨l,xs,ds,rfl,hds,el,da,hdl⟩ |⟨_,z⟩:=Dn.lstCase hd
 rotate_left
 ·exact absurd rfl (z _)
 cases hds
 have hxl:xs.length=ps.length:=by rw[da.len,List.length_map]
 rw[List.length_map] at hdl
 refine ⟨big (show (0:Nat)<=1000000 by decide),fun r hr0=>?_⟩
 have s1:=same_new hr0 (.lst [])
 have e1:upd H r (.lst []) r=some (.lst []):=upd_same
 dsimp only[gName,List.set_cons_succ,List.set_cons_zero]
 generalize upd H r (.lst [])=H1 at s1 e1 ⊢
 refine ⟨_,rfl,l,rfl,⟨_,SqL.of (s1 _ _ el)⟩,?_⟩
 refine for_list (xs:=xs) (fun i σ H'=>∃ as x2 x3,σ=[some (.ref l),some (.ref r),x2,x3]/\Same H H'/\H' r=some (.lst (as.map V.ref))/\as.length<=i/\NewQ H [r] H' fun G=>PCs c G as (ps.take i)) ⟨[],none,none,rfl,s1,e1,Nat.le_refl _,NewQ.triv trivial⟩ ?_ ?_ ?_
 ·rintro i σ H3 _ ⟨_,_,_,_,s3,_⟩
  exact SqL.of (s3 _ _ el)
 ·rintro i x σ H3 hx ⟨as,x2,x3,rfl,s3,er,hal,hn⟩
  obtain ⟨p,hp,hdr,hdx⟩:=told_get da hx
  have hil:=(List.getElem?_eq_some_iff.mp hx).1
  have htk:ps.take (i+1)=ps.take i++[p]:=by rw[List.take_add_one,hp];rfl
  rw[htk]
  have hRp:=hR p (List.mem_of_getElem? hp)
  obtain ⟨tb,ys,rfl,et⟩:=told_in hdx
  have et:=s3 _ _ et
  dsimp only[gName,List.set_cons_succ,List.set_cons_zero]
  refine s_five p (fun H' s'=>ev_ixT (ev_v rfl) ev_c (SqT.of (s' _ _ et)) (atI_nat (j:=0) rfl)) fun H4 s4=>?_
  have s4':=s3.trans s4
  have er4:=s4 _ _ er
  have ev:∀ (j:Nat) (y:V),(V.str (kdP p)::ys)[j]? = some y->Ev (tOp (rIxT K) (tVar 2) (tC (.int j))) [some (.ref l),some (.ref r),some (.ref tb),x3] H4 y:=fun j y hj=>ev_ixT (ev_v rfl) ev_c (SqT.of (s4 _ _ et)) (atI_nat hj)
  have done:∀ (x3:Option V) (y:Addr) (H5:Hp),Same H4 H5->(NewQ H [r] H5 fun G=>PCAt c G y p)->∃ as' x2 x3',[some (V.ref l),some (V.ref r),some (V.ref tb),x3]=[some (.ref l),some (.ref r),x2,x3']/\Same H (upd H5 r (.lst (as.map V.ref++[.ref y])))/\upd H5 r (.lst (as.map V.ref++[.ref y])) r=some (.lst (as'.map V.ref))/\as'.length<=i+1/\NewQ H [r] (upd H5 r (.lst (as.map V.ref++[.ref y]))) fun G=>PCs c G as' (ps.take i++[p]):=fun x3 y H5 s5 hy=>by
   obtain ⟨a1,a2,a3⟩:=built_add hr0 s4' er4 List.mem_cons_self (hn.same s4) s5 hy
   exact ⟨as++[y],_,x3,rfl,a1,a2,by rw[List.length_append];show _+1<=_;omega,a3⟩
  have newq:∀ {H5:Hp} {y:Addr} {p:PC},PCAt c (dif H4 H5) y p->NewQ H [r] H5 fun G=>PCAt c G y p:=fun h=>NewQ.of s4' (fun b hb=>by rw[List.mem_singleton.mp hb,er4];exact fun z=>nomatch z) h
  have big':(as.map V.ref).length+1<=sizeLine:=by rw[List.length_map,hs];omega
  match p,hdx,hRp,ev,et,done with
  | .one (.plain st),hdx,hRp,ev,et,done=>
   obtain ⟨_,e',e⟩:=told2 hdx
   cases e'
   cases (s3 _ _ e).symm.trans et
   refine ⟨_,rfl, .inl ⟨rfl,_,SqL.of er4⟩,?_⟩
   refine ev 1 _ rfl _ fun y dx hy hd' _=>?_
   obtain ⟨m1,m2⟩:=made1 (C:=c.Plain) (o := .ins c.Plain dx [("signs", .str st)]) (Same.refl H4) hy hd'
   exact ⟨y,dx,_,rfl,upd_same,rfl,r,_,_,rfl,rfl,m1 _ _ er4,big',done x3 y _ m1 (newq ⟨told_gs (p := .plain st) hdx,dx,m2⟩)⟩
  | .one (.code st),hdx,hRp,ev,et,done=>
   obtain ⟨_,e',e⟩:=told2 hdx
   cases e'
   cases (s3 _ _ e).symm.trans et
   refine ⟨_,rfl, .inl ⟨rfl,_,SqL.of er4⟩,?_⟩
   refine ev 1 _ rfl _ fun y dx hy hd' _=>?_
   obtain ⟨m1,m2⟩:=made1 (C:=c.Code) (o := .ins c.Code dx [("signs", .str st)]) (Same.refl H4) hy hd'
   exact ⟨y,dx,_,rfl,upd_same,rfl,r,_,_,rfl,rfl,m1 _ _ er4,big',done x3 y _ m1 (newq ⟨told_gs (p := .code st) hdx,dx,m2⟩)⟩
  | .one (.note st),hdx,hRp,ev,et,done=>
   obtain ⟨_,e',e⟩:=told2 hdx
   cases e'
   cases (s3 _ _ e).symm.trans et
   refine ⟨_,rfl, .inl ⟨rfl,_,SqL.of er4⟩,?_⟩
   refine ev 1 _ rfl _ fun y dx hy hd' _=>?_
   obtain ⟨m1,m2⟩:=made1 (C:=c.Mark) (o := .ins c.Mark dx [("name", .str st)]) (Same.refl H4) hy hd'
   exact ⟨y,dx,_,rfl,upd_same,rfl,r,_,_,rfl,rfl,m1 _ _ er4,big',done x3 y _ m1 (newq ⟨told_gs (p := .note st) hdx,dx,m2⟩)⟩
  | .one (.link st nm),hdx,hRp,ev,et,done=>
   obtain ⟨_,e',e⟩:=told3 hdx
   cases e'
   cases (s3 _ _ e).symm.trans et
   obtain ⟨g1,g2⟩:=told_gs (p := .link st nm) hdx
   refine ⟨_,rfl, .inl ⟨rfl,_,SqL.of er4⟩,?_⟩
   refine ev 1 _ rfl _ (ev 2 _ rfl _ fun y dx hy hd' _=>?_)
   obtain ⟨m1,m2⟩:=made2 (C:=c.Link) (o1 := .ins c.Link dx [("words", .str st)]) (o := .ins c.Link dx [("words", .str st),("name", .str nm)]) (Same.refl H4) hy hd'
   exact ⟨y,dx,_,_,rfl,upd_same,rfl,r,_,_,rfl,rfl,m1 _ _ er4,big',done x3 y _ m1 (newq ⟨g1,g2,dx,m2⟩)⟩
  | .strong qs,hdx,hRp,ev,et,done=>
   obtain ⟨_,vm,e',e,b⟩:=toldS hdx
   cases e'
   cases (s3 _ _ e).symm.trans et
   have em:(qs.map PC.one).map dP=qs.map d1:=by rw[List.map_map];rfl
   have hq1:∀ p∈qs.map PC.one,R1 p:=fun p hp=>by
    obtain ⟨x,_,rfl⟩:=List.mem_map.mp hp
    unfold R1
    simp[one?]
   refine ev 1 _ rfl _ (hI qs hRp _ _ _ _ ⟨_,qs.map .one,rfl,by rw[em];exact b.same s4',hq1,fun r2 bs H5 s5 hr2 er2 hn2=>?_⟩)
   dsimp only[gName,List.set_cons_succ,List.set_cons_zero]
   have hne:r2≠r:=fun z=>by rw[z,er4] at hr2;cases hr2
   have er5:=s5 _ _ er4
   refine ⟨_,rfl, .inl ⟨rfl,_,SqL.of er5⟩,_,rfl,fun y dx hy hd' hyd=>?_⟩
   have hry:r2≠y:=fun z=>by rw[z,hy] at er2;cases er2
   have hrd:r2≠dx:=fun z=>by rw[z,hd'] at er2;cases er2
   refine ⟨y,dx,r2,_,rfl,upd_same,by rw[upd_ne hry,upd_ne hrd];exact er2,fun p2 hp2=>⟨rfl,?_⟩⟩
   have hpy:p2≠y:=fun z=>by rw[z,upd_same] at hp2;cases hp2
   have s6:Same H5 (upd (upd H5 dx (.own y)) y (.ins c.Strong dx [])):=same_grow hy (same_new hd' _)
   have hp5:H5 p2=none:=s6.free hp2
   generalize hH7:upd (upd (upd (upd H5 dx (.own y)) y (.ins c.Strong dx [])) p2 (.lst (bs.map V.ref))) y (.ins c.Strong dx [("parts", .ref p2)])=H7
   have s7:Same H5 H7:=by rw[<- hH7];exact same_grow hy (s6.trans (same_new hp2 _))
   have e7y:H7 y=some (.ins c.Strong dx [("parts", .ref p2)]):=by rw[<- hH7];exact upd_same
   have e7p:H7 p2=some (.lst (bs.map V.ref)):=by rw[<- hH7,upd_ne hpy];exact upd_same
   refine ⟨r,_,_,rfl,rfl,s7 _ _ er5,big',?_⟩
   have hin:NewQ H [r2,r] H7 fun G=>PCAt c G y (.strong qs):=by
    have h5:NewQ H [r2,r] H5 fun G=>PCs c G bs (qs.map .one):=by
     obtain ⟨G,g1,g2,g3,g4⟩:=hn2
     refine ⟨G,g1,fun b hb=>?_,fun b hb=>g3 b fun z=>hb (s4'.free z),g4⟩
     rcases List.mem_cons.mp hb with z |z
     ·exact g2 b (by rw[z];exact List.mem_cons_self)
     ·exact g3 b (by rw[List.mem_singleton.mp z,er4];exact fun z=>nomatch z)
    refine NewQ.join (h5.same s7) (NewQ.of (H3:=H5) (R:=fun G=>G y=some (.ins c.Strong dx [("parts", .ref p2)])/\G p2=some (.lst (bs.map V.ref))) (s4'.trans s5) (fun b hb z=>?_) ⟨by rw[dif_at hy];exact e7y,by rw[dif_at hp5];exact e7p⟩) mo_PCs (fun G G' s h=>⟨s _ _ h.1,s _ _ h.2⟩) fun G h1 h2=>?_
    ·rcases List.mem_cons.mp hb with z2 |z2
     ·rw[z2,er2] at z;cases z
     ·rw[List.mem_singleton.mp z2,er5] at z;cases z
    ·have h3:=h1.ones fun p hp=>by
      obtain ⟨x,_,rfl⟩:=List.mem_map.mp hp
      exact fun z=>nomatch z
     rw[ones_one] at h3
     exact ⟨dx,p2,bs,h2.1,h2.2,h3⟩
   obtain ⟨a1,a2,a3⟩:=built_add hr0 s4' er4 (List.mem_cons_of_mem _ List.mem_cons_self) ((hn.same s4).wide hr2) (s5.trans s7) hin
   have e2:upd H7 r (.lst (as.map V.ref++[.ref y])) r2=some (.lst (bs.map V.ref)):=(upd_ne hne).trans (s7 _ _ er2)
   generalize upd H7 r (.lst (as.map V.ref++[.ref y]))=H8 at a1 a2 a3 e2 ⊢
   have hbl:bs.length<=100000:=by
    obtain ⟨_,_,_,_,g4⟩:=hn2
    rw[g4.len,List.length_map]
    obtain ⟨_,_,ds,_,hds,_,_,hl⟩ |⟨_,z⟩:=Dn.lstCase b
    ·cases hds
     rw[List.length_map] at hl
     exact hl
    ·exact absurd rfl (z _)
   refine ⟨_,rfl, .inl ⟨rfl,_,SqL.of e2⟩,fun y2 dx2 hy2 hd2 _=>?_⟩
   obtain ⟨m1,m2⟩:=made1 (C:=c.Plain) (o := .ins c.Plain dx2 [("signs", .str "more")]) (Same.refl H8) hy2 hd2
   refine ⟨y2,dx2,_,rfl,upd_same,rfl,r2,_,_,rfl,rfl,m1 _ _ e2,by rw[List.length_map,hs];omega,?_⟩
   exact ⟨as++[y],_,_,rfl,same_grow (s4'.free hr2) (a1.trans m1),(upd_ne (Ne.symm hne)).trans (m1 _ _ a2),by rw[List.length_append];show _+1<=_;omega,((a3.same m1).upd List.mem_cons_self).less fun b hb=>List.mem_cons_of_mem _ hb⟩
 ·rintro σ H3 ⟨as,x1,x3,rfl,s3,er,hal,hn⟩
  rw[hxl,List.take_length] at hn
  exact ⟨_,rfl,q r as H3 s3 hr0 er hn⟩
end
end K5
set_option Elab.async false
set_option linter.all false
set_option maxRecDepth 100000
set_option maxHeartbeats 4000000
namespace K5
open PySem L2 Lm Lw PySem.Builtin.Int
def Kp (H1 H2 H H':Hp):Prop:=∀ b o,(H1 b=none->H2 b=none)->H b=some o->H' b=some o
theorem Kp.same {H1 H2 H H' H'':Hp} (k:Kp H1 H2 H H') (s:Same H' H''):Kp H1 H2 H H'':=fun b o h e=>s _ _ (k b o h e)
theorem Kp.grow {H1 H2 H H':Hp} {m:Addr} {o:HO} (k:Kp H1 H2 H H') (h1:H1 m=none) (h2:H2 m≠none):Kp H1 H2 H (upd H' m o):=fun b o' h e=>(upd_ne fun z=>by rw[z] at h;exact h2 (h h1)).trans (k b o' h e)
def kindOf:PyData->Option Str
 | .tuple (.str k::_)=>some k
 |_=>none
theorem strong_ne {qs:List P1} {q:P1} (h:Lw.d1 q=dP (.strong qs)):False:=by
 obtain ⟨a,b,c,d,e,f,g,i,j,l⟩:=kinds
 have h:=congrArg kindOf h
 cases q with
 |plain s=>exact c (Option.some.inj h)
 |code s=>exact e (Option.some.inj h)
 |link _ _=>exact l (Option.some.inj h).symm
 |note s=>exact f (Option.some.inj h)
section
variable {P:Program} {w:World} {K:PySem.W.Frag} {mg:Str->Option Value} {base:Heap} {c:Cp}
abbrev sSpoilt:Stmt:=top 57
theorem scSpoilt:FnScope ["_law_told","_law_part_here"] ["_law_told"] (defScope sSpoilt):=⟨rfl,rfl,rfl,by decide +kernel,rfl,by decide +kernel,by decide +kernel⟩
def spSpoilt:Sp:=fun vs H Q _=>∃ (H1 H2:Hp) (l:Addr) (ps:List PC),vs=[.ref l]/\Same H2 H/\Dn (dif H1 H2) (.ref l) (.list (ps.map dP))/\∀ H',Kp H1 H2 H H'->Q .non H'
theorem ok_spoilt {f:Addr} {fd:FuncData} (F:Fun K "_law_spoilt" "_law_spoilt" sSpoilt f fd):FnOk P w K mg base CX0 1 f fd ["_law_told"] spSpoilt:=by
 have sc:=scSpoilt
 refine F.ok sc (fun vs H Q E h=>?_) (fun cdv A outer s H vs Q E hr h=>?_)
 ·obtain ⟨_,_,l,ps,rfl,_⟩:=h
  rfl
 obtain ⟨H1,H2,l,ps,rfl,s2,hd,q⟩:=h
 refine of_XB (xbc (xfor PassesOwn.never rfl (xil (xv 0)) (xgn (i:=1) sc.nd rfl (Or.inl rfl))
  (xb1 (xif (xcmpT op_eq (xix ix_tup (xv 1) xint (fun _ _=>rfl)) xstr (nomark _)) (xb1 (xexpr (xm PySem.F.plainAttrs_list PySem.F.slot_list_append PySem.F.type_list_append mt_append (xix ix_tup (xv 1) xint (fun _ _=>rfl)) (xac (xl_tup (xlsc (xl_str (by decide +kernel)) (xlsc (xl_str (by decide +kernel)) xls0))) xa0)))) xb0)))
  (xb1 (xexpr (xm PySem.F.plainAttrs_list PySem.F.slot_list_append PySem.F.type_list_append mt_append (xv 0) (xac (xl_tup (xlsc (xl_str (by decide +kernel)) (xlsc (xl_str (by decide +kernel)) xls0))) xa0))))) ?_
 have hs:sizeLine=16777216:=sizeLine_eq
 rw[show start ["_law_told","_law_part_here"] [V.ref l]=[some (V.ref l),none] from rfl]
 obtain ⟨l',ts,ds,hll,hds,el,da,hdl⟩ |⟨_,z⟩:=Dn.lstCase hd
 rotate_left
 ·exact absurd rfl (z _)
 cases hds
 cases hll
 obtain ⟨hl0,el2⟩:=dif_some el
 have hxl:ts.length=ps.length:=by rw[da.len,List.length_map]
 rw[List.length_map] at hdl
 have el3:=s2 _ _ el2
 refine ⟨_,rfl,l,rfl,⟨_,SqL.of el3⟩,?_⟩
 refine for_list (xs:=ts) (fun i σ H'=>∃ x1,σ=[some (.ref l),x1]/\Kp H1 H2 H H'/\H' l=some (.lst ts)/\(∀ b xs,H b=some (.tup xs)->H' b=some (.tup xs))/\(∀ m zs,m≠l->H m=some (.lst zs)->∃ zs',H' m=some (.lst zs')/\zs'.length<=zs.length+i))
  ⟨none,rfl,(fun _ _ _ h=>h),el3,(fun _ _ h=>h),fun m zs _ h=>⟨zs,h,Nat.le_refl _⟩⟩ ?_ ?_ ?_
 ·rintro i σ H7 _ ⟨x1,_,_,e7,_⟩
  exact SqL.of e7
 ·rintro i x σ H7 hx ⟨x1,rfl,k7,e7,tp7,ls7⟩
  obtain ⟨p,hp,hdr,hdx⟩:=told_get da hx
  have hil:=(List.getElem?_eq_some_iff.mp hx).1
  obtain ⟨tb,ys,rfl,et⟩:=told_in hdx
  have eb7:=tp7 _ _ (s2 _ _ (dif_some et).2)
  dsimp only[gName,List.set_cons_succ,List.set_cons_zero]
  have keepS:∀ {H8:Hp},Same H7 H8->(∀ b xs,H b=some (.tup xs)->H8 b=some (.tup xs))/\(∀ m zs,m≠l->H m=some (.lst zs)->∃ zs',H8 m=some (.lst zs')/\zs'.length<=zs.length+i):=fun {H8} s8=>⟨fun b xs h=>s8 _ _ (tp7 b xs h),fun m zs hm h=>by
   obtain ⟨zs',h1,h2⟩:=ls7 m zs hm h
   exact ⟨zs',s8 _ _ h1,h2⟩⟩
  refine s_if (decide (kdP p=kStrong)) (t_eqS (ev_ixT (ev_v rfl) ev_c (SqT.of eb7) (atI_nat (j:=0) rfl)) ev_c) (fun H8 s8 z=>?_) fun H8 s8 z=>?_
  ·obtain ⟨tp8,ls8⟩:=keepS s8
   obtain ⟨qs,rfl⟩:∃ qs,p = .strong qs:=by
    obtain ⟨a,b,c,d,e,f,g,i,j,l⟩:=kinds
    have z:kdP p=kStrong:=of_decide_eq_true z
    match p,z with
    | .strong qs,_=>exact ⟨qs,rfl⟩
    | .one (.plain _),z=>exact absurd z c
    | .one (.code _),z=>exact absurd z e
    | .one (.link _ _),z=>exact absurd z.symm l
    | .one (.note _),z=>exact absurd z f
   obtain ⟨_,m,e',e,dm⟩:=toldS hdx
   cases e'
   cases e.symm.trans et
   obtain ⟨m',ms,ds,emm,hds,em,mall,hml⟩ |⟨_,z⟩:=Dn.lstCase dm
   rotate_left
   ·exact absurd rfl (z _)
   cases emm
   cases hds
   obtain ⟨hm0,em3⟩:=dif_some em
   have hmr:m'≠l:=fun z=>by
    rw[z] at dm
    have:=PyData.list.inj (dn_det hd dm)
    have hmem:dP (.strong qs)∈qs.map Lw.d1:=by rw[<- this];exact List.mem_map_of_mem (List.mem_of_getElem? hp)
    obtain ⟨q',_,hq'⟩:=List.mem_map.mp hmem
    exact strong_ne hq'
   obtain ⟨zs',ez8,hzl⟩:=ls8 m' ms hmr (s2 _ _ em3)
   have hmsl:ms.length<=100000:=by rw[mall.len];exact hml
   refine ev_ixT (ev_v rfl) ev_c (SqT.of (s8 _ _ eb7)) (atI_nat (j:=1) rfl) _ ⟨.inl ⟨rfl,_,SqL.of ez8⟩,fun v9 H9 s9 d9=>⟨m',zs',v9,rfl,rfl,s9 _ _ ez8,by rw[hs];omega,?_⟩⟩
   have ez9:=s9 _ _ ez8
   refine ⟨_,rfl,((k7.same s8).same s9).grow hm0 (by rw[em3];exact fun z=>nomatch z),(upd_ne (Ne.symm hmr)).trans (s9 _ _ (s8 _ _ e7)),fun b xs h=>?_,fun n zs hn h=>?_⟩
   ·have h9:=s9 _ _ (tp8 b xs h)
    refine (upd_ne fun z=>?_).trans h9
    rw[z,ez9] at h9
    cases h9
   ·obtain ⟨zs2,h1,h2⟩:=ls8 n zs hn h
    by_cases hnm:n=m'
    ·subst hnm
     rw[ez8] at h1
     cases h1
     exact ⟨_,upd_same,by rw[List.length_append];show _+1<=_;omega⟩
    ·exact ⟨zs2,(upd_ne hnm).trans (s9 _ _ h1),by omega⟩
  ·obtain ⟨tp8,ls8⟩:=keepS s8
   refine ⟨_,rfl,k7.same s8,s8 _ _ e7,tp8,fun n zs hn h=>?_⟩
   obtain ⟨zs2,h1,h2⟩:=ls8 n zs hn h
   exact ⟨zs2,h1,by omega⟩
 rintro σ H7 ⟨x1,rfl,k7,e7,_,_⟩
 refine ⟨_,rfl, .inl ⟨rfl,_,SqL.of e7⟩,fun v8 H8 s8 d8=>⟨l,ts,v8,rfl,rfl,s8 _ _ e7,by rw[hs];omega,?_⟩⟩
 exact q _ ((k7.same s8).grow hl0 (by rw[el2];exact fun z=>nomatch z))
end
end K5
set_option Elab.async false
set_option linter.all false
set_option maxRecDepth 100000
set_option maxHeartbeats 4000000
namespace K5
open PySem L2 Lm Lw PySem.Builtin.Int
def defPos (s:Stmt):Pos:=match s with
 | .FunctionDef _ _ _ _ _ _ _ _ _ p=>p
 |_=>⟨0,0,0,0⟩
def clsP (c:Cp):PC->Addr
 | .one (.plain _)=>c.Plain
 | .one (.code _)=>c.Code
 | .one (.link _ _)=>c.Link
 | .one (.note _)=>c.Mark
 | .strong _=>c.Strong
theorem cls_at {c:Cp} {H:Hp} {a:Addr}:∀ {p:PC},PCAt c H a p->∃ dx fs,H a=some (.ins (clsP c p) dx fs)/\fs.lookup ("said":Str)=none
 | .one (.plain _),⟨_,dx,e⟩=>⟨dx,_,e,rfl⟩
 | .one (.code _),⟨_,dx,e⟩=>⟨dx,_,e,rfl⟩
 | .one (.link _ _),⟨_,_,dx,e⟩=>⟨dx,_,e,rfl⟩
 | .one (.note _),⟨_,dx,e⟩=>⟨dx,_,e,rfl⟩
 | .strong _,⟨dx,_,_,e,_⟩=>⟨dx,_,e,rfl⟩
theorem sDepth (D : List PC) (f : PC -> List Nat) : (PyData.list (D.map fun p => PyData.str (S (f p)))).depth <= 64 := Nat.le_trans (depth_list (n:=0) fun d hd=>by
 obtain ⟨p,_,rfl⟩:=List.mem_map.mp hd
 rw[depth_str];exact Nat.le_refl 0) (by decide)
theorem pcs_at {c:Cp} {H:Hp} {as:List Addr} {D:List PC} {i:Nat} {x:V} (h:PCs c H as D) (hx:(as.map V.ref)[i]? = some x):∃ a p,x = .ref a/\D[i]? = some p/\PCAt c H a p:=by
 rw[List.getElem?_map] at hx
 cases hai:as[i]? with
 |none=>rw[hai] at hx;cases hx
 |some a=>
  rw[hai] at hx
  cases hx
  obtain ⟨p,h1,h2⟩:=h.get hai
  exact ⟨a,p,rfl,h1,h2⟩
theorem dDepth (D : List PC) : (PyData.list (D.map dP)).depth <= 64 := Nat.le_trans (depth_list (n:=3) fun d hd=>by
 obtain ⟨p,_,rfl⟩:=List.mem_map.mp hd
 exact dP_depth p) (by decide)
abbrev wdTo:List Nat:=[116,111,32]
section
variable {P:Program} {w:World} {K:PySem.W.Frag} {mg:Str->Option Value} {base:Heap} {c:Cp}
abbrev sAsked:Stmt:=top 58
abbrev sCL:Stmt:=(defBody sAsked).getD 0 (.Pass ⟨0,0,0,0⟩)
abbrev sCN:Stmt:=(defBody sAsked).getD 1 (.Pass ⟨0,0,0,0⟩)
theorem scAsked:FnScope ["_law_parts_here","_law_due","_law_number","_law_link","_law_note","_law_turn","_law_way","_law_told","_law_raws"] ["_law_parts_here","_law_due","_law_number"] (defScope sAsked):=⟨rfl,rfl,rfl,by decide +kernel,rfl,by decide +kernel,by decide +kernel⟩
theorem scCL:CloScope ["_law_name_here"] ["_law_name_here"] [] (defScope sCL):=⟨rfl,rfl,rfl,by decide +kernel,rfl,by decide +kernel,by decide +kernel⟩
theorem scCN:CloScope ["_law_name_here"] ["_law_name_here"] [] (defScope sCN):=⟨rfl,rfl,rfl,by decide +kernel,rfl,by decide +kernel,by decide +kernel⟩
theorem frCL:∀ y∈(defScope sCL).names,y.2 ≠ .free:=by decide +kernel
theorem frCN:∀ y∈(defScope sCN).names,y.2 ≠ .free:=by decide +kernel
def qCL:Str:=qualnameIn (PyProof.Rows.envOfC "_law_asked" (defScope sAsked) 0 0 .none) "_law_link" "_law_link"
def qCN:Str:=qualnameIn (PyProof.Rows.envOfC "_law_asked" (defScope sAsked) 0 0 .none) "_law_note" "_law_note"
def qsAsked:List (Pos×Str):=[(defPos sCL,qCL),(defPos sCN,qCN)]
theorem posNe:(defPos sCL).line≠(defPos sCN).line:=by decide +kernel
theorem ok_CL {g c':Addr} {cl:List (Str×Addr)} {doc pm ct:Value} (lk:base.get? g=some (PySem.W.fnMade "_law_link" qCL (defArgs sCL) (defBody sCL) (defScope sCL) cl doc pm c' ct)) (hcd:base.CodeRec (.ref c') qCL)
  (C:CloCells base cl (defScope sCL) [] []):FnV P w K mg base 2 g ["_law_name_here"] (spSay (sayL wdTo)):=by
 have sc:=scCL
 refine fn_ofC0 lk hcd sc C (fun vs H Q E h=>?_) (fun us hl=>?_) (fun A outer s H vs Q E hr h=>?_)
 ·obtain ⟨n,rfl,_⟩:=h
  rfl
 ·match us,hl with
  | [_],_=>rfl
 obtain ⟨n,rfl,hn,q⟩:=h
 refine of_XB (xb1 (xret (xop op_add_str xstr (xv 0)))) ?_
 exact ev_cat (a:=wdTo) (b:=n) (ev_lit rfl) (ev_v rfl) (by show 3+_<=_;omega) _ (q H (Same.refl H))
theorem ok_CN {g c':Addr} {cl:List (Str×Addr)} {doc pm ct:Value} (lk:base.get? g=some (PySem.W.fnMade "_law_note" qCN (defArgs sCN) (defBody sCN) (defScope sCN) cl doc pm c' ct)) (hcd:base.CodeRec (.ref c') qCN)
  (C:CloCells base cl (defScope sCN) [] []):FnV P w K mg base 2 g ["_law_name_here"] (spSay (sayN wdTo)):=by
 have sc:=scCN
 refine fn_ofC0 lk hcd sc C (fun vs H Q E h=>?_) (fun us hl=>?_) (fun A outer s H vs Q E hr h=>?_)
 ·obtain ⟨n,rfl,_⟩:=h
  rfl
 ·match us,hl with
  | [_],_=>rfl
 obtain ⟨n,rfl,hn,q⟩:=h
 refine of_XB (xb1 (xret (xop op_add_str (xv 0) xstr))) ?_
 exact ev_cat (a:=n) (b:=wdTo) (ev_v rfl) (ev_lit rfl) (by show _+3<=_;omega) _ (q H (Same.refl H))
def spAsked (c:Cp) (Pt:Addr):Sp:=fun vs H Q _=>∃ (l d:Addr) (n:Int) (as:List Addr) (D:List PC),vs=[.ref l, .ref d, .int n]/\H l=some (.lst (as.map V.ref))/\PCs c H as D/\Dn H (.ref d) (.list (D.map dP))/\(∀ p∈D,OkC p)/\(D.map szC).sum<=20000/\Tab Pt qsAsked H ∧
 ∀ H',KS H H'->Tab Pt qsAsked H'->Q (.bl true) H'
theorem tab_ne {Pt b:Addr} {H:Hp} {o:HO} (t:Tab Pt qsAsked H) (h:H b=some o) (ho:∀ xs,o ≠ .tbl xs):b≠Pt:=fun z=>by
 obtain ⟨ps,e,_⟩:=t
 rw[<- z,h] at e
 cases e
 exact ho _ rfl
theorem kd_tbl {o:HO} (h:Kd o):∀ xs,o ≠ .tbl xs:=by
 rcases h with ⟨xs,rfl⟩ |⟨xs,rfl⟩ |⟨C,dx,fs,rfl⟩ <;> exact fun _ z=>nomatch z
theorem kd_ext {o:HO} (h:Kd o):∀ φ,o ≠ .ext φ:=by
 rcases h with ⟨xs,rfl⟩ |⟨xs,rfl⟩ |⟨C,dx,fs,rfl⟩ <;> exact fun _ z=>nomatch z
theorem made_ks {Pt:Addr} {H H':Hp} {d:Clo} (t:Tab Pt qsAsked H) (M:Made Pt qsAsked H H' d):KS H H':=fun b o k h=>M.keep b o (tab_ne t h (kd_tbl k)) h
theorem ok_asked {f cc Pt:Addr} {fd:FuncData} {k:Nat} (F:Fun K "_law_asked" "_law_asked" sAsked f fd) (T:TxL mg) (hc:fd.code = .ref cc) (hT:PySem.W.CodeHd base cc Pt/\base.BuiltinsAt mg Pt) (hk:k<=7)
  (D_told_parts:Def P w K mg base 4 "told_parts" ["parts"] (spTolds c R2)) (D_raw_of:Def P w K mg base 5 "raw_of" ["parts"] (spRaws c R2)) (hM:RawV P w K mg base k c R2) (D_l_raw:Def P w K mg base 6 "_law_raw" ["_law_told"] (spLRaw fun _=>True)) (D_l_said:Def P w K mg base 3 "_law_said" ["_law_due","_law_word"] (spLSaid fun _=>True))
  (D_l_spoilt:Def P w K mg base 1 "_law_spoilt" ["_law_told"] spSpoilt) (hm_said_of:∃ f,mg "said_of"=some (.ref f)/\PySem.W.keepIn K (.ref f)=true)
  (D_said:∀ (base':Heap) (gl gn:Addr) (sf sg:List Nat->List Nat) (x1 x2:Str),K.In base'->base'.Ns mainGlobals mg->SayOk sf->SayOk sg->FnV P w K mg base' 2 gl [x1] (spSay sf)->FnV P w K mg base' 2 gn [x2] (spSay sg)->Def P w K mg base' 6 "said_of" ["parts","link","note"] (spSaids c gl gn sf sg R2)/\∀ p,R2 p->MethV P w K mg base' 6 (clsP c p) "said" ["self","link","note"] (spSaid c gl gn sf sg fun q=>q=p)):
  FnOk P w K mg base CX0 8 f fd ["_law_parts_here","_law_due","_law_number"] (spAsked c Pt):=by
 have sc:=scAsked
 refine F.okT hc sc (fun vs H Q E h=>?_) (fun A outer s H vs Q E hr h=>?_)
 ·obtain ⟨l,d,n,as,D,rfl,_⟩:=h
  rfl
 obtain ⟨l,d,n,as,D,rfl,el,hps,hdd,hok,hsum,tab,q⟩:=h
 have hu:(A.deeper (PyProof.Rows.envOfC "_law_asked" (defScope sAsked) s.heap.objs.size f (.ref cc))).units+64 < cLine:=by
  have:=hr.un
  omega
 have DA:DefAt (cxOf CX0 P w K mg base ["_law_parts_here","_law_due","_law_number","_law_link","_law_note","_law_turn","_law_way","_law_told","_law_raws"] "_law_asked" (defScope sAsked) f (.ref cc) A outer s H E).nox cc Pt:=⟨rfl,hT.1,hT.2⟩
 have hcl__law_link:∀ n,(n,NameKind.free)∈(defScope sCL).names->∃ c',(PyProof.Rows.envOfC "_law_asked" (defScope sAsked) s.heap.objs.size f (.ref cc)).cells.lookup n=some c':=fun n hn=>absurd rfl (frCL _ hn)
 have hcl__law_note:∀ n,(n,NameKind.free)∈(defScope sCN).names->∃ c',(PyProof.Rows.envOfC "_law_asked" (defScope sAsked) s.heap.objs.size f (.ref cc)).cells.lookup n=some c':=fun n hn=>absurd rfl (frCN _ hn)
 have hq__law_link:(defPos sCL,qualnameIn (PyProof.Rows.envOfC "_law_asked" (defScope sAsked) s.heap.objs.size f (.ref cc)) "_law_link" "_law_link")∈qsAsked:=List.mem_cons_self
 have hq__law_note:(defPos sCN,qualnameIn (PyProof.Rows.envOfC "_law_asked" (defScope sAsked) s.heap.objs.size f (.ref cc)) "_law_note" "_law_note")∈qsAsked:=List.mem_cons_of_mem _ List.mem_cons_self
 have hqs__law_link:∀ q∈qsAsked,q.1.line=(defPos sCL).line->q.1.col=(defPos sCL).col->q.2=qualnameIn (PyProof.Rows.envOfC "_law_asked" (defScope sAsked) s.heap.objs.size f (.ref cc)) "_law_link" "_law_link":=fun q hq h1 _=>by
  rcases List.mem_cons.mp hq with z |z
  ·rw[z];rfl
  ·rw[List.mem_singleton.mp z] at h1;exact absurd h1.symm posNe
 have hqs__law_note:∀ q∈qsAsked,q.1.line=(defPos sCN).line->q.1.col=(defPos sCN).col->q.2=qualnameIn (PyProof.Rows.envOfC "_law_asked" (defScope sAsked) s.heap.objs.size f (.ref cc)) "_law_note" "_law_note":=fun q hq h1 _=>by
  rcases List.mem_cons.mp hq with z |z
  ·rw[z] at h1;exact absurd h1 posNe
  ·rw[List.mem_singleton.mp z];rfl
 refine of_XB (xbc (xdef (i:=3) DA hcl__law_link hq__law_link hqs__law_link sc.nd rfl (Or.inr rfl))
  (xbc (xdef (i:=4) DA hcl__law_note hq__law_note hqs__law_note sc.nd rfl (Or.inr rfl))
  (xbc (xfor PassesOwn.never rfl (xir1 rfl T.n_range (xac xint xa0)) (xgn (i:=5) sc.nd rfl (Or.inl rfl))
  (xbc (xset (i:=6) sc.nd rfl (Or.inl rfl) (xop op_mod (xop op_add (xv 5) (xv 2)) xint))
  (xbc (xif (xand (xcmpT op_eq (xv 6) xint (nomark _)) (xand1 (xcmpT op_ne (xcD D_raw_of (hr.mono (by omega)) (xac (xv 0) xa0)) (xcD D_l_raw (hr.mono (by omega)) (xac (xv 1) xa0)) (nomark _)))).xt (xb1 (xret xbl)) xb0)
  (xbc (xif (xand (xcmpT op_eq (xv 6) xint (nomark _)) (xand1 (xcmpT op_ne (xcY (k:=6) (ps:=["parts","link","note"]) hm_said_of (hr.mono (by omega)) (xac (xv 0) (xac (xv 3) (xac (xv 4) xa0)))) (xcD D_l_said (hr.mono (by omega)) (xac (xv 1) (xac xstr xa0))) (nomark _)))).xt (xb1 (xret xbl)) xb0)
  (xb1 (xif (xcmpT op_eq (xv 6) xint (nomark _)) (xbc (xset (i:=7) sc.nd rfl (Or.inl rfl) (xcD D_told_parts (hr.mono (by omega)) (xac (xv 0) xa0)))
  (xbc (xif (xcmpT (op_neW hu) (xv 7) (xv 1) (nomark _)) (xb1 (xret xbl)) xb0)
  (xb1 (xexpr (xcD D_l_spoilt (hr.mono (by omega)) (xac (xv 7) xa0)))))) xb0))))))
  (xbc (xslc (i:=8) sc.nd rfl rfl (cl:=[]) (own:=["_law_part_here"]) (fr:=[]) (N':=["_law_part_here"]) rfl (compN (xs:=[]) trivial trivial (by decide +kernel)) (by decide +kernel) (by decide +kernel) (by with_unfolding_all rfl)
  (xil (xv 0))
  (fun _ _ _ _=>xgn (i:=0) (show (["_law_part_here"]:List Str).Nodup by decide +kernel) rfl (Or.inl rfl)) (fun _ _ _ _=>xq0) (fun _ _ _ _=>(xmV0C (k:=k) (xv 0) (hr.mono (by omega)))))
  (xbc (xif (xcmpT (op_neW hu) (xv 8) (xlc (cl:=[]) (own:=["_law_part_here"]) (fr:=[]) (N':=["_law_part_here"]) rfl (compN (xs:=[]) trivial trivial (by decide +kernel)) (by decide +kernel) (by decide +kernel) (by with_unfolding_all rfl)
  (xil (xv 1))
  (fun _ _ _ _=>xgn (i:=0) (show (["_law_part_here"]:List Str).Nodup by decide +kernel) rfl (Or.inl rfl)) (fun _ _ _ _=>xq0) (fun _ _ _ _=>(xcD D_l_raw (hr.mono (by omega)) (xac (xlst (xac (xv 0) xa0)) xa0)))) (nomark _)) (xb1 (xret xbl)) xb0)
  (xbc (xif (xcmpT (op_neW hu) (xlc (cl:=[("_law_note",s.heap.objs.size+2),("_law_link",s.heap.objs.size+1)]) (own:=["_law_part_here"]) (fr:=[3,4]) (N':=["_law_part_here","_law_link","_law_note"]) rfl (compN (xs:=["_law_link","_law_note"]) ⟨rfl,⟨rfl,trivial⟩⟩ ⟨rfl,rfl, .inl rfl, .inl rfl,⟨rfl,rfl, .inl rfl, .inl rfl,trivial⟩⟩ (by decide +kernel)) (by decide +kernel) (by decide +kernel) (by with_unfolding_all rfl)
  (xil (xv 0))
  (fun _ _ _ _ => xgn (i := 0) (show (["_law_part_here", "_law_link", "_law_note"] : List Str).Nodup by decide +kernel) rfl (Or.inl rfl)) (fun _ _ _ _ => xq0) (fun _ _ _ _ => (xmYC (k := 6) (xv 0) (hr.mono (by omega)) (xac (xv 1) (xac (xv 2) xa0))))) (xlc (cl:=[]) (own:=["_law_part_here"]) (fr:=[]) (N':=["_law_part_here"]) rfl (compN (xs:=[]) trivial trivial (by decide +kernel)) (by decide +kernel) (by decide +kernel) (by with_unfolding_all rfl)
  (xil (xv 1))
  (fun _ _ _ _=>xgn (i:=0) (show (["_law_part_here"]:List Str).Nodup by decide +kernel) rfl (Or.inl rfl)) (fun _ _ _ _=>xq0) (fun _ _ _ _=>(xcD D_l_said (hr.mono (by omega)) (xac (xlst (xac (xv 0) xa0)) (xac xstr xa0))))) (nomark _)) (xb1 (xret xbl)) xb0)
  (xb1 (xret (xcmp (op_eqW hu) (xcD D_told_parts (hr.mono (by omega)) (xac (xv 0) xa0)) (xv 1) (nomark _)))))))))) ?_
 have hs:sizeLine=16777216:=sizeLine_eq
 rw[show start ["_law_parts_here","_law_due","_law_number","_law_link","_law_note","_law_turn","_law_way","_law_told","_law_raws"] [V.ref l,V.ref d,V.int n]=[some (V.ref l),some (V.ref d),some (V.int n),none,none,none,none,none,none] from rfl]
 have hlenD:=hps.len
 have hDl:=len_sz hok
 have hR2:=r2_of hok (by omega)
 have hrw:∀ p∈D,(rawP p).length<=100000/\Asc (rawP p):=fun p hp=>by
  obtain ⟨h1,h2,_⟩:=rawP_ok (hok p hp)
  have:=mem_szC hp
  exact ⟨by omega,h2⟩
 have hraws:=raws_ok (b:=false) hok
 have hsy:SayOk (sayL wdTo):=fun n hn=>asc_app (asc_mk _ rfl) hn
 have hsn:SayOk (sayN wdTo):=fun n hn=>asc_app hn (asc_mk _ rfl)
 have hsl:∀ n:List Nat,(sayL wdTo n).length<=n.length+10:=fun n=>by show (wdTo++n).length<=_;rw[List.length_append];show 3+_<=_;omega
 have hnl:∀ n:List Nat,(sayN wdTo n).length<=n.length+10:=fun n=>by show (n++wdTo).length<=_;rw[List.length_append];show _+3<=_;omega
 have hsz:(saids wdTo D).length<=(D.map szC).sum:=said_all hsl hnl D
 have hsd:∀ p∈D,(saidC (sayL wdTo) (sayN wdTo) p).length<=100000/\Asc (saidC (sayL wdTo) (sayN wdTo) p):=fun p hp=>by
  have h1:=said_sz hsl hnl p
  have:=mem_szC hp
  exact ⟨by omega,asc_saidC hsy hsn (hok p hp).asc⟩
 refine ⟨tab,fun d1 H1 M1 mk1=>⟨M1.tab,fun d2 H2 M2 mk2=>?_⟩⟩
 obtain ⟨doc1,ct1,eobj1,equal1,ecs1⟩:=mk1
 obtain ⟨doc2,ct2,eobj2,equal2,ecs2⟩:=mk2
 have ks2:KS H H2:=(made_ks tab M1).trans (made_ks M1.tab M2)
 have tab2:=M2.tab
 have hD2:∀ {H':Hp},Same H2 H'->∀ d'∈[d1,d2],CloOk H' d':=fun {H'} s' d' hd'=>by
  rcases List.mem_cons.mp hd' with z |z
  ·rw[z]
   refine ⟨s' _ _ (M2.keep _ _ (tab_ne M1.tab M1.fn fun xs y=>nomatch y) M1.fn),s' _ _ (M2.keep _ _ (tab_ne M1.tab M1.cd fun xs y=>nomatch y) M1.cd),fun q hq=>by rw[ecs1] at hq;cases hq⟩
  ·rw[List.mem_singleton.mp z]
   exact ⟨s' _ _ M2.fn,s' _ _ M2.cd,fun q hq=>by rw[ecs2] at hq;cases hq⟩
 have saidB:∀ base',BaseY K mg base [d1,d2] base'->Def P w K mg base' 6 "said_of" ["parts","link","note"] (spSaids c d1.g d2.g (sayL wdTo) (sayN wdTo) R2)/\∀ p,R2 p->MethV P w K mg base' 6 (clsP c p) "said" ["self","link","note"] (spSaid c d1.g d2.g (sayL wdTo) (sayN wdTo) fun q=>q=p):=fun base' B=>by
  refine D_said base' d1.g d2.g _ _ "_law_name_here" "_law_name_here" B.kin B.glob hsy hsn (ok_CL (c':=d1.c) (doc:=doc1) (pm:=(mg "__name__").getD .none) (ct:=ct1) ?_ ?_ (cells0 (env:=PyProof.Rows.envOfC "_law_asked" (defScope sAsked) s.heap.objs.size f (.ref cc)) frCL)) (ok_CN (c':=d2.c) (doc:=doc2) (pm:=(mg "__name__").getD .none) (ct:=ct2) ?_ ?_ (cells0 (env:=PyProof.Rows.envOfC "_law_asked" (defScope sAsked) s.heap.objs.size f (.ref cc)) frCN))
  ·have:=B.fn d1 List.mem_cons_self
   rw[eobj1] at this
   exact this
  ·have:=B.cd d1 List.mem_cons_self
   rw[equal1] at this
   exact this
  ·have:=B.fn d2 (List.mem_cons_of_mem _ List.mem_cons_self)
   rw[eobj2] at this
   exact this
  ·have:=B.cd d2 (List.mem_cons_of_mem _ List.mem_cons_self)
   rw[equal2] at this
   exact this
 have ksd:∀ {H':Hp},Same H2 H'->KS H' (drop H' [d1,d2]):=fun s' b o k h=>by rw[drop_ne (clo_out (hD2 s') h (kd_ext k))];exact h
 have sB:∀ {H' HA:Hp},Same (drop H' [d1,d2]) HA->Same H' (back H' [d1,d2] HA):=fun sA b o h=>by
  by_cases hb:b∈adrs [d1,d2]
  ·rw[back_in hb];exact h
  ·rw[back_ne hb];exact sA b o (by rw[drop_ne hb];exact h)
 have el2:=ks2 _ _ Kd.lst el
 have hps2:=pcs_ks ks2 hps
 have hdd2:=dn_ks ks2 hdd
 dsimp only[gName,List.set_cons_succ,List.set_cons_zero]
 refine ⟨3,rfl,by decide,by decide,?_⟩
 refine for_range (n:=3) (fun t σ H'=>∃ x5 x6 x7,σ=[some (.ref l),some (.ref d),some (.int n),some (.ref d1.g),some (.ref d2.g),x5,x6,x7,none]/\Same H2 H') ⟨none,none,none,rfl,Same.refl _⟩ ?_ ?_
 ·rintro t σ H4 ht ⟨x5,x6,x7,rfl,s4⟩
  refine ⟨_,rfl,_,rfl,_,_,rfl,rfl,_,_,rfl,rfl,show (0:Int) < 3 by decide,?_⟩
  dsimp only[gName,List.set_cons_succ,List.set_cons_zero]
  generalize (0+(t:Int)+n) % 3=W
  have tw:∀ (j:Int) (H':Hp),Tells (tTest (tOp rEq (tVar 6) (tC (.int j)))) [some (.ref l),some (.ref d),some (.int n),some (.ref d1.g),some (.ref d2.g),some (.int (0+(t:Int))),some (.int W),x7,none] H' (decide (V.int W=V.int j)):=fun j H' R k=>⟨_,rfl,rfl,_,rfl,k _ (Same.refl _)⟩
  have eqb:∀ a:List Nat,(!decide (vS a=vS a))=false:=fun a=>by rw[decide_eq_true rfl];rfl
  refine s_no1 ((t_and _ false (tw 0 _) fun _ H5 s5 R k=>?_).eq (Bool.and_false _)) fun H6 s6=>?_
  ·have s25:=s4.trans s5
   refine ⟨_,rfl,l,as,D,rfl,s25 _ _ el2,hps2.same s25,hR2,by omega,by omega,fun H7 s7=>⟨_,rfl, .ref d,D,rfl,hdd2.same (s25.trans s7),(fun _ _=>trivial),by omega,fun H8 s8=>⟨rfl,_,rfl,?_⟩⟩⟩
   rw[eqb]
   exact k _ (s7.trans s8)
  have s26:=s4.trans s6
  refine s_no1 ((t_and _ false (tw 1 _) fun _ H7 s7 R k=>?_).eq (Bool.and_false _)) fun H8 s8=>?_
  ·have s27:=s26.trans s7
   refine ⟨_,rfl,_,rfl,_,rfl,[d1,d2],spSaids c d1.g d2.g (sayL wdTo) (sayN wdTo) R2,hD2 s27,fun base' B=>(saidB base' B).1,?_⟩
   refine ⟨l,as,D,rfl,ksd s27 _ _ Kd.lst (s27 _ _ el2),pcs_ks ((KS.of s27).trans (ksd s27)) hps2,fun p hp=>⟨hR2 p hp,(hok p hp).asc⟩,by omega,Nat.le_trans hsz (by omega),fun HA sA _=>?_⟩
   refine ⟨_,rfl, .ref d,D,wdTo,rfl,hdd2.same (s27.trans (sB sA)),(fun _ _=>trivial),by omega,fun HC sC=>⟨rfl,_,rfl,?_⟩⟩
   rw[show (!decide (vS (D.map (saidC (sayL wdTo) (sayN wdTo))).flatten=vS (saids wdTo D)))=false from eqb _]
   exact k _ ((sB sA).trans sC)
  have s28:=s26.trans s8
  refine s_if _ (tw 2 _) (fun H9 s9 _=>?_) fun H9 s9 _=>⟨_,_,_,rfl,s28.trans s9⟩
  have s29:=s28.trans s9
  refine ⟨_,rfl,l,as,D,rfl,s29 _ _ el2,hps2.same s29,hR2,by omega,fun r HA sA dA=>?_⟩
  dsimp only[gName,List.set_cons_succ,List.set_cons_zero]
  refine s_no1 (fun R k=>⟨_,rfl,_,rfl,_,dA.out.den,(hdd2.same (s29.trans sA)).den,dDepth D,_,rfl,k _ (Same.refl _)⟩) fun HB sB'=>?_
  refine ⟨_,rfl,H9,HA,r,D,rfl,sB',dA,fun HC kC=>⟨_,_,_,rfl,fun b o e=>kC b o (fun z=>by rw[s29 _ _ e] at z;cases z) ((sA.trans sB') _ _ (s29 _ _ e))⟩⟩
 rintro σ H4 ⟨x5,x6,x7,rfl,s4⟩
 obtain ⟨d',ys,ds,edd,hds,ed2,da2,hdl⟩ |⟨_,z⟩:=Dn.lstCase hdd2
 rotate_left
 ·exact absurd rfl (z _)
 cases edd
 cases hds
 have hyl:ys.length=D.length:=by rw[da2.len,List.length_map]
 have rawD:∀ {i:Nat} {p:PC} {G:Hp},D[i]? = some p->Dn G (vS (rawP p)) (PyData.str (S (rawP (D.getD i (.one (.note "")))))):=fun {i p G} hp=>by
  obtain ⟨h1,h2⟩:=hrw p (List.mem_of_getElem? hp)
  rw[List.getD_eq_getElem?_getD,hp]
  exact (strG_S h2 h1).dn
 have saidD:∀ {i:Nat} {p:PC} {G:Hp},D[i]? = some p->Dn G (vS (saidC (sayL wdTo) (sayN wdTo) p)) (PyData.str (S (saidC (sayL wdTo) (sayN wdTo) (D.getD i (.one (.note "")))))):=fun {i p G} hp=>by
  obtain ⟨h1,h2⟩:=hsd p (List.mem_of_getElem? hp)
  rw[List.getD_eq_getElem?_getD,hp]
  exact (strG_S h2 h1).dn
 have lone:∀ {H5:Hp} {i:Nat} {x:V} {p:PC} {o:Addr},Same H2 H5->ys[i]? = some x->H5 o=none->D[i]? = some p->Dn (upd H5 o (.lst [x])) (.ref o) (.list ([p].map dP)):=fun {H5 i x p o} s5 hx ho hp=>by
  obtain ⟨p',hp',_,hdx⟩:=told_get da2 hx
  rw[hp] at hp'
  cases hp'
  exact .lst upd_same (.cons (hdx.same (s5.trans (same_new ho _))) .nil) (by show 1<=100000;decide)
 refine ⟨_,rfl,l,rfl,⟨_,SqL.of (s4 _ _ el2)⟩,?_⟩
 refine lc_newD (fun i=>PyData.str (S (rawP (D.getD i (.one (.note "")))))) (SqL.of (s4 _ _ el2)) (by rw[List.length_map];omega) ?_ ?_
 ·intro i x hx H5 s5 C N hC
  obtain ⟨a,p,rfl,hp1,hp2⟩:=pcs_at hps2 hx
  obtain ⟨Cc,dx,fs,sp,e1,e2,V,hsp⟩:=hM p (hR2 p (List.mem_of_getElem? hp1)) (hrw p (List.mem_of_getElem? hp1)).1 H5 a (hp2.same (s4.trans s5))
  exact ⟨(nfLe.refl _ _ _).set (by decide) _,iteT (B:=N H5) ⟨_,rfl,a,Cc,dx,fs,_,sp,rfl,e1,e2,V,hsp _ _ fun H7 s7=>hC _ H7 s7 (rawD hp1)⟩⟩
 intro D1 H5 hD1 s5 d5
 rw[List.length_map,hlenD,range_get D _ fun p=>PyData.str (S (rawP p))] at d5
 have s25:=s4.trans s5
 dsimp only[gName,List.set_cons_succ,List.set_cons_zero]
 refine s_no1 (fun R k=>⟨_,rfl,_,rfl,d,rfl,⟨_,SqL.of (s25 _ _ ed2)⟩,?_⟩) fun H6 s6=>?_
 ·refine lc_newD (fun i=>PyData.str (S (rawP (D.getD i (.one (.note "")))))) (SqL.of (s25 _ _ ed2)) (by omega) ?_ ?_
  ·intro i x hx H6 s6 C N hC
   obtain ⟨p,hp,_,_⟩:=told_get da2 hx
   refine ⟨(nfLe.refl _ _ _).set (by decide) _,iteT (B:=N H6) ⟨_,rfl,big (show (1:Nat)<=1000000 by decide),fun o ho=>⟨.ref o,[p],rfl,lone (s25.trans s6) hx ho hp,(fun _ _=>trivial),?_,fun H7 s7=>hC _ _ ((same_new ho _).trans s7) ?_⟩⟩⟩
   ·show (rawP p++[]).length<=_
    rw[List.append_nil]
    exact (hrw p (List.mem_of_getElem? hp)).1
   ·rw[show raws false [p]=rawP p from List.append_nil _]
    exact rawD hp
  ·intro D2 H7 hD2 s7 d7
   rw[hyl,range_get D _ fun p=>PyData.str (S (rawP p))] at d7
   exact ⟨_,(d5.out.same s7).den,d7.out.den,sDepth D rawP,_,rfl,k H7 s7⟩
 have s26:=s25.trans s6
 refine s_no1 (fun R k=>⟨_,rfl,l,rfl,⟨_,SqL.of (s26 _ _ el2)⟩,?_⟩) fun H8 s8=>?_
 ·refine lc_newD (fun i=>PyData.str (S (saidC (sayL wdTo) (sayN wdTo) (D.getD i (.one (.note "")))))) (SqL.of (s26 _ _ el2)) (by rw[List.length_map];omega) ?_ ?_
  ·intro i x hx H7 s7 C N hC
   obtain ⟨a,p,rfl,hp1,hp2⟩:=pcs_at hps2 hx
   have hm:=List.mem_of_getElem? hp1
   have s27:=s26.trans s7
   have hat:=hp2.same s27
   obtain ⟨dx,fs,e1,e2⟩:=cls_at hat
   refine ⟨(nfLe.refl _ _ _).set (by decide) _,iteT (B:=N H7) ⟨_,rfl,a,clsP c p,dx,fs,_,_,[d1,d2],rfl,e1,e2,hD2 s27,fun base' B=>(saidB base' B).2 p (hR2 p hm),_,rfl,_,rfl,hD2 s27,a,p,rfl,pc_ks (ksd s27) hat,rfl,(hok p hm).asc,(hsd p hm).1,fun HA sA _=>hC _ _ (sB sA) (saidD hp1)⟩⟩
  ·intro D1 H7 hD1 s7 d7
   rw[List.length_map,hlenD,range_get D _ fun p=>PyData.str (S (saidC (sayL wdTo) (sayN wdTo) p))] at d7
   have s27:=s26.trans s7
   refine ⟨_,rfl,d,rfl,⟨_,SqL.of (s27 _ _ ed2)⟩,?_⟩
   refine lc_newD (fun i=>PyData.str (S (saidC (sayL wdTo) (sayN wdTo) (D.getD i (.one (.note "")))))) (SqL.of (s27 _ _ ed2)) (by omega) ?_ ?_
   ·intro i x hx H8 s8 C N hC
    obtain ⟨p,hp,_,_⟩:=told_get da2 hx
    have e1:saids wdTo [p]=saidC (sayL wdTo) (sayN wdTo) p:=List.append_nil _
    refine ⟨(nfLe.refl _ _ _).set (by decide) _,iteT (B:=N H8) ⟨_,rfl,big (show (1:Nat)<=1000000 by decide),fun o ho=>⟨.ref o,[p],wdTo,rfl,lone (s27.trans s8) hx ho hp,(fun _ _=>trivial),by rw[e1];exact (hsd p (List.mem_of_getElem? hp)).1,fun H9 s9=>hC _ _ ((same_new ho _).trans s9) ?_⟩⟩⟩
    rw[e1]
    exact saidD hp
   ·intro D2 H9 hD2 s9 d9
    rw[hyl,range_get D _ fun p=>PyData.str (S (saidC (sayL wdTo) (sayN wdTo) p))] at d9
    exact ⟨_,(d7.out.same s9).den,d9.out.den,sDepth D _,_,rfl,k H9 (s7.trans s9)⟩
 have s28:=s26.trans s8
 refine ⟨_,rfl,l,as,D,rfl,s28 _ _ el2,hps2.same s28,hR2,by omega,fun r2 HB sB' dB=>?_⟩
 have s2B:=s28.trans sB'
 exact ⟨_,rfl,_,dB.out.den,(hdd2.same s2B).den,dDepth D,q HB (ks2.trans (KS.of s2B)) (tab2.keep s2B)⟩
end
end K5
set_option Elab.async false
set_option linter.all false
set_option maxRecDepth 100000
namespace Lw
open PySem L2 Lm
theorem text3 (n:Int):(textF n 3).length<=21:=by
 refine Nat.le_trans (glue_len (n:=6) fun w hw=>?_) ?_
 ·obtain ⟨t,_,rfl⟩:=List.mem_map.mp hw
  exact (word_ok n t).2
 ·rw[List.length_map,List.length_range]
  omega
theorem sig23 (n m:Int):(endsF (textF n 3) m).length<=23:=by
 have:=text3 n
 unfold endsF
 rw[List.length_append,List.length_append]
 have h:∀ {p:Prop} [Decidable p],(if p then [32] else []:List Nat).length<=1:=fun {p} _=>by split <;> simp
 have h1:=h (p:=m % 4=1)
 have h2:=h (p:=m / 4 % 4=1)
 omega
def Sm1 (p:P1):Prop:=Ok1 p/\sz1 p<=60
def SmC (p:PC):Prop:=OkC p/\szC p<=200
theorem small_sm {n:Int} (h:0<=n):Asc (smallC (nameF n))/\(smallC (nameF n)).length<=12:=by
 have:=(small_name (name_ok n h)).1
 exact ⟨name_asc this,name12 this⟩
theorem p1F_sm {n:Int} {before k:Str} (h:0<=n):Sm1 (p1F n before k):=by
 have he:=(sig_ok n).1
 have hl:=sig23 (mixF (n / 6) 71) (n / 6 / 3)
 unfold p1F
 generalize endsF (textF (mixF (n / 6) 71) 3) (n / 6 / 3)=l at he hl ⊢
 split
 ·obtain ⟨a,b⟩:=small_sm (n:=n / 6 / 3) (by omega)
  exact ⟨a,by show (smallC (nameF (n / 6 / 3))).length+20<=60;omega⟩
 ·split
  ·obtain ⟨a,b⟩:=small_sm (n:=n / 6 / 7) (by omega)
   refine ⟨⟨asc_app (by split <;> exact asc_mk _ rfl) he.sg.asc,a⟩,?_⟩
   show ((if n / 6 % 5=0 then [94] else [])++l).length+(smallC (nameF (n / 6 / 7))).length+20<=60
   rw[List.length_append]
   have:(if n / 6 % 5=0 then [94] else []:List Nat).length<=1:=by split <;> simp
   omega
  ·split
   ·refine ⟨(tick_edg he).1.sg.asc,?_⟩
    show (tickF l).length+2<=60
    rw[show tickF l=_ from tick_map 96 39 l,List.length_map]
    omega
   ·split
    ·exact ⟨⟨asc_app (asc_mk [58] rfl) he.sg.asc,fun z=>nomatch z⟩,by show (58::l).length<=60;rw[List.length_cons];omega⟩
    ·exact ⟨⟨he.sg.asc,he.ne⟩,by show l.length<=60;omega⟩
theorem goF_mem {α:Type} {part:Int->Str->α} {kd:α->Str} {n:Int} {ok:α->Prop} (hok:∀ m b,0<=m->ok (part m b)):∀ t:Nat,∀ a∈(goF part kd n t).1,ok a
 |0,_,z=>nomatch z
 |t+1,a,ha=>by
  rcases List.mem_append.mp (show a∈(goF part kd n t).1++[_] from ha) with z |z
  ·exact goF_mem hok t a z
  ·rw[List.mem_singleton.mp z];exact hok _ _ (mixF_ok _ _).1
theorem sum_le {l:List P1} (h:∀ p∈l,sz1 p<=60):(l.map sz1).sum<=60 * l.length:=by
 induction l with
 |nil=>exact Nat.le_refl _
 |cons p l ih=>
  rw[List.map_cons,List.sum_cons,List.length_cons]
  have h1:=h p List.mem_cons_self
  have h2:=ih fun q hq=>h q (List.mem_cons_of_mem _ hq)
  omega
theorem partF_sm {n:Int} {before:Str} (h:0<=n):SmC (partF n before):=by
 unfold partF
 split
 ·have h1:∀ p∈inF (mixF (n / 6) 70) (1+n / 6 % 3).toNat,Sm1 p:=goF_mem (fun m b hm=>p1F_sm hm) _
  refine ⟨fun p hp=>(h1 p hp).1,?_⟩
  show ((inF (mixF (n / 6) 70) (1+n / 6 % 3).toNat).map sz1).sum+2<=200
  have h2:=sum_le fun p hp=>(h1 p hp).2
  rw[(inF_ok _ _).1] at h2
  omega
 ·have:=p1F_sm (before:=before) (k:=kindF n before false) h
  exact ⟨this.1,by show sz1 _<=200;have:=this.2;omega⟩
theorem cut_sm {l m:List Nat} (h:SmC (.one (.plain (S l)))) (hs:m.Sublist l) (hk:PCOk (.one (.plain (S m)))):SmC (.one (.plain (S m))):=
 ⟨⟨fun c hc=>h.1.1 c (hs.subset hc),okSg_ne hk.1⟩,Nat.le_trans hs.length_le h.2⟩
theorem ls_sm {p:PC} (h:SmC p) (hk:PCOk (lsP p)):SmC (lsP p):=by
 match p,h,hk with
 | .one (.plain s),h,hk=>
  obtain ⟨l,rfl⟩:∃ l,s=S l:=⟨_,(S_of s).symm⟩
  have hl:Txt.lstripChars (S l) " "=S (l.dropWhile ([32]:List Nat).contains):=lstrip_S l [32]
  show SmC (.one (.plain (Txt.lstripChars (S l) " ")))
  have hk:PCOk (.one (.plain (Txt.lstripChars (S l) " "))):=hk
  rw[hl] at hk ⊢
  exact cut_sm h (List.dropWhile_sublist _) hk
 | .one (.code s),h,_=>exact h
 | .one (.link a b),h,_=>exact h
 | .one (.note s),h,_=>exact h
 | .strong ps,h,_=>exact h
theorem rs_sm {p:PC} (h:SmC p) (hk:PCOk (rsP p)):SmC (rsP p):=by
 match p,h,hk with
 | .one (.plain s),h,hk=>
  obtain ⟨l,rfl⟩:∃ l,s=S l:=⟨_,(S_of s).symm⟩
  have hl:Txt.rstripChars (S l) " "=S (rstripL ([32]:List Nat).contains l):=rstrip_S l [32]
  show SmC (.one (.plain (Txt.rstripChars (S l) " ")))
  have hk:PCOk (.one (.plain (Txt.rstripChars (S l) " "))):=hk
  rw[hl] at hk ⊢
  refine cut_sm h ?_ hk
  unfold rstripL
  have:=(List.dropWhile_sublist (l:=l.reverse) ([32]:List Nat).contains).reverse
  rwa [List.reverse_reverse] at this
 | .one (.code s),h,_=>exact h
 | .one (.link a b),h,_=>exact h
 | .one (.note s),h,_=>exact h
 | .strong ps,h,_=>exact h
theorem partsF_sm (n:Int) (t:Nat):∀ p∈partsF n t,SmC p:=by
 have h0:∀ p∈(goF partF kdP n t).1,SmC p:=goF_mem (fun m b hm=>partF_sm hm) t
 obtain ⟨_,h2,_⟩:=rawF_ok n t
 have hp:=(partsF_ok n t).2.1
 unfold partsF at hp ⊢
 generalize (goF partF kdP n t).1=l at h0 h2 hp
 cases l with
 |nil=>exact fun _ z=>nomatch z
 |cons a r=>
  have h1:∀ p∈lsP a::r,SmC p:=fun p hp=>by
   rcases List.mem_cons.mp hp with rfl |z
   ·exact ls_sm (h0 a List.mem_cons_self) (lsP_ok (h2 a List.mem_cons_self).1 (h2 a List.mem_cons_self).2).1
   ·exact h0 p (List.mem_cons_of_mem _ z)
  show ∀ p∈laL rsP (lsP a::r),SmC p
  have hp:∀ p∈laL rsP (lsP a::r),PCOk p:=hp
  generalize lsP a::r=l at h1 hp
  rcases List.eq_nil_or_concat l with rfl |⟨q,x,rfl⟩
  ·exact fun _ z=>nomatch z
  ·rw[List.concat_eq_append] at h1 hp ⊢
   rw[laL_snoc] at hp ⊢
   intro p hq
   rcases List.mem_append.mp hq with z |z
   ·exact h1 p (List.mem_append_left _ z)
   ·rw[List.mem_singleton.mp z]
    exact rs_sm (h1 x (List.mem_append_right _ (List.mem_singleton.mpr rfl))) (hp _ (List.mem_append_right _ (List.mem_singleton.mpr rfl)))
theorem sm_sum {l:List PC} (h:∀ p∈l,SmC p):(l.map szC).sum<=200 * l.length:=by
 induction l with
 |nil=>exact Nat.le_refl _
 |cons p l ih=>
  rw[List.map_cons,List.sum_cons,List.length_cons]
  have h1:=(h p List.mem_cons_self).2
  have h2:=ih fun q hq=>h q (List.mem_cons_of_mem _ hq)
  omega
end Lw
set_option Elab.async false
set_option linter.all false
set_option maxRecDepth 100000
set_option maxHeartbeats 4000000
namespace K5
open PySem L2 Lm Lw PySem.Builtin.Int
structure TxW (mg:Str->Option Value):Prop where
 n_isinstance:mg "isinstance"=none
 n_list:mg "list"=none
structure Drawn (D:List PC):Prop where
 len:D.length<=20
 ok:∀ p∈D,OkC p
 sum:(D.map szC).sum<=4000
 norm:normD (.list (D.map dP))=some D
 back:partsC (raws false D)=D
theorem drawn_of (N:Int) {t:Nat} (h:t<=20):Drawn (partsF N t):=by
 obtain ⟨h1,h2,h3,_⟩:=partsF_ok N t
 have hs:=partsF_sm N t
 have ok:∀ p∈partsF N t,OkC p:=fun p hp=>(hs p hp).1
 refine ⟨by omega,ok,?_,partsF_norm N t,parts_raws (nm_of h2 h3) (raws_ok ok).2⟩
 have:=sm_sum hs
 omega
section
variable {P:Program} {w:World} {K:PySem.W.Frag} {mg:Str->Option Value} {base:Heap} {c:Cp} {BT:Addr}
abbrev sLaw5:Stmt:=top 59
theorem scLaw5:FnScope ["_law_script","_law_cell_here","_law_size","_law_number","_law_due","_law_told","_law_other","_law_parts_here","_law_second","_law_order","_law_again","_law_built_here"] ["_law_script"] (defScope sLaw5):=⟨rfl,rfl,rfl,by decide +kernel,rfl,by decide +kernel,by decide +kernel⟩
def spLaw5 (K:PySem.W.Frag) (Pt:Addr):Sp:=fun vs H Q _=>∃ (a:Addr) (ns:List Int),vs=[.ref a]/\SqL K H a (vI ns)/\(∀ n∈ns,intBits n<=1048576)/\H Pt=some (.tbl #[])/\∀ H',Q (.bl true) H'
theorem ok_law5 {f Pt:Addr} {fd:FuncData} {np nn:Nat} (F:Fun K "law" "law" sLaw5 f fd) (T:TxW mg) (D_l_cell:Def P w K mg base 1 "_law_cell" ["_law_script","_law_k"] (spCell K)) (D_l_mixed:Def P w K mg base 1 "_law_mixed" ["_law_cell_here","_law_k"] spMixed)
  (D_l_parts:Def P w K mg base np "_law_parts" ["_law_number","_law_size","_law_is_inner"] (spParts7 false)) (D_need_parts:DefR P w K mg base nn "need_parts" ["told"] (spNeed K BT c)) (D_l_spoilt:Def P w K mg base 1 "_law_spoilt" ["_law_told"] spSpoilt) (D_l_asked:Def P w K mg base 8 "_law_asked" ["_law_parts_here","_law_due","_law_number"] (spAsked c Pt))
  (D_told_parts:Def P w K mg base 4 "told_parts" ["parts"] (spTolds c R2)) (D_raw_of:Def P w K mg base 5 "raw_of" ["parts"] (spRaws c R2)) (D_parts_of:Def P w K mg base 6 "parts_of" ["text"] (spPartsOf c)) (D_l_raw:Def P w K mg base 6 "_law_raw" ["_law_told"] (spLRaw fun _=>True)) (D_l_built:Def P w K mg base 8 "_law_built" ["_law_told"] (spBuilt c fun _=>True)):
  FnOk P w K mg base CX0 (np+nn+9) f fd ["_law_script"] (spLaw5 K Pt):=by
 have sc:=scLaw5
 refine F.ok sc (fun vs H Q E h=>?_) (fun cdv A outer s H vs Q E hr h=>?_)
 ·obtain ⟨a,ns,rfl,_⟩:=h
  rfl
 obtain ⟨a,ns,rfl,hq,hb,eP,q⟩:=h
 have hu:(A.deeper (PyProof.Rows.envOfC "law" (defScope sLaw5) s.heap.objs.size f cdv)).units+64 < cLine:=by
  have:=hr.un
  omega
 refine of_XB (xbc (xset (i:=1) sc.nd rfl (Or.inl rfl) (xcD D_l_cell (hr.mono (by omega)) (xac (xv 0) (xac xint xa0))))
  (xbc (xset (i:=2) sc.nd rfl (Or.inl rfl) (xop op_add xint (xop op_mod (xv 1) xint)))
  (xbc (xif (xcmpT op_eq (xop op_mod (xop op_fdiv (xv 1) xint) xint) xint (nomark _)) (xb1 (xset (i:=2) sc.nd rfl (Or.inl rfl) (xop op_add xint (xop op_mod (xop op_fdiv (xv 1) xint) xint)))) xb0)
  (xbc (xset (i:=3) sc.nd rfl (Or.inl rfl) (xcD D_l_mixed (hr.mono (by omega)) (xac (xcD D_l_cell (hr.mono (by omega)) (xac (xv 0) (xac xint xa0))) (xac xint xa0))))
  (xbc (xset (i:=4) sc.nd rfl (Or.inl rfl) (xcD D_l_parts (hr.mono (by omega)) (xac (xv 3) (xac (xv 2) (xac xbl xa0)))))
  (xbc (xset (i:=5) sc.nd rfl (Or.inl rfl) (xcD D_l_parts (hr.mono (by omega)) (xac (xv 3) (xac (xv 2) (xac xbl xa0)))))
  (xbc (xset (i:=6) sc.nd rfl (Or.inl rfl) (xcD D_l_parts (hr.mono (by omega)) (xac (xcD D_l_mixed (hr.mono (by omega)) (xac (xcD D_l_cell (hr.mono (by omega)) (xac (xv 0) (xac xint xa0))) (xac xint xa0))) (xac (xop op_add xint (xop op_mod (xv 3) xint)) (xac xbl xa0)))))
  (xbc (xset (i:=7) sc.nd rfl (Or.inl rfl) (xcR D_need_parts (hr.mono (by omega)) (xac (xv 5) xa0)))
  (xbc (xset (i:=8) sc.nd rfl (Or.inl rfl) (xcR D_need_parts (hr.mono (by omega)) (xac (xv 6) xa0)))
  (xbc (xif (xor (xnotT (xvalT (xcB call_isT T.n_isinstance rfl (xac (xv 7) (xac (xty (T:="list") T.n_list rfl) xa0))))) (xor1 (xcmpT (op_neW hu) (xv 5) (xv 4) (nomark _)))).xt (xb1 (xret xbl)) xb0)
  (xbc (xexpr (xcD D_l_spoilt (hr.mono (by omega)) (xac (xv 5) xa0)))
  (xbc (xset (i:=9) sc.nd rfl (Or.inl rfl) (xcD D_l_mixed (hr.mono (by omega)) (xac (xcD D_l_cell (hr.mono (by omega)) (xac (xv 0) (xac xint xa0))) (xac xint xa0))))
  (xbc (xif (xor (xnotT (xvalT (xcD D_l_asked (hr.mono (by omega)) (xac (xv 7) (xac (xv 4) (xac (xv 9) xa0)))))) (xor1 (xnotT (xvalT (xcD D_l_asked (hr.mono (by omega)) (xac (xv 8) (xac (xv 6) (xac (xop op_fdiv (xv 9) xint) xa0)))))))).xt (xb1 (xret xbl)) xb0)
  (xbc (xset (i:=10) sc.nd rfl (Or.inl rfl) (xcD D_told_parts (hr.mono (by omega)) (xac (xcD D_parts_of (hr.mono (by omega)) (xac (xcD D_raw_of (hr.mono (by omega)) (xac (xv 7) xa0)) xa0)) xa0)))
  (xbc (xif (xor (xcmpT (op_neW hu) (xv 10) (xv 4) (nomark _)) (xor1 (xcmpT (op_neW hu) (xcD D_told_parts (hr.mono (by omega)) (xac (xcD D_parts_of (hr.mono (by omega)) (xac (xcD D_l_raw (hr.mono (by omega)) (xac (xv 6) xa0)) xa0)) xa0)) (xv 6) (nomark _)))).xt (xb1 (xret xbl)) xb0)
  (xbc (xset (i:=11) sc.nd rfl (Or.inl rfl) (xcD D_l_built (hr.mono (by omega)) (xac (xv 4) xa0)))
  (xbc (xif (xor (xnotT (xvalT (xcD D_l_asked (hr.mono (by omega)) (xac (xv 11) (xac (xv 4) (xac (xop op_fdiv (xv 9) xint) xa0)))))) (xor1 (xcmpT (op_neW hu) (xcD D_told_parts (hr.mono (by omega)) (xac (xv 7) xa0)) (xv 4) (nomark _)))).xt (xb1 (xret xbl)) xb0)
  (xb1 (xret (xandV (xcmp (op_eq0 hu) (xcR D_need_parts (hr.mono (by omega)) (xac (xlst xa0) xa0)) (xlst xa0) (nomark _)) (xone (xcmp op_eq (xcD D_raw_of (hr.mono (by omega)) (xac (xlst xa0) xa0)) xstr (nomark _))))))))))))))))))))))) ?_
 have hs:sizeLine=16777216:=sizeLine_eq
 rw[show start ["_law_script","_law_cell_here","_law_size","_law_number","_law_due","_law_told","_law_other","_law_parts_here","_law_second","_law_order","_law_again","_law_built_here"] [V.ref a]=[some (V.ref a),none,none,none,none,none,none,none,none,none,none,none] from rfl]
 refine ⟨_,rfl,a,ns,0,rfl,by decide,hq,hb,fun i0 hi0=>?_⟩
 dsimp only[gName,List.set_cons_succ,List.set_cons_zero]
 refine ⟨_,rfl,_,_,rfl,rfl,show (0:Int) < 7 by decide,_,_,rfl,rfl,?_⟩
 dsimp only[gName,List.set_cons_succ,List.set_cons_zero]
 refine s_join (fun σ' H'=>∃ z:Int,σ'=[some (.ref a),some (.int i0),some (.int z),none,none,none,none,none,none,none,none,none]/\1<=z/\z<=20/\Same H H') (fun N hN=>?_) ?_
 ·refine s_if (decide (i0 / 7 % 9=0)) (t_eqi (fun R r=>⟨_,rfl,_,_,rfl,rfl,⟨by decide,by decide⟩,_,_,rfl,rfl,show (0:Int) < 9 by decide,r⟩) ev_c) (fun H1 s1 _=>?_) (fun H1 s1 _=>hN _ _ ⟨1+i0 % 7,rfl,by omega,by omega,s1⟩)
  exact ⟨_,rfl,_,_,rfl,rfl,⟨by decide,by decide⟩,_,_,rfl,rfl,show (0:Int) < 20 by decide,_,_,rfl,rfl,hN _ _ ⟨1+i0 / 63 % 20,rfl,by omega,by omega,s1⟩⟩
 rintro σ' H0 ⟨z,rfl,z1,z2,s0⟩
 refine ⟨_,rfl,a,ns,1,rfl,by decide,s0.seq hq,hb,fun i1 hi1=>⟨i1,1,rfl,hi1,by decide,by decide,?_⟩⟩
 obtain ⟨N0,N1⟩:=mixF_ok i1 1
 generalize mixF i1 1=N at N0 N1 ⊢
 dsimp only[gName,List.set_cons_succ,List.set_cons_zero]
 refine ⟨_,rfl,_,rfl,N,z,rfl,N0,by omega,z1,by omega,fun r1 xs1 H1 s1 hr1 e1 o1=>?_⟩
 dsimp only[gName,List.set_cons_succ,List.set_cons_zero]
 refine ⟨_,rfl,_,rfl,N,z,rfl,N0,by omega,z1,by omega,fun r2 xs2 H2 s2 hr2 e2 o2=>?_⟩
 dsimp only[gName,List.set_cons_succ,List.set_cons_zero]
 refine ⟨_,rfl,a,ns,2,rfl,by decide,((s0.trans s1).trans s2).seq hq,hb,fun i2 hi2=>⟨i2,2,rfl,hi2,by decide,by decide,_,rfl,_,_,rfl,rfl,show (0:Int) < 3 by decide,_,_,rfl,rfl,mixF i2 2,1+N % 3,rfl,(mixF_ok _ _).1,Int.le_trans (mixF_ok _ _).2 (by decide),by omega,by omega,fun r3 xs3 H3 s3 hr3 e3 o3=>?_⟩⟩
 dsimp only[gName,List.set_cons_succ,List.set_cons_zero]
 have dD:Drawn (partsF N z.toNat):=drawn_of N (by omega)
 have dO:Drawn (partsF (mixF i2 2) (1+N % 3).toNat):=drawn_of _ (by omega)
 have k1:DnAll (dif H0 H1) xs1 ((partsF N z.toNat).map dP):=o1.toDif fun b hb => .inr hb
 have k2:DnAll (dif H1 H2) xs2 ((partsF N z.toNat).map dP):=o2.toDif fun b hb => .inr hb
 have k3:DnAll (dif H2 H3) xs3 ((partsF (mixF i2 2) (1+N % 3).toNat).map dP):=o3.toDif fun b hb => .inr hb
 clear o1 o2 o3
 generalize partsF N z.toNat=D at dD k1 k2
 generalize partsF (mixF i2 2) (1+N % 3).toNat=O at dO k3
 have hDl:=dD.len
 have hOl:=dO.len
 have hDs:=dD.sum
 have hOs:=dO.sum
 have n1:Dn H1 (.ref r1) (.list (D.map dP)) := .lst e1 (k1.same dif_same) (by rw[k1.len,List.length_map];omega)
 have n2:Dn (dif H1 H2) (.ref r2) (.list (D.map dP)) := .lst (by rw[dif_at hr2];exact e2) k2 (by rw[k2.len,List.length_map];omega)
 have n3:Dn (dif H2 H3) (.ref r3) (.list (O.map dP)) := .lst (by rw[dif_at hr3];exact e3) k3 (by rw[k3.len,List.length_map];omega)
 have rD:=raws_ok (b:=false) dD.ok
 have rO:=raws_ok (b:=false) dO.ok
 have R2D:=r2_of dD.ok (by omega)
 have R2O:=r2_of dO.ok (by omega)
 refine ⟨_,rfl,_,rfl, .inl ⟨r2,xs2,_,rfl,s3 _ _ e2,(k2.same dif_same).same s3,by rw[List.length_map];omega,fun ps hps l4 as4 H4 s4 hl4 e4 p4=>?_,fun y=>?_⟩⟩
 rotate_left
 ·rw[dD.norm] at y;cases y
 rw[dD.norm] at hps
 cases hps
 dsimp only[gName,List.set_cons_succ,List.set_cons_zero]
 refine ⟨_,rfl,_,rfl, .inl ⟨r3,xs3,_,rfl,s4 _ _ e3,(k3.same dif_same).same s4,by rw[List.length_map];omega,fun ps hps l5 as5 H5 s5 hl5 e5 p5=>?_,fun y=>?_⟩⟩
 rotate_left
 ·rw[dO.norm] at y;cases y
 rw[dO.norm] at hps
 cases hps
 dsimp only[gName,List.set_cons_succ,List.set_cons_zero]
 have S25:=(s3.trans s4).trans s5
 refine s_no1 (t_or false false (t_not true fun R k=>⟨_,rfl,_,_,_,_,rfl, .lst (s5 _ _ e4),kit_same _ _,_,rfl,k _ (Same.refl _)⟩) fun _ H6 s6 R k=>⟨_,rfl,_,rfl,_,((n2.same dif_same).same (S25.trans s6)).den,(n1.same ((s2.trans S25).trans s6)).den,dDepth D,_,rfl,k _ (Same.refl _)⟩) fun H6 s6=>?_
 refine ⟨_,rfl,H1,H2,r2,D,rfl,S25.trans s6,n2,fun H7 kp=>?_⟩
 have S16:Same H1 H6:=(s2.trans S25).trans s6
 have S17:Same H1 H7:=fun b o e=>kp b o (fun y=>by rw[e] at y;cases y) (S16 _ _ e)
 have newK:∀ {Ha Hb:Hp},Same H2 Ha->Same Hb H6->Same (dif Ha Hb) H7:=fun sa sb b o e=>kp b o (fun _=>sa.free (dif_some e).1) (sb _ _ (dif_some e).2)
 have S36:Same H3 H6:=(s4.trans s5).trans s6
 have t3:Same (dif H2 H3) H7:=newK (Same.refl _) S36
 have t4:Same (dif H3 H4) H7:=newK s3 (s5.trans s6)
 have t5:Same (dif H4 H5) H7:=newK (s3.trans s4) s6
 have m1:=n1.same S17
 have m3:=n3.same t3
 have q4:=p4.same t4
 have q5:=p5.same t5
 have f4:H7 l4=some (.lst (as4.map V.ref)):=t4 _ _ (by rw[dif_at hl4];exact e4)
 have f5:H7 l5=some (.lst (as5.map V.ref)):=t5 _ _ (by rw[dif_at hl5];exact e5)
 have SH7:=(s0.trans s1).trans S17
 have tab7:Tab Pt qsAsked H7:=Tab.new (SH7 _ _ eP)
 clear n1 n2 n3 k1 k2 k3 p4 p5 t3 t4 t5
 refine ⟨_,rfl,a,ns,3,rfl,by decide,SH7.seq hq,hb,fun i3 hi3=>⟨i3,3,rfl,hi3,by decide,by decide,?_⟩⟩
 generalize mixF i3 3=M
 dsimp only[gName,List.set_cons_succ,List.set_cons_zero]
 refine ⟨_,rfl,_,rfl,_,rfl,l4,r1,M,as4,D,rfl,f4,q4,m1,dD.ok,by omega,tab7,fun H8 ks8 tab8=>⟨_,rfl,?_⟩⟩
 refine ite2 (fun y=>Bool.noConfusion y) (fun _=>?_)
 refine ⟨_,rfl,_,rfl,_,rfl,_,_,rfl,rfl,⟨by decide,by decide⟩,l5,r3,M / 3,as5,O,rfl,ks8 _ _ Kd.lst f5,pcs_ks ks8 q5,dn_ks ks8 m3,dO.ok,by omega,tab8,fun H9 ks9 tab9=>⟨_,rfl,?_⟩⟩
 refine ite2 (fun y=>Bool.noConfusion y) (fun _=>?_)
 have ks79:=ks8.trans ks9
 have m1:=dn_ks ks79 m1
 have m3:=dn_ks ks79 m3
 have q4:=pcs_ks ks79 q4
 have f4:=ks79 _ _ Kd.lst f4
 have l4':=q4.len
 refine ⟨_,rfl,l4,as4,D,rfl,f4,q4,R2D,by omega,by omega,fun HA sA=>⟨raws false D,rfl,by omega,rD.2,fun rb bs HB sB hrb eB pB=>?_⟩⟩
 rw[dD.back] at pB
 refine ⟨rb,bs,D,rfl,eB,pB.same dif_same,R2D,by rw[pB.len];omega,fun rc HC sC dC=>?_⟩
 dsimp only[gName,List.set_cons_succ,List.set_cons_zero]
 have S9C:=(sA.trans sB).trans sC
 refine s_no1 (t_or false false (fun R k=>⟨_,rfl,_,rfl,_,dC.out.den,(m1.same S9C).den,dDepth D,_,rfl,k _ (Same.refl _)⟩) fun _ HD sD R k=>?_) fun HD sD=>?_
 ·have S9D:=S9C.trans sD
  refine ⟨_,rfl, .ref r3,O,rfl,m3.same S9D,(fun _ _=>trivial),by omega,fun HE sE=>⟨raws false O,rfl,by omega,rO.2,fun rd cs HF sF hrd eF pF=>?_⟩⟩
  rw[dO.back] at pF
  refine ⟨rd,cs,O,rfl,eF,pF.same dif_same,R2O,by rw[pF.len];omega,fun re HG sG dG=>?_⟩
  exact ⟨_,rfl,_,dG.out.den,(m3.same (((S9D.trans sE).trans sF).trans sG)).den,dDepth O,_,rfl,k _ ((sE.trans sF).trans sG)⟩
 have S9D:=S9C.trans sD
 refine ⟨_,rfl, .ref r1,D,rfl,m1.same S9D,(fun _ _=>trivial),fun rd cs HE sE hrd eE nE=>?_⟩
 dsimp only[gName,List.set_cons_succ,List.set_cons_zero]
 have S9E:=S9D.trans sE
 have pE:PCs c HE cs D:=let ⟨G,g1,_,_,g4⟩:=nE;g4.same g1
 refine ⟨_,rfl,_,rfl,_,rfl,_,_,rfl,rfl,⟨by decide,by decide⟩,rd,r1,M / 9,cs,D,rfl,eE,pE,m1.same S9E,dD.ok,by omega,tab9.keep S9E,fun HF ksF tabF=>⟨_,rfl,?_⟩⟩
 refine ite2 (fun y=>Bool.noConfusion y) (fun _=>?_)
 have ks9F:=(KS.of S9E).trans ksF
 refine ⟨_,rfl,l4,as4,D,rfl,ks9F _ _ Kd.lst f4,pcs_ks ks9F q4,R2D,by omega,fun re HG sG dG=>?_⟩
 refine ⟨_,rfl,_,dG.out.den,(dn_ks (ks9F.trans (KS.of sG)) m1).den,dDepth D,_,rfl,?_⟩
 refine ite2 (fun y=>Bool.noConfusion y) (fun _=>?_)
 refine ⟨big (show (0:Nat)<=1000000 by decide),fun o1 ho1=>?_⟩
 have so:=same_new ho1 (.lst [])
 have eo:upd HG o1 (.lst []) o1=some (.lst []):=upd_same
 generalize upd HG o1 (.lst [])=HH at so eo ⊢
 refine ⟨_,rfl, .inl ⟨o1,[],[],rfl,eo, .nil,by decide,fun ps hps l6 as6 HI sI hl6 eI pI=>?_,fun y=>?_⟩⟩
 rotate_left
 ·cases y
 cases hps
 have h6:as6=[]:=List.eq_nil_of_length_eq_zero pI.len
 subst h6
 refine ⟨big (show (0:Nat)<=1000000 by decide),fun o2 ho2=>?_⟩
 refine ⟨l6,o2,_,rfl,rfl,SqL.of (same_new ho2 _ _ _ eI),SqL.of upd_same,_,rfl,?_⟩
 refine ite2 (fun _=>?_) (fun y=>absurd rfl y)
 refine ⟨big (show (0:Nat)<=1000000 by decide),fun o3 ho3=>⟨o3,[],[],rfl,upd_same,trivial,(fun _ y=>nomatch y),by decide,by decide,fun HJ sJ=>⟨rfl,?_⟩⟩⟩
 rw[show decide (vS (raws false [])=V.str (Str.ofString ""))=true from decide_eq_true rfl]
 exact q HJ
end
end K5
set_option Elab.async false
set_option linter.all false
set_option maxRecDepth 100000
set_option maxHeartbeats 4000000
namespace K5
open PySem L2 Lm Lw
theorem b1 {α:Type} {p:List α->Prop} (h:∀ a,p [a]) (us:List α) (hl:us.length=1):p us:=match us,hl with | [a],_=>h a
theorem b2 {α:Type} {p:List α->Prop} (h:∀ a b,p [a,b]) (us:List α) (hl:us.length=2):p us:=match us,hl with | [a,b],_=>h a b
theorem b3 {α:Type} {p:List α->Prop} (h:∀ a b c,p [a,b,c]) (us:List α) (hl:us.length=3):p us:=match us,hl with | [a,b,c],_=>h a b c
theorem meth_imp {P:Program} {w:World} {K:PySem.W.Frag} {mg:Str->Option Value} {base:Heap} {k:Nat} {C:Addr} {m:Str} {ps:List Str} {sp sp':Sp} (V:MethV P w K mg base k C m ps sp) (h:∀ vs H Q E,sp' vs H Q E->sp vs H Q E):MethV P w K mg base k C m ps sp':=
 let ⟨f,fd,a,b,F,c⟩:=V.ex;⟨f,fd,a,b,⟨fun vs H Q E x=>F.len _ _ _ _ (h _ _ _ _ x),fun A o s H args us vs Q E hr e0 hb r x=>F.run A o s H args us vs Q E hr e0 hb r (h _ _ _ _ x)⟩,c⟩
structure FnIn (K:PySem.W.Frag) (x:Str) (st:Stmt) (p:Value->Prop):Prop where
 ex:∃ (f:Addr) (oc:Value) (od:Option Addr) (kV dc pm:Value) (an:Option Addr) (cd ct:Value) (sl:Array (Option Value)),PySem.W.nsIn K mainGlobals x=some (some (.ref f)) ∧
  K.lookup f=some ⟨oc,od, .func (PySem.W.fnOf x x (defArgs st) (defBody st) (defScope st) .none kV dc pm an cd ct),sl⟩/\PySem.W.codeIn K cd x=true/\PySem.W.keepIn K (.ref f)=true/\p cd
theorem fnIn_mk {K:PySem.W.Frag} {x:Str} {st:Stmt} {p:Value->Prop} {f:Addr} {oc:Value} {od:Option Addr} {kV dc pm:Value} {an:Option Addr} {cd ct:Value} {sl:Array (Option Value)} (a:PySem.W.nsIn K mainGlobals x=some (some (.ref f)))
  (l:K.lookup f=some ⟨oc,od, .func (PySem.W.fnOf x x (defArgs st) (defBody st) (defScope st) .none kV dc pm an cd ct),sl⟩) (c:PySem.W.codeIn K cd x=true) (k:PySem.W.keepIn K (.ref f)=true) (q:p cd):FnIn K x st p:=
 ⟨f,oc,od,kV,dc,pm,an,cd,ct,sl,a,l,c,k,q⟩
theorem FnIn.drop {K:PySem.W.Frag} {Ps:List Addr} {x:Str} {st:Stmt} {p:Value->Prop} (h:Tabs0 K Ps) (F:FnIn K x st p):FnIn (dropK K Ps) x st p:=by
 obtain ⟨f,oc,od,kV,dc,pm,an,cd,ct,sl,a,l,c,kp,q⟩:=F.ex
 have l':(dropK K Ps).lookup f=some ⟨oc,od, .func (PySem.W.fnOf x x (defArgs st) (defBody st) (defScope st) .none kV dc pm an cd ct),sl⟩:=dropK_other h l (fun z=>by injection z with _ _ z _;cases z)
 refine ⟨f,oc,od,kV,dc,pm,an,cd,ct,sl,by rw[nsIn_drop h];exact a,l',by rw[codeIn_drop h];exact c,?_,q⟩
 show (match (dropK K Ps).lookup f with |some ⟨_,_, .func _,_⟩=>true |some ⟨_,_, .cls _,_⟩=>PySem.W.specialIn (dropK K Ps) (.ref f) "__call__"==some (some (.builtin "type.__call__")) |_=>false)=true
 rw[l']
section
variable {P:Program} {w:World} {K:PySem.W.Frag} {h:Heap} {mg:Str->Option Value} {base:Heap} {x:Str} {st:Stmt} {ps:List Str} {k:Nat} {sp:Sp}
theorem def_of {p:Value->Prop} (X:K.In h) (G:h.Ns mainGlobals mg) (F:FnIn K x st p)
  (hb:∀ (kV doc pm:Value) (an:Option Addr) (cdv ct:Value) (us:List Value),us.length=ps.length->bindArgs (PySem.W.fnOf x x (defArgs st) (defBody st) (defScope st) .none kV doc pm an cdv ct) ⟨us,[]⟩=pure (ps.zip us))
  (ok:∀ f fd,Fun K x x st f fd->p fd.code->FnOk P w K mg base CX0 k f fd ps sp):Def P w K mg base k x ps sp:=by
 obtain ⟨f,oc,od,kV,dc,pm,an,cd,ct,sl,a,l,c,kp,q⟩:=F.ex
 have F1:=fun_mk (st:=st) l c kp
 exact ⟨f,_,ok f _ F1 q,PySem.W.mg_of X G a,F1.kp,F1.binds hb⟩
theorem def_ofR {p:Value->Prop} (X:K.In h) (G:h.Ns mainGlobals mg) (F:FnIn K x st p)
  (hb:∀ (kV doc pm:Value) (an:Option Addr) (cdv ct:Value) (us:List Value),us.length=ps.length->bindArgs (PySem.W.fnOf x x (defArgs st) (defBody st) (defScope st) .none kV doc pm an cdv ct) ⟨us,[]⟩=pure (ps.zip us))
  (ok:∀ f fd,Fun K x x st f fd->p fd.code->FnOk P w K mg base (CXr P w) k f fd ps sp)   : DefR P w K mg base k x ps sp:=by
 obtain ⟨f,oc,od,kV,dc,pm,an,cd,ct,sl,a,l,c,kp,q⟩:=F.ex
 have F1:=fun_mk (st:=st) l c kp
 exact ⟨f,_,ok f _ F1 q,PySem.W.mg_of X G a,F1.kp,F1.binds hb⟩
theorem mg_fn {p:Value->Prop} (X:K.In h) (G:h.Ns mainGlobals mg) (F:FnIn K x st p):∃ f,mg x=some (.ref f)/\PySem.W.keepIn K (.ref f)=true:=by
 obtain ⟨f,oc,od,kV,dc,pm,an,cd,ct,sl,a,l,c,kp,q⟩:=F.ex
 exact ⟨f,PySem.W.mg_of X G a,kp⟩
end
def spNo:Sp:=fun _ _ _ _=>False
theorem ok_no {P:Program} {w:World} {K:PySem.W.Frag} {mg:Str->Option Value} {base:Heap} {k:Nat} {ps:List Str} {CX:CXT} {f:Addr} {fd:FuncData}:FnOk P w K mg base CX k f fd ps spNo:=⟨fun _ _ _ _ z=>z.elim,fun _ _ _ _ _ _ _ _ _ _ _ _ _ z=>z.elim⟩
theorem cst_mk {K:PySem.W.Frag} {x:Str} {p:Value->Prop} {v:Value} (e:PySem.W.nsIn K mainGlobals x=some (some v)) (f:p v):∃ v,PySem.W.nsIn K mainGlobals x=some (some v)/\p v:=⟨v,e,f⟩
theorem ownx_VE {K:PySem.W.Frag} {C:Addr} (q:PySem.W.excIn K C [.type "ValueError", .type "Exception", .type "BaseException", .type "object"] "ValueError.__new__"=true):OwnX K C:=⟨_,_,_,_,q,PySem.F.excBase_ValueError⟩
structure MIn (K:PySem.W.Frag) (C:Addr) (x qual:Str) (st:Stmt):Prop where
 ex:∃ (f:Addr) (oc:Value) (od:Option Addr) (kV dc pm:Value) (an:Option Addr) (cd ct:Value) (sl:Array (Option Value)),PySem.W.findIn K (.ref C) x=some (some (.ref f))/\PySem.W.isFn K (.ref f)=true ∧
  K.lookup f=some ⟨oc,od, .func (PySem.W.fnOf x qual (defArgs st) (defBody st) (defScope st) .none kV dc pm an cd ct),sl⟩/\PySem.W.codeIn K cd qual=true/\PySem.W.keepIn K (.ref f)=true
theorem new_of {P:Program} {w:World} {K:PySem.W.Frag} {mg:Str->Option Value} {base:Heap} {x qual:Str} {C:Addr} {st:Stmt} {ps:List Str} {k:Nat} {sp:Sp} (hm:mg x=some (.ref C)) (mk:PySem.W.makesIn K C=true) (kc:PySem.W.keepIn K (.ref C)=true) (M:MIn K C "__init__" qual st)
  (hb:∀ (kV doc pm:Value) (an:Option Addr) (cdv ct:Value) (us:List Value),us.length=ps.length->bindArgs (PySem.W.fnOf "__init__" qual (defArgs st) (defBody st) (defScope st) .none kV doc pm an cdv ct) ⟨us,[]⟩=pure (ps.zip us))
  (ok:∀ f fd,Fun K "__init__" qual st f fd->FnOk P w K mg base CX0 k f fd ps sp):New P w K mg base k x C ps sp:=by
 obtain ⟨f,oc,od,kV,dc,pm,an,cd,ct,sl,a,i,l,c,kp⟩:=M.ex
 have F1:=fun_mk (st:=st) l c kp
 exact ⟨f,_,⟨mk,a,i,kc⟩,ok f _ F1,hm,F1.binds hb⟩
theorem meth_of {P:Program} {w:World} {K:PySem.W.Frag} {mg:Str->Option Value} {base:Heap} {x qual:Str} {C:Addr} {st:Stmt} {ps:List Str} {k:Nat} {sp:Sp} (hc:Cls K C) (M:MIn K C x qual st)
  (hb:∀ (kV doc pm:Value) (an:Option Addr) (cdv ct:Value) (us:List Value),us.length=ps.length->bindArgs (PySem.W.fnOf x qual (defArgs st) (defBody st) (defScope st) .none kV doc pm an cdv ct) ⟨us,[]⟩=pure (ps.zip us))
  (ok:∀ f fd,Fun K x qual st f fd->FnOk P w K mg base CX0 k f fd ps sp):MethV P w K mg base k C x ps sp:=by
 obtain ⟨f,oc,od,kV,dc,pm,an,cd,ct,sl,a,i,l,c,kp⟩:=M.ex
 have F1:=fun_mk (st:=st) l c kp
 exact ⟨f,_,hc,⟨a,i,kp⟩,ok f _ F1,F1.binds hb⟩
structure MIn2 (K K2:PySem.W.Frag) (C:Addr) (x qual:Str) (st:Stmt):Prop where
 ex:∃ (f:Addr) (oc:Value) (od:Option Addr) (kV dc pm:Value) (an:Option Addr) (cd ct:Value) (sl:Array (Option Value)),PySem.W.findIn K2 (.ref C) x=some (some (.ref f))/\PySem.W.isFn K2 (.ref f)=true ∧
  K.lookup f=some ⟨oc,od, .func (PySem.W.fnOf x qual (defArgs st) (defBody st) (defScope st) .none kV dc pm an cd ct),sl⟩/\PySem.W.codeIn K cd qual=true
theorem mIn2_mk {K K2:PySem.W.Frag} {C:Addr} {x qual:Str} {st:Stmt} {f:Addr} {oc:Value} {od:Option Addr} {kV dc pm:Value} {an:Option Addr} {cd ct:Value} {sl:Array (Option Value)} (_:PySem.W.findIn K (.ref C) x=some (some (.ref f)))
  (l:K.lookup f=some ⟨oc,od, .func (PySem.W.fnOf x qual (defArgs st) (defBody st) (defScope st) .none kV dc pm an cd ct),sl⟩) (c:PySem.W.codeIn K cd qual=true) (a2:PySem.W.findIn K2 (.ref C) x=some (some (.ref f))) (i2:PySem.W.isFn K2 (.ref f)=true):MIn2 K K2 C x qual st:=
 ⟨f,oc,od,kV,dc,pm,an,cd,ct,sl,a2,i2,l,c⟩
theorem MIn2.to {K:PySem.W.Frag} {Ps:List Addr} {C:Addr} {x qual:Str} {st:Stmt} (h:Tabs0 K Ps) (M:MIn2 K (dropK K Ps) C x qual st):MIn (dropK K Ps) C x qual st:=by
 obtain ⟨f,oc,od,kV,dc,pm,an,cd,ct,sl,a,i,l,c⟩:=M.ex
 have l':(dropK K Ps).lookup f=some ⟨oc,od, .func (PySem.W.fnOf x qual (defArgs st) (defBody st) (defScope st) .none kV dc pm an cd ct),sl⟩:=dropK_other h l (fun z=>by injection z with _ _ z _;cases z)
 refine ⟨f,oc,od,kV,dc,pm,an,cd,ct,sl,a,i,l',by rw[codeIn_drop h];exact c,?_⟩
 show (match (dropK K Ps).lookup f with |some ⟨_,_, .func _,_⟩=>true |some ⟨_,_, .cls _,_⟩=>PySem.W.specialIn (dropK K Ps) (.ref f) "__call__"==some (some (.builtin "type.__call__")) |_=>false)=true
 rw[l']
structure PIn (K:PySem.W.Frag) (C:Addr):Prop where
 mkc:PySem.W.makesIn K C=true
 kc:PySem.W.keepIn K (.ref C)=true
 pg:PySem.W.plainGet K C Str.empty=true
 hd:PySem.W.hasDictIn K C=true
 po:PySem.W.plainOver K C=true
 sa:PySem.W.findIn K (.ref C) "__setattr__"=some (some (.builtin "object.__setattr__"))
 ha:PySem.W.findIn K (.ref C) "__class__"=some (some (.builtin "object.__class__"))
 hn:PySem.W.specialIn K (.builtin "object.__class__") "__get__"=some (some (.builtin "getset_descriptor.__get__"))
 ht:PySem.W.takesIn K (.builtin "object.__class__")=some true
 hm:PySem.W.mroIn K C (.type "object")=some true
theorem PIn.cls {K:PySem.W.Frag} {C:Addr} (p:PIn K C):Cls K C:=⟨p.pg,p.hd,p.po,p.sa⟩
theorem PIn.inst {K:PySem.W.Frag} {C:Addr} (p:PIn K C):Inst K C:=⟨p.cls,p.ha,p.hn,p.ht,p.hm⟩
structure Addrs where
 BadTree:Addr
 Plain:Addr
 Code:Addr
 Strong:Addr
 Link:Addr
 Mark:Addr
structure ClsT (K2:PySem.W.Frag) (c:Addrs):Prop where
 c_BadTree:PySem.W.nsIn K2 mainGlobals "BadTree"=some (some (.ref c.BadTree))
 c_Plain:PySem.W.nsIn K2 mainGlobals "Plain"=some (some (.ref c.Plain))
 c_Code:PySem.W.nsIn K2 mainGlobals "Code"=some (some (.ref c.Code))
 c_Strong:PySem.W.nsIn K2 mainGlobals "Strong"=some (some (.ref c.Strong))
 c_Link:PySem.W.nsIn K2 mainGlobals "Link"=some (some (.ref c.Link))
 c_Mark:PySem.W.nsIn K2 mainGlobals "Mark"=some (some (.ref c.Mark))
 x_BadTree:OwnX K2 c.BadTree
 p_Plain:PIn K2 c.Plain
 n_Plain_signs:PySem.W.findIn K2 (.ref c.Plain) "signs"=some none
 j_Plain_Plain:PySem.W.kitOne K2 (.ref c.Plain) (.ref c.Plain)=some true
 j_Plain_Mark:PySem.W.kitOne K2 (.ref c.Plain) (.ref c.Mark)=some false
 s_Plain:PySem.W.kitOne K2 (.ref c.Plain) (.type "str")=some false
 p_Code:PIn K2 c.Code
 n_Code_signs:PySem.W.findIn K2 (.ref c.Code) "signs"=some none
 j_Code_Plain:PySem.W.kitOne K2 (.ref c.Code) (.ref c.Plain)=some false
 j_Code_Mark:PySem.W.kitOne K2 (.ref c.Code) (.ref c.Mark)=some false
 s_Code:PySem.W.kitOne K2 (.ref c.Code) (.type "str")=some false
 p_Strong:PIn K2 c.Strong
 n_Strong_parts:PySem.W.findIn K2 (.ref c.Strong) "parts"=some none
 j_Strong_Plain:PySem.W.kitOne K2 (.ref c.Strong) (.ref c.Plain)=some false
 j_Strong_Mark:PySem.W.kitOne K2 (.ref c.Strong) (.ref c.Mark)=some false
 s_Strong:PySem.W.kitOne K2 (.ref c.Strong) (.type "str")=some false
 p_Link:PIn K2 c.Link
 n_Link_words:PySem.W.findIn K2 (.ref c.Link) "words"=some none
 n_Link_name:PySem.W.findIn K2 (.ref c.Link) "name"=some none
 j_Link_Plain:PySem.W.kitOne K2 (.ref c.Link) (.ref c.Plain)=some false
 j_Link_Mark:PySem.W.kitOne K2 (.ref c.Link) (.ref c.Mark)=some false
 s_Link:PySem.W.kitOne K2 (.ref c.Link) (.type "str")=some false
 p_Mark:PIn K2 c.Mark
 n_Mark_name:PySem.W.findIn K2 (.ref c.Mark) "name"=some none
 j_Mark_Plain:PySem.W.kitOne K2 (.ref c.Mark) (.ref c.Plain)=some false
 j_Mark_Mark:PySem.W.kitOne K2 (.ref c.Mark) (.ref c.Mark)=some true
 s_Mark:PySem.W.kitOne K2 (.ref c.Mark) (.type "str")=some false
 m_Plain_Init:MIn K2 c.Plain "__init__" "Plain.__init__" sPlainInit
 m_Plain_Told:MIn K2 c.Plain "told" "Plain.told" sPlainTold
 m_Plain_Raw:MIn K2 c.Plain "raw" "Plain.raw" sPlainRaw
 m_Plain_Said:MIn K2 c.Plain "said" "Plain.said" sPlainSaid
 m_Code_Init:MIn K2 c.Code "__init__" "Code.__init__" sCodeInit
 m_Code_Told:MIn K2 c.Code "told" "Code.told" sCodeTold
 m_Code_Raw:MIn K2 c.Code "raw" "Code.raw" sCodeRaw
 m_Code_Said:MIn K2 c.Code "said" "Code.said" sCodeSaid
 m_Strong_Init:MIn K2 c.Strong "__init__" "Strong.__init__" sStrongInit
 m_Strong_Told:MIn K2 c.Strong "told" "Strong.told" sStrongTold
 m_Strong_Raw:MIn K2 c.Strong "raw" "Strong.raw" sStrongRaw
 m_Strong_Said:MIn K2 c.Strong "said" "Strong.said" sStrongSaid
 m_Link_Init:MIn K2 c.Link "__init__" "Link.__init__" sLinkInit
 m_Link_Told:MIn K2 c.Link "told" "Link.told" sLinkTold
 m_Link_Raw:MIn K2 c.Link "raw" "Link.raw" sLinkRaw
 m_Link_Said:MIn K2 c.Link "said" "Link.said" sLinkSaid
 m_Mark_Init:MIn K2 c.Mark "__init__" "Mark.__init__" sMarkInit
 m_Mark_Told:MIn K2 c.Mark "told" "Mark.told" sMarkTold
 m_Mark_Raw:MIn K2 c.Mark "raw" "Mark.raw" sMarkRaw
 m_Mark_Said:MIn K2 c.Mark "said" "Mark.said" sMarkSaid
theorem cls_mk {K:PySem.W.Frag} {Ps:List Addr} (h:Tabs0 K Ps) {aBadTree aPlain aCode aStrong aLink aMark:Addr}
  (c_BadTree:PySem.W.nsIn K mainGlobals "BadTree"=some (some (.ref aBadTree)))
  (c_Plain:PySem.W.nsIn K mainGlobals "Plain"=some (some (.ref aPlain)))
  (c_Code:PySem.W.nsIn K mainGlobals "Code"=some (some (.ref aCode)))
  (c_Strong:PySem.W.nsIn K mainGlobals "Strong"=some (some (.ref aStrong)))
  (c_Link:PySem.W.nsIn K mainGlobals "Link"=some (some (.ref aLink)))
  (c_Mark:PySem.W.nsIn K mainGlobals "Mark"=some (some (.ref aMark)))
  (x_BadTree:OwnX (dropK K Ps) aBadTree)
  (p_Plain:PIn (dropK K Ps) aPlain)
  (n_Plain_signs:PySem.W.findIn (dropK K Ps) (.ref aPlain) "signs"=some none)
  (j_Plain_Plain:PySem.W.kitOne (dropK K Ps) (.ref aPlain) (.ref aPlain)=some true)
  (j_Plain_Mark:PySem.W.kitOne (dropK K Ps) (.ref aPlain) (.ref aMark)=some false)
  (s_Plain:PySem.W.kitOne (dropK K Ps) (.ref aPlain) (.type "str")=some false)
  (p_Code:PIn (dropK K Ps) aCode)
  (n_Code_signs:PySem.W.findIn (dropK K Ps) (.ref aCode) "signs"=some none)
  (j_Code_Plain:PySem.W.kitOne (dropK K Ps) (.ref aCode) (.ref aPlain)=some false)
  (j_Code_Mark:PySem.W.kitOne (dropK K Ps) (.ref aCode) (.ref aMark)=some false)
  (s_Code:PySem.W.kitOne (dropK K Ps) (.ref aCode) (.type "str")=some false)
  (p_Strong:PIn (dropK K Ps) aStrong)
  (n_Strong_parts:PySem.W.findIn (dropK K Ps) (.ref aStrong) "parts"=some none)
  (j_Strong_Plain:PySem.W.kitOne (dropK K Ps) (.ref aStrong) (.ref aPlain)=some false)
  (j_Strong_Mark:PySem.W.kitOne (dropK K Ps) (.ref aStrong) (.ref aMark)=some false)
  (s_Strong:PySem.W.kitOne (dropK K Ps) (.ref aStrong) (.type "str")=some false)
  (p_Link:PIn (dropK K Ps) aLink)
  (n_Link_words:PySem.W.findIn (dropK K Ps) (.ref aLink) "words"=some none)
  (n_Link_name:PySem.W.findIn (dropK K Ps) (.ref aLink) "name"=some none)
  (j_Link_Plain:PySem.W.kitOne (dropK K Ps) (.ref aLink) (.ref aPlain)=some false)
  (j_Link_Mark:PySem.W.kitOne (dropK K Ps) (.ref aLink) (.ref aMark)=some false)
  (s_Link:PySem.W.kitOne (dropK K Ps) (.ref aLink) (.type "str")=some false)
  (p_Mark:PIn (dropK K Ps) aMark)
  (n_Mark_name:PySem.W.findIn (dropK K Ps) (.ref aMark) "name"=some none)
  (j_Mark_Plain:PySem.W.kitOne (dropK K Ps) (.ref aMark) (.ref aPlain)=some false)
  (j_Mark_Mark:PySem.W.kitOne (dropK K Ps) (.ref aMark) (.ref aMark)=some true)
  (s_Mark:PySem.W.kitOne (dropK K Ps) (.ref aMark) (.type "str")=some false)
  (m_Plain_Init:MIn2 K (dropK K Ps) aPlain "__init__" "Plain.__init__" sPlainInit)
  (m_Plain_Told:MIn2 K (dropK K Ps) aPlain "told" "Plain.told" sPlainTold)
  (m_Plain_Raw:MIn2 K (dropK K Ps) aPlain "raw" "Plain.raw" sPlainRaw)
  (m_Plain_Said:MIn2 K (dropK K Ps) aPlain "said" "Plain.said" sPlainSaid)
  (m_Code_Init:MIn2 K (dropK K Ps) aCode "__init__" "Code.__init__" sCodeInit)
  (m_Code_Told:MIn2 K (dropK K Ps) aCode "told" "Code.told" sCodeTold)
  (m_Code_Raw:MIn2 K (dropK K Ps) aCode "raw" "Code.raw" sCodeRaw)
  (m_Code_Said:MIn2 K (dropK K Ps) aCode "said" "Code.said" sCodeSaid)
  (m_Strong_Init:MIn2 K (dropK K Ps) aStrong "__init__" "Strong.__init__" sStrongInit)
  (m_Strong_Told:MIn2 K (dropK K Ps) aStrong "told" "Strong.told" sStrongTold)
  (m_Strong_Raw:MIn2 K (dropK K Ps) aStrong "raw" "Strong.raw" sStrongRaw)
  (m_Strong_Said:MIn2 K (dropK K Ps) aStrong "said" "Strong.said" sStrongSaid)
  (m_Link_Init:MIn2 K (dropK K Ps) aLink "__init__" "Link.__init__" sLinkInit)
  (m_Link_Told:MIn2 K (dropK K Ps) aLink "told" "Link.told" sLinkTold)
  (m_Link_Raw:MIn2 K (dropK K Ps) aLink "raw" "Link.raw" sLinkRaw)
  (m_Link_Said:MIn2 K (dropK K Ps) aLink "said" "Link.said" sLinkSaid)
  (m_Mark_Init:MIn2 K (dropK K Ps) aMark "__init__" "Mark.__init__" sMarkInit)
  (m_Mark_Told:MIn2 K (dropK K Ps) aMark "told" "Mark.told" sMarkTold)
  (m_Mark_Raw:MIn2 K (dropK K Ps) aMark "raw" "Mark.raw" sMarkRaw)
  (m_Mark_Said:MIn2 K (dropK K Ps) aMark "said" "Mark.said" sMarkSaid)
  : ∃ c:Addrs,ClsT (dropK K Ps) c:=⟨⟨aBadTree,aPlain,aCode,aStrong,aLink,aMark⟩,⟨(by rw[nsIn_drop h];exact c_BadTree),(by rw[nsIn_drop h];exact c_Plain),(by rw[nsIn_drop h];exact c_Code),(by rw[nsIn_drop h];exact c_Strong),(by rw[nsIn_drop h];exact c_Link),(by rw[nsIn_drop h];exact c_Mark),x_BadTree,p_Plain,n_Plain_signs,j_Plain_Plain,j_Plain_Mark,s_Plain,p_Code,n_Code_signs,j_Code_Plain,j_Code_Mark,s_Code,p_Strong,n_Strong_parts,j_Strong_Plain,j_Strong_Mark,s_Strong,p_Link,n_Link_words,n_Link_name,j_Link_Plain,j_Link_Mark,s_Link,p_Mark,n_Mark_name,j_Mark_Plain,j_Mark_Mark,s_Mark,m_Plain_Init.to h,m_Plain_Told.to h,m_Plain_Raw.to h,m_Plain_Said.to h,m_Code_Init.to h,m_Code_Told.to h,m_Code_Raw.to h,m_Code_Said.to h,m_Strong_Init.to h,m_Strong_Told.to h,m_Strong_Raw.to h,m_Strong_Said.to h,m_Link_Init.to h,m_Link_Told.to h,m_Link_Raw.to h,m_Link_Said.to h,m_Mark_Init.to h,m_Mark_Told.to h,m_Mark_Raw.to h,m_Mark_Said.to h⟩⟩
structure Top (K:PySem.W.Frag) (cr:Addr):Prop where
 f_escaped:FnIn K "escaped" sEscaped (fun _=>True)
 f_told_parts:FnIn K "told_parts" sTolds (fun _=>True)
 f_raw_of:FnIn K "raw_of" sRawOf (fun _=>True)
 f_said_of:FnIn K "said_of" sSaids (fun _=>True)
 f_is_name:FnIn K "is_name" sName (fun _=>True)
 f_name_of:FnIn K "name_of" sNameOf (fun _=>True)
 f_parts_of:FnIn K "parts_of" sPartsOf (fun _=>True)
 f_pieces_of:FnIn K "pieces_of" sPieces (fun _=>True)
 f_piece_at:FnIn K "piece_at" sPieceAt (fun _=>True)
 f_takes_next:FnIn K "takes_next" sTakes (fun _=>True)
 f_closings_of:FnIn K "closings_of" sClosings (fun _=>True)
 f_code_at:FnIn K "code_at" sCodeAt (fun _=>True)
 f_mark_at:FnIn K "mark_at" sMarkAt (fun _=>True)
 f_link_at:FnIn K "link_at" sLinkAt (fun _=>True)
 f_freed:FnIn K "freed" sFreed (fun _=>True)
 f_with_strong:FnIn K "with_strong" sStrongs (fun _=>True)
 f_merged:FnIn K "merged" sMerged (fun _=>True)
 f_need_parts:FnIn K "need_parts" sNeedParts (fun _=>True)
 f_need_run:FnIn K "need_run" sNeedRun (fun _=>True)
 f_need_part:FnIn K "need_part" sNeedPart (fun _=>True)
 f_need_inner:FnIn K "need_inner" sNeedInner (fun _=>True)
 f_need_signs:FnIn K "need_signs" sNeedSigns (fun _=>True)
 f_need_code:FnIn K "need_code" sNeedCode (fun _=>True)
 f_need_small_name:FnIn K "need_small_name" sNeedName (fun _=>True)
 f_begins_with_blank:FnIn K "begins_with_blank" sBegins (fun _=>True)
 f_ends_with_blank:FnIn K "ends_with_blank" sEndsB (fun _=>True)
 f__law_cell:FnIn K "_law_cell" sCell (fun _=>True)
 f__law_mixed:FnIn K "_law_mixed" sMixed (fun _=>True)
 f__law_menu:FnIn K "_law_menu" sMenu (fun _=>True)
 f__law_signs:FnIn K "_law_signs" sSigns (fun _=>True)
 f__law_text:FnIn K "_law_text" sText (fun _=>True)
 f__law_name:FnIn K "_law_name" sName7 (fun _=>True)
 f__law_ends:FnIn K "_law_ends" sEnds (fun _=>True)
 f__law_part:FnIn K "_law_part" sPart7 (fun _=>True)
 f__law_parts:FnIn K "_law_parts" sParts7 (fun _=>True)
 f__law_guarded:FnIn K "_law_guarded" sGuarded (fun _=>True)
 f__law_raw:FnIn K "_law_raw" sLRaw (fun _=>True)
 f__law_said:FnIn K "_law_said" sLSaid (fun _=>True)
 f__law_built:FnIn K "_law_built" sBuilt (fun _=>True)
 f__law_spoilt:FnIn K "_law_spoilt" sSpoilt (fun _=>True)
 f__law_asked:FnIn K "_law_asked" sAsked (fun cd=>cd = .ref cr)
 f_law:FnIn K "law" sLaw5 (fun _=>True)
 n_list:PySem.W.nsIn K mainGlobals "list"=some none
 n_len:PySem.W.nsIn K mainGlobals "len"=some none
 n_isinstance:PySem.W.nsIn K mainGlobals "isinstance"=some none
 n_all:PySem.W.nsIn K mainGlobals "all"=some none
 n_str:PySem.W.nsIn K mainGlobals "str"=some none
 n_tuple:PySem.W.nsIn K mainGlobals "tuple"=some none
 n_range:PySem.W.nsIn K mainGlobals "range"=some none
 n_int:PySem.W.nsIn K mainGlobals "int"=some none
 g_NAME_SIGNS:∃ v,PySem.W.nsIn K mainGlobals "NAME_SIGNS"=some (some v)/\∃ t,v = .str (S nameSigns) t
 g_LONGEST_NAME:∃ v,PySem.W.nsIn K mainGlobals "LONGEST_NAME"=some (some v)/\∃ t,v = .int 12 t
 g_TAKEN:∃ v,PySem.W.nsIn K mainGlobals "TAKEN"=some (some v)/\∃ t,v = .str (S takenC) t
 g_ESCAPED:∃ v,PySem.W.nsIn K mainGlobals "ESCAPED"=some (some v)/\∃ t,v = .str (S escC) t
theorem Top.drop {K:PySem.W.Frag} {Ps:List Addr} {cr:Addr} (h:Tabs0 K Ps) (t:Top K cr):Top (dropK K Ps) cr where
 f_escaped:=t.f_escaped.drop h
 f_told_parts:=t.f_told_parts.drop h
 f_raw_of:=t.f_raw_of.drop h
 f_said_of:=t.f_said_of.drop h
 f_is_name:=t.f_is_name.drop h
 f_name_of:=t.f_name_of.drop h
 f_parts_of:=t.f_parts_of.drop h
 f_pieces_of:=t.f_pieces_of.drop h
 f_piece_at:=t.f_piece_at.drop h
 f_takes_next:=t.f_takes_next.drop h
 f_closings_of:=t.f_closings_of.drop h
 f_code_at:=t.f_code_at.drop h
 f_mark_at:=t.f_mark_at.drop h
 f_link_at:=t.f_link_at.drop h
 f_freed:=t.f_freed.drop h
 f_with_strong:=t.f_with_strong.drop h
 f_merged:=t.f_merged.drop h
 f_need_parts:=t.f_need_parts.drop h
 f_need_run:=t.f_need_run.drop h
 f_need_part:=t.f_need_part.drop h
 f_need_inner:=t.f_need_inner.drop h
 f_need_signs:=t.f_need_signs.drop h
 f_need_code:=t.f_need_code.drop h
 f_need_small_name:=t.f_need_small_name.drop h
 f_begins_with_blank:=t.f_begins_with_blank.drop h
 f_ends_with_blank:=t.f_ends_with_blank.drop h
 f__law_cell:=t.f__law_cell.drop h
 f__law_mixed:=t.f__law_mixed.drop h
 f__law_menu:=t.f__law_menu.drop h
 f__law_signs:=t.f__law_signs.drop h
 f__law_text:=t.f__law_text.drop h
 f__law_name:=t.f__law_name.drop h
 f__law_ends:=t.f__law_ends.drop h
 f__law_part:=t.f__law_part.drop h
 f__law_parts:=t.f__law_parts.drop h
 f__law_guarded:=t.f__law_guarded.drop h
 f__law_raw:=t.f__law_raw.drop h
 f__law_said:=t.f__law_said.drop h
 f__law_built:=t.f__law_built.drop h
 f__law_spoilt:=t.f__law_spoilt.drop h
 f__law_asked:=t.f__law_asked.drop h
 f_law:=t.f_law.drop h
 n_list:=by rw[nsIn_drop h];exact t.n_list
 n_len:=by rw[nsIn_drop h];exact t.n_len
 n_isinstance:=by rw[nsIn_drop h];exact t.n_isinstance
 n_all:=by rw[nsIn_drop h];exact t.n_all
 n_str:=by rw[nsIn_drop h];exact t.n_str
 n_tuple:=by rw[nsIn_drop h];exact t.n_tuple
 n_range:=by rw[nsIn_drop h];exact t.n_range
 n_int:=by rw[nsIn_drop h];exact t.n_int
 g_NAME_SIGNS:=by obtain ⟨v,e,k⟩:=t.g_NAME_SIGNS;exact ⟨v,by rw[nsIn_drop h];exact e,k⟩
 g_LONGEST_NAME:=by obtain ⟨v,e,k⟩:=t.g_LONGEST_NAME;exact ⟨v,by rw[nsIn_drop h];exact e,k⟩
 g_TAKEN:=by obtain ⟨v,e,k⟩:=t.g_TAKEN;exact ⟨v,by rw[nsIn_drop h];exact e,k⟩
 g_ESCAPED:=by obtain ⟨v,e,k⟩:=t.g_ESCAPED;exact ⟨v,by rw[nsIn_drop h];exact e,k⟩
theorem all_law {P:Program} {w:World} {K:PySem.W.Frag} {h:Heap} {mg:Str->Option Value} {fa cr Pt:Addr} (X:K.In h) (G:h.Ns mainGlobals mg) (hfa:mg "law"=some (.ref fa)) (t:Top K cr) (tc:∃ c:Addrs,ClsT K c):
  ∃ fd:FuncData,(∀ (s:Shared) (v:Value),BindsTo s fd ⟨[v],[]⟩ [("_law_script",v)])/\∀ base:Heap,K.In base->base.Ns mainGlobals mg->(∀ q∈[(cr,Pt)],PySem.W.CodeHd base q.1 q.2/\base.BuiltinsAt mg q.2)->FnOk P w K mg base CX0 33 fa fd ["_law_script"] (spLaw5 K Pt):=by
 obtain ⟨z,L⟩:=tc
 let c:Cp:=⟨0,z.Plain,z.Code,z.Strong,z.Link,z.Mark⟩
 have n_list:=PySem.W.mg_none_of X G t.n_list
 have n_len:=PySem.W.mg_none_of X G t.n_len
 have n_isinstance:=PySem.W.mg_none_of X G t.n_isinstance
 have n_all:=PySem.W.mg_none_of X G t.n_all
 have n_str:=PySem.W.mg_none_of X G t.n_str
 have n_tuple:=PySem.W.mg_none_of X G t.n_tuple
 have n_range:=PySem.W.mg_none_of X G t.n_range
 have n_int:=PySem.W.mg_none_of X G t.n_int
 have c_Plain:=PySem.W.mg_of X G L.c_Plain
 have c_Code:=PySem.W.mg_of X G L.c_Code
 have c_Strong:=PySem.W.mg_of X G L.c_Strong
 have c_Link:=PySem.W.mg_of X G L.c_Link
 have c_Mark:=PySem.W.mg_of X G L.c_Mark
 have T:TxP K mg c z.BadTree:={
  n_list:=n_list
  n_len:=n_len
  n_isinstance:=n_isinstance
  n_all:=n_all
  n_str:=n_str
  n_tuple:=n_tuple
  g_NAME_SIGNS:=by obtain ⟨v,e,k,rfl⟩:=t.g_NAME_SIGNS;exact ⟨k,PySem.W.mg_of X G e⟩
  g_LONGEST_NAME:=by obtain ⟨v,e,k,rfl⟩:=t.g_LONGEST_NAME;exact ⟨k,PySem.W.mg_of X G e⟩
  c_BadTree:=PySem.W.mg_of X G L.c_BadTree
  x_BadTree:=L.x_BadTree
  c_Plain:=c_Plain
  o_Plain:=L.p_Plain.inst
  o_Code:=L.p_Code.inst
  o_Strong:=L.p_Strong.inst
  o_Link:=L.p_Link.inst
  o_Mark:=L.p_Mark.inst
  a_Plain:=L.n_Plain_signs
  a_Code:=L.n_Code_signs
  a_Strong:=L.n_Strong_parts
  a_Linkw:=L.n_Link_words
  a_Linkn:=L.n_Link_name
  a_Mark:=L.n_Mark_name
  i_Plain:=L.j_Plain_Plain
  i_Code:=L.j_Code_Plain
  i_Strong:=L.j_Strong_Plain
  i_Link:=L.j_Link_Plain
  i_Mark:=L.j_Mark_Plain
 }
 have TI:TxI K mg c z.BadTree:={ T with g_TAKEN:=(by obtain ⟨v,e,k,rfl⟩:=t.g_TAKEN;exact ⟨k,PySem.W.mg_of X G e⟩),s_Plain:=L.s_Plain,s_Code:=L.s_Code,s_Strong:=L.s_Strong,s_Link:=L.s_Link,s_Mark:=L.s_Mark }
 have TL:TxL mg:=⟨n_len,n_range,n_int⟩
 have TR:TxR K mg c z.BadTree:={ TI with g_ESCAPED:=(by obtain ⟨v,e,k,rfl⟩:=t.g_ESCAPED;exact ⟨k,PySem.W.mg_of X G e⟩),c_Mark:=c_Mark,m_Plain:=L.j_Plain_Mark,m_Code:=L.j_Code_Mark,m_Strong:=L.j_Strong_Mark,m_Link:=L.j_Link_Mark,m_Mark:=L.j_Mark_Mark }
 have TW:TxW mg:=⟨n_isinstance,n_list⟩
 obtain ⟨f,oc,od,kV,dc,pm,an,cd,ct,sl,a,l,cc,kp,_⟩:=t.f_law.ex
 have e:=hfa.symm.trans (PySem.W.mg_of X G a)
 cases e
 refine ⟨PySem.W.fnOf "law" "law" (defArgs sLaw5) (defBody sLaw5) (defScope sLaw5) .none kV dc pm an cd ct,fun s v => .of_eq rfl,fun base _ _ hT=>?_⟩
 have D_Plain:New P w K mg base 1 "Plain" c.Plain ["self","signs"] (spInit1 c.Plain "signs"):=new_of (PySem.W.mg_of X G L.c_Plain) L.p_Plain.mkc L.p_Plain.kc L.m_Plain_Init (fun _ _ _ _ _ _=>b2 fun _ _=>rfl) fun f fd F=>ok_PlainInit F T
 have D_Code:New P w K mg base 1 "Code" c.Code ["self","signs"] (spInit1 c.Code "signs"):=new_of (PySem.W.mg_of X G L.c_Code) L.p_Code.mkc L.p_Code.kc L.m_Code_Init (fun _ _ _ _ _ _=>b2 fun _ _=>rfl) fun f fd F=>ok_CodeInit F T
 have D_Strong:New P w K mg base 1 "Strong" c.Strong ["self","parts"] (spInitS c.Strong):=new_of (PySem.W.mg_of X G L.c_Strong) L.p_Strong.mkc L.p_Strong.kc L.m_Strong_Init (fun _ _ _ _ _ _=>b2 fun _ _=>rfl) fun f fd F=>ok_StrongInit F T
 have D_Link:New P w K mg base 1 "Link" c.Link ["self","words","name"] (spInit2 c.Link "words" "name"):=new_of (PySem.W.mg_of X G L.c_Link) L.p_Link.mkc L.p_Link.kc L.m_Link_Init (fun _ _ _ _ _ _=>b3 fun _ _ _=>rfl) fun f fd F=>ok_LinkInit F T
 have D_Mark:New P w K mg base 1 "Mark" c.Mark ["self","name"] (spInit1 c.Mark "name"):=new_of (PySem.W.mg_of X G L.c_Mark) L.p_Mark.mkc L.p_Mark.kc L.m_Mark_Init (fun _ _ _ _ _ _=>b2 fun _ _=>rfl) fun f fd F=>ok_MarkInit F T
 have V_Plain:MethV P w K mg base 1 c.Plain "told" ["self"] (spTold c fun p=>∃ s,p = .one (.plain s)):=meth_of L.p_Plain.cls L.m_Plain_Told (fun _ _ _ _ _ _=>b1 fun _=>rfl) fun f fd F=>ok_PlainTold F T
 have V_Code:MethV P w K mg base 1 c.Code "told" ["self"] (spTold c fun p=>∃ s,p = .one (.code s)):=meth_of L.p_Code.cls L.m_Code_Told (fun _ _ _ _ _ _=>b1 fun _=>rfl) fun f fd F=>ok_CodeTold F T
 have V_Mark:MethV P w K mg base 1 c.Mark "told" ["self"] (spTold c fun p=>∃ s,p = .one (.note s)):=meth_of L.p_Mark.cls L.m_Mark_Told (fun _ _ _ _ _ _=>b1 fun _=>rfl) fun f fd F=>ok_MarkTold F T
 have V_Link:MethV P w K mg base 1 c.Link "told" ["self"] (spTold c fun p=>∃ s n,p = .one (.link s n)):=meth_of L.p_Link.cls L.m_Link_Told (fun _ _ _ _ _ _=>b1 fun _=>rfl) fun f fd F=>ok_LinkTold F T
 have W1:∀ {k:Nat},1<=k->∀ (p:P1) H a,PCAt c H a (.one p)->∃ C dx fs sp,H a=some (.ins C dx fs)/\fs.lookup ("told":Str)=none/\MethV P w K mg base k C "told" ["self"] sp/\∀ Q E,(∀ v H',Same H H'->Dn (dif H H') v (dP (.one p))->Q v H')->sp [.ref a] H Q E:=fun {k} hk p H a h=>by
  cases p with
  |plain s=>
   obtain ⟨_,dx,e⟩:=id h
   exact ⟨_,dx,_,_,e,rfl,V_Plain.mono hk,fun Q E g=>⟨a,_,rfl,h,⟨s,rfl⟩,g⟩⟩
  |code s=>
   obtain ⟨_,dx,e⟩:=id h
   exact ⟨_,dx,_,_,e,rfl,V_Code.mono hk,fun Q E g=>⟨a,_,rfl,h,⟨s,rfl⟩,g⟩⟩
  |link s n=>
   obtain ⟨_,_,dx,e⟩:=id h
   exact ⟨_,dx,_,_,e,rfl,V_Link.mono hk,fun Q E g=>⟨a,_,rfl,h,⟨s,n,rfl⟩,g⟩⟩
  |note s=>
   obtain ⟨_,dx,e⟩:=id h
   exact ⟨_,dx,_,_,e,rfl,V_Mark.mono hk,fun Q E g=>⟨a,_,rfl,h,⟨s,rfl⟩,g⟩⟩
 have M1:ToldV P w K mg base 1 c R1:=fun p hp H a h=>by
  cases p with
  |one p=>exact W1 (Nat.le_refl 1) p H a h
  |strong ps=>exact absurd hp (by unfold R1;simp[one?])
 have D_told1:Def P w K mg base 2 "told_parts" ["parts"] (spTolds c R1):=def_of X G t.f_told_parts (fun _ _ _ _ _ _=>b1 fun _=>rfl) fun f fd F _=>ok_tolds F M1
 have V_Strong:MethV P w K mg base 3 c.Strong "told" ["self"] (spTold c fun p=>∃ ps,p = .strong ps/\ps.length<=100000):=meth_of L.p_Strong.cls L.m_Strong_Told (fun _ _ _ _ _ _=>b1 fun _=>rfl) fun f fd F=>ok_StrongTold F T D_told1
 have M2:ToldV P w K mg base 3 c R2:=fun p hp H a h=>by
  cases p with
  |one p=>exact W1 (by decide) p H a h
  |strong ps=>
   obtain ⟨dx,l,as,e,_⟩:=id h
   exact ⟨_,dx,_,_,e,rfl,V_Strong,fun Q E g=>⟨a,_,rfl,h,⟨ps,rfl,hp⟩,g⟩⟩
 have D_told_parts:Def P w K mg base 4 "told_parts" ["parts"] (spTolds c R2):=def_of X G t.f_told_parts (fun _ _ _ _ _ _=>b1 fun _=>rfl) fun f fd F _=>ok_tolds F M2
 have D_is_name:Def P w K mg base 1 "is_name" ["thing"] spNameD:=def_of X G t.f_is_name (fun _ _ _ _ _ _=>b1 fun _=>rfl) fun f fd F _=>ok_nameD F T
 have D_name_of:Def P w K mg base 2 "name_of" ["thing"] spNameOf:=def_of X G t.f_name_of (fun _ _ _ _ _ _=>b1 fun _=>rfl) fun f fd F _=>ok_nameOf F T D_is_name
 have D_need_signs:DefR P w K mg base 1 "need_signs" ["thing"] (spStr z.BadTree sgD):=def_ofR X G t.f_need_signs (fun _ _ _ _ _ _=>b1 fun _=>rfl) fun f fd F _=>ok_needSigns F T
 have D_need_code:DefR P w K mg base 2 "need_code" ["thing"] (spStr z.BadTree cdD):=def_ofR X G t.f_need_code (fun _ _ _ _ _ _=>b1 fun _=>rfl) fun f fd F _=>ok_needCode F T D_need_signs
 have D_need_small_name:DefR P w K mg base 3 "need_small_name" ["thing"] (spStr z.BadTree nmD):=def_ofR X G t.f_need_small_name (fun _ _ _ _ _ _=>b1 fun _=>rfl) fun f fd F _=>ok_needName F T D_is_name D_name_of
 have D_begins_with_blank:Def P w K mg base 1 "begins_with_blank" ["part"] (spBlank c begB):=def_of X G t.f_begins_with_blank (fun _ _ _ _ _ _=>b1 fun _=>rfl) fun f fd F _=>ok_begins F T
 have D_ends_with_blank:Def P w K mg base 1 "ends_with_blank" ["part"] (spBlank c endB):=def_of X G t.f_ends_with_blank (fun _ _ _ _ _ _=>b1 fun _=>rfl) fun f fd F _=>ok_endsB F T
 have D_inner0:DefR P w K mg base 1 "need_inner" ["told"] spNo:=def_ofR X G t.f_need_inner (fun _ _ _ _ _ _=>b1 fun _=>rfl) fun f fd F _=>ok_no
 have D_part0:DefR P w K mg base 5 "need_part" ["thing","strong_too"] (spPart z.BadTree c false):=def_ofR X G t.f_need_part (fun _ _ _ _ _ _=>b2 fun _ _=>rfl) fun f fd F _=>ok_needPart F T D_Link D_Plain D_Code D_Mark D_Strong D_need_signs D_need_code D_need_small_name D_inner0 (fun z=>nomatch z)
 have D_run0:DefR P w K mg base 6 "need_run" ["told","strong_too"] (spRun K z.BadTree c false):=def_ofR X G t.f_need_run (fun _ _ _ _ _ _=>b2 fun _ _=>rfl) fun f fd F _=>ok_needRun F T D_part0
 have D_need_inner:DefR P w K mg base 7 "need_inner" ["told"] (spInner z.BadTree c):=def_ofR X G t.f_need_inner (fun _ _ _ _ _ _=>b1 fun _=>rfl) fun f fd F _=>ok_needInner F T D_run0
 have D_need_part:DefR P w K mg base 11 "need_part" ["thing","strong_too"] (spPart z.BadTree c true):=def_ofR X G t.f_need_part (fun _ _ _ _ _ _=>b2 fun _ _=>rfl) fun f fd F _=>ok_needPart F T D_Link D_Plain D_Code D_Mark D_Strong D_need_signs D_need_code D_need_small_name D_need_inner (fun _ _ _ _ _ h=>h)
 have D_need_run:DefR P w K mg base 12 "need_run" ["told","strong_too"] (spRun K z.BadTree c true):=def_ofR X G t.f_need_run (fun _ _ _ _ _ _=>b2 fun _ _=>rfl) fun f fd F _=>ok_needRun F T D_need_part
 have D_need_parts:DefR P w K mg base 13 "need_parts" ["told"] (spNeed K z.BadTree c):=def_ofR X G t.f_need_parts (fun _ _ _ _ _ _=>b1 fun _=>rfl) fun f fd F _=>ok_needParts F T D_need_run D_begins_with_blank D_ends_with_blank
 have D_takes_next:Def P w K mg base 1 "takes_next" ["text","place"] spTakes:=def_of X G t.f_takes_next (fun _ _ _ _ _ _=>b2 fun _ _=>rfl) fun f fd F _=>ok_takes F TI
 have D_freed:Def P w K mg base 2 "freed" ["text"] spFreed:=def_of X G t.f_freed (fun _ _ _ _ _ _=>b1 fun _=>rfl) fun f fd F _=>ok_freed F TI D_takes_next
 have D_closings_of:Def P w K mg base 2 "closings_of" ["text"] spClosings:=def_of X G t.f_closings_of (fun _ _ _ _ _ _=>b1 fun _=>rfl) fun f fd F _=>ok_closings F TI D_takes_next
 have D_code_at:Def P w K mg base 3 "code_at" ["text","place"] (spCodeAt c):=def_of X G t.f_code_at (fun _ _ _ _ _ _=>b2 fun _ _=>rfl) fun f fd F _=>ok_codeAt F TI D_Code
 have D_mark_at:Def P w K mg base 3 "mark_at" ["text","place"] (spMarkAt c):=def_of X G t.f_mark_at (fun _ _ _ _ _ _=>b2 fun _ _=>rfl) fun f fd F _=>ok_markAt F TI D_Mark D_is_name D_name_of
 have D_link_at:Def P w K mg base 3 "link_at" ["text","place","closing"] (spLinkAt c):=def_of X G t.f_link_at (fun _ _ _ _ _ _=>b3 fun _ _ _=>rfl) fun f fd F _=>ok_linkAt F TI D_Link D_freed D_is_name D_name_of
 have D_piece_at:Def P w K mg base 4 "piece_at" ["text","place","closings"] (spPieceAt c):=def_of X G t.f_piece_at (fun _ _ _ _ _ _=>b3 fun _ _ _=>rfl) fun f fd F _=>ok_pieceAt F TI D_takes_next D_code_at D_mark_at D_link_at
 have D_pieces_of:Def P w K mg base 5 "pieces_of" ["text"] (spPieces c):=def_of X G t.f_pieces_of (fun _ _ _ _ _ _=>b1 fun _=>rfl) fun f fd F _=>ok_pieces F TI D_closings_of D_piece_at
 have D_merged:Def P w K mg base 3 "merged" ["pieces"] (spMerged c):=def_of X G t.f_merged (fun _ _ _ _ _ _=>b1 fun _=>rfl) fun f fd F _=>ok_merged F TI D_Plain
 have D_with_strong:Def P w K mg base 4 "with_strong" ["pieces"] (spStrongs c):=def_of X G t.f_with_strong (fun _ _ _ _ _ _=>b1 fun _=>rfl) fun f fd F _=>ok_strongs F TI D_Strong D_merged
 have D_parts_of:Def P w K mg base 6 "parts_of" ["text"] (spPartsOf c):=def_of X G t.f_parts_of (fun _ _ _ _ _ _=>b1 fun _=>rfl) fun f fd F _=>ok_partsOf F TI D_pieces_of D_with_strong D_merged
 have D_l_cell:Def P w K mg base 1 "_law_cell" ["_law_script","_law_k"] (spCell K):=def_of X G t.f__law_cell (fun _ _ _ _ _ _=>b2 fun _ _=>rfl) fun f fd F _=>ok_cell F TL
 have D_l_mixed:Def P w K mg base 1 "_law_mixed" ["_law_cell_here","_law_k"] spMixed:=def_of X G t.f__law_mixed (fun _ _ _ _ _ _=>b2 fun _ _=>rfl) fun f fd F _=>ok_mixed F
 have D_l_menu:Def P w K mg base 1 "_law_menu" ["_law_kind"] spMenu:=def_of X G t.f__law_menu (fun _ _ _ _ _ _=>b1 fun _=>rfl) fun f fd F _=>ok_menu F
 have D_l_signs:Def P w K mg base 1 "_law_signs" ["_law_number","_law_size","_law_menu_here"] spSigns:=def_of X G t.f__law_signs (fun _ _ _ _ _ _=>b3 fun _ _ _=>rfl) fun f fd F _=>ok_signs F TL
 have D_l_text:Def P w K mg base 2 "_law_text" ["_law_number","_law_most"] spText:=def_of X G t.f__law_text (fun _ _ _ _ _ _=>b2 fun _ _=>rfl) fun f fd F _=>ok_text F TL D_l_mixed D_l_menu D_l_signs
 have D_l_name:Def P w K mg base 2 "_law_name" ["_law_number"] spName7:=def_of X G t.f__law_name (fun _ _ _ _ _ _=>b1 fun _=>rfl) fun f fd F _=>ok_name7 F TL D_l_menu D_l_signs
 have D_l_ends:Def P w K mg base 1 "_law_ends" ["_law_signs_here","_law_number"] spEnds:=def_of X G t.f__law_ends (fun _ _ _ _ _ _=>b2 fun _ _=>rfl) fun f fd F _=>ok_ends F TL
 have D_parts0:Def P w K mg base 1 "_law_parts" ["_law_number","_law_size","_law_is_inner"] spNo:=def_of X G t.f__law_parts (fun _ _ _ _ _ _=>b3 fun _ _ _=>rfl) fun f fd F _=>ok_no
 have D_part1:Def P w K mg base 4 "_law_part" ["_law_number","_law_before","_law_is_inner"] (spPart7 true):=def_of X G t.f__law_part (fun _ _ _ _ _ _=>b3 fun _ _ _=>rfl) fun f fd F _=>ok_part7 F TL D_l_mixed D_l_text D_l_name D_l_ends D_parts0 (fun z=>Bool.noConfusion z)
 have D_parts1:Def P w K mg base 6 "_law_parts" ["_law_number","_law_size","_law_is_inner"] (spParts7 true):=def_of X G t.f__law_parts (fun _ _ _ _ _ _=>b3 fun _ _ _=>rfl) fun f fd F _=>ok_parts7 F TL D_l_mixed D_part1
 have D_l_part:Def P w K mg base 9 "_law_part" ["_law_number","_law_before","_law_is_inner"] (spPart7 false):=def_of X G t.f__law_part (fun _ _ _ _ _ _=>b3 fun _ _ _=>rfl) fun f fd F _=>ok_part7 F TL D_l_mixed D_l_text D_l_name D_l_ends D_parts1 (fun _ _ _ _ _ h=>h)
 have D_l_parts:Def P w K mg base 11 "_law_parts" ["_law_number","_law_size","_law_is_inner"] (spParts7 false):=def_of X G t.f__law_parts (fun _ _ _ _ _ _=>b3 fun _ _ _=>rfl) fun f fd F _=>ok_parts7 F TL D_l_mixed D_l_part
 have D_escaped:Def P w K mg base 1 "escaped" ["signs"] spEscaped:=def_of X G t.f_escaped (fun _ _ _ _ _ _=>b1 fun _=>rfl) fun f fd F _=>ok_escaped F TR
 have R_Plain:MethV P w K mg base 2 c.Plain "raw" ["self"] (spRaw c fun p=>∃ s,p = .one (.plain s)):=meth_of L.p_Plain.cls L.m_Plain_Raw (fun _ _ _ _ _ _=>b1 fun _=>rfl) fun f fd F=>ok_PlainRaw F TR D_escaped
 have R_Code:MethV P w K mg base 2 c.Code "raw" ["self"] (spRaw c fun p=>∃ s,p = .one (.code s)):=meth_of L.p_Code.cls L.m_Code_Raw (fun _ _ _ _ _ _=>b1 fun _=>rfl) fun f fd F=>ok_CodeRaw F TR
 have R_Mark:MethV P w K mg base 2 c.Mark "raw" ["self"] (spRaw c fun p=>∃ s,p = .one (.note s)):=meth_of L.p_Mark.cls L.m_Mark_Raw (fun _ _ _ _ _ _=>b1 fun _=>rfl) fun f fd F=>ok_MarkRaw F TR
 have R_Link:MethV P w K mg base 2 c.Link "raw" ["self"] (spRaw c fun p=>∃ s n,p = .one (.link s n)):=meth_of L.p_Link.cls L.m_Link_Raw (fun _ _ _ _ _ _=>b1 fun _=>rfl) fun f fd F=>ok_LinkRaw F TR D_escaped
 have W3:∀ {k:Nat},2<=k->∀ (p:P1),(rawP (.one p)).length<=100000->∀ H a,PCAt c H a (.one p)->∃ C dx fs sp,H a=some (.ins C dx fs)/\fs.lookup ("raw":Str)=none/\MethV P w K mg base k C "raw" ["self"] sp/\∀ Q E,(∀ H',Same H H'->Q (vS (rawP (.one p))) H')->sp [.ref a] H Q E:=fun {k} hk p hz H a h=>by
  cases p with
  |plain s=>
   obtain ⟨_,dx,e⟩:=id h
   exact ⟨_,dx,_,_,e,rfl,R_Plain.mono hk,fun Q E g=>⟨a,_,rfl,h,⟨s,rfl⟩,hz,g⟩⟩
  |code s=>
   obtain ⟨_,dx,e⟩:=id h
   exact ⟨_,dx,_,_,e,rfl,R_Code.mono hk,fun Q E g=>⟨a,_,rfl,h,⟨s,rfl⟩,hz,g⟩⟩
  |link s n=>
   obtain ⟨_,_,dx,e⟩:=id h
   exact ⟨_,dx,_,_,e,rfl,R_Link.mono hk,fun Q E g=>⟨a,_,rfl,h,⟨s,n,rfl⟩,hz,g⟩⟩
  |note s=>
   obtain ⟨_,dx,e⟩:=id h
   exact ⟨_,dx,_,_,e,rfl,R_Mark.mono hk,fun Q E g=>⟨a,_,rfl,h,⟨s,rfl⟩,hz,g⟩⟩
 have RN1:RawV P w K mg base 2 c R1:=fun p hp hz H a h=>by
  cases p with
  |one p=>exact W3 (Nat.le_refl 2) p hz H a h
  |strong ps=>exact absurd hp (by unfold R1;simp[one?])
 have D_raw1:Def P w K mg base 3 "raw_of" ["parts"] (spRaws c R1):=def_of X G t.f_raw_of (fun _ _ _ _ _ _=>b1 fun _=>rfl) fun f fd F _=>ok_rawOf F TR RN1
 have R_Strong:MethV P w K mg base 4 c.Strong "raw" ["self"] (spRaw c fun p=>∃ ps,p = .strong ps/\ps.length<=100000):=meth_of L.p_Strong.cls L.m_Strong_Raw (fun _ _ _ _ _ _=>b1 fun _=>rfl) fun f fd F=>ok_StrongRaw F TR D_raw1
 have RN2:RawV P w K mg base 4 c R2:=fun p hp hz H a h=>by
  cases p with
  |one p=>exact W3 (by decide) p hz H a h
  |strong ps=>
   obtain ⟨dx,l,as,e,_⟩:=id h
   exact ⟨_,dx,_,_,e,rfl,R_Strong,fun Q E g=>⟨a,_,rfl,h,⟨ps,rfl,hp⟩,hz,g⟩⟩
 have D_raw_of:Def P w K mg base 5 "raw_of" ["parts"] (spRaws c R2):=def_of X G t.f_raw_of (fun _ _ _ _ _ _=>b1 fun _=>rfl) fun f fd F _=>ok_rawOf F TR RN2
 have D_lsaid0:Def P w K mg base 1 "_law_said" ["_law_due","_law_word"] spNo:=def_of X G t.f__law_said (fun _ _ _ _ _ _=>b2 fun _ _=>rfl) fun f fd F _=>ok_no
 have D_lsaid1:Def P w K mg base 2 "_law_said" ["_law_due","_law_word"] (spLSaid R1):=def_of X G t.f__law_said (fun _ _ _ _ _ _=>b2 fun _ _=>rfl) fun f fd F _=>ok_lsaid F D_lsaid0 (fun ps h=>absurd h (by unfold R1;simp[one?]))
 have D_l_said:Def P w K mg base 3 "_law_said" ["_law_due","_law_word"] (spLSaid fun _=>True):=def_of X G t.f__law_said (fun _ _ _ _ _ _=>b2 fun _ _=>rfl) fun f fd F _=>ok_lsaid F D_lsaid1 (fun _ _ _ _ _ _ h=>h)
 have D_l_guarded:Def P w K mg base 1 "_law_guarded" ["_law_signs_here"] spGuarded:=def_of X G t.f__law_guarded (fun _ _ _ _ _ _=>b1 fun _=>rfl) fun f fd F _=>ok_guarded F
 have D_lraw0:Def P w K mg base 2 "_law_raw" ["_law_told"] spNo:=def_of X G t.f__law_raw (fun _ _ _ _ _ _=>b1 fun _=>rfl) fun f fd F _=>ok_no
 have D_lraw1:Def P w K mg base 4 "_law_raw" ["_law_told"] (spLRaw R1):=def_of X G t.f__law_raw (fun _ _ _ _ _ _=>b1 fun _=>rfl) fun f fd F _=>ok_lraw F TL D_l_guarded D_lraw0 (fun ps h=>absurd h (by unfold R1;simp[one?]))
 have D_l_raw:Def P w K mg base 6 "_law_raw" ["_law_told"] (spLRaw fun _=>True):=def_of X G t.f__law_raw (fun _ _ _ _ _ _=>b1 fun _=>rfl) fun f fd F _=>ok_lraw F TL D_l_guarded D_lraw1 (fun _ _ _ _ _ _ h=>h)
 have D_built0:Def P w K mg base 2 "_law_built" ["_law_told"] spNo:=def_of X G t.f__law_built (fun _ _ _ _ _ _=>b1 fun _=>rfl) fun f fd F _=>ok_no
 have D_built1:Def P w K mg base 5 "_law_built" ["_law_told"] (spBuilt c R1):=def_of X G t.f__law_built (fun _ _ _ _ _ _=>b1 fun _=>rfl) fun f fd F _=>ok_built F D_Link D_Plain D_Code D_Mark D_Strong D_built0 (fun ps h=>absurd h (by unfold R1;simp[one?]))
 have D_l_built:Def P w K mg base 8 "_law_built" ["_law_told"] (spBuilt c fun _=>True):=def_of X G t.f__law_built (fun _ _ _ _ _ _=>b1 fun _=>rfl) fun f fd F _=>ok_built F D_Link D_Plain D_Code D_Mark D_Strong D_built1 (fun _ _ _ _ _ _ h=>h)
 have D_l_spoilt:Def P w K mg base 1 "_law_spoilt" ["_law_told"] spSpoilt:=def_of X G t.f__law_spoilt (fun _ _ _ _ _ _=>b1 fun _=>rfl) fun f fd F _=>ok_spoilt F
 have D_said:∀ (base':Heap) (gl gn:Addr) (sf sg:List Nat->List Nat) (x1 x2:Str),K.In base'->base'.Ns mainGlobals mg->SayOk sf->SayOk sg->FnV P w K mg base' 2 gl [x1] (spSay sf)->FnV P w K mg base' 2 gn [x2] (spSay sg)->Def P w K mg base' 6 "said_of" ["parts","link","note"] (spSaids c gl gn sf sg R2)/\∀ p,R2 p->MethV P w K mg base' 6 (clsP c p) "said" ["self","link","note"] (spSaid c gl gn sf sg fun q=>q=p):=by
  intro base' gl gn sf sg x1 x2 _ _ hsf hsg hV1 hV2
  have S_Plain:MethV P w K mg base' 3 c.Plain "said" ["self","link","note"] (spSaid c gl gn sf sg fun p=>∃ s,p = .one (.plain s)):=meth_of L.p_Plain.cls L.m_Plain_Said (fun _ _ _ _ _ _=>b3 fun _ _ _=>rfl) fun f fd F=>ok_PlainSaid F TI
  have S_Code:MethV P w K mg base' 3 c.Code "said" ["self","link","note"] (spSaid c gl gn sf sg fun p=>∃ s,p = .one (.code s)):=meth_of L.p_Code.cls L.m_Code_Said (fun _ _ _ _ _ _=>b3 fun _ _ _=>rfl) fun f fd F=>ok_CodeSaid F TI
  have S_Mark:MethV P w K mg base' 3 c.Mark "said" ["self","link","note"] (spSaid c gl gn sf sg fun p=>∃ s,p = .one (.note s)):=meth_of L.p_Mark.cls L.m_Mark_Said (fun _ _ _ _ _ _=>b3 fun _ _ _=>rfl) fun f fd F=>ok_MarkSaid F TI hV2
  have S_Link:MethV P w K mg base' 3 c.Link "said" ["self","link","note"] (spSaid c gl gn sf sg fun p=>∃ s n,p = .one (.link s n)):=meth_of L.p_Link.cls L.m_Link_Said (fun _ _ _ _ _ _=>b3 fun _ _ _=>rfl) fun f fd F=>ok_LinkSaid F TI hV1
  have W2:∀ {k:Nat},3<=k->∀ (p:P1),AscC (.one p)->(saidC sf sg (.one p)).length<=100000->∀ H a,PCAt c H a (.one p)->∃ C dx fs sp,H a=some (.ins C dx fs)/\fs.lookup ("said":Str)=none/\MethV P w K mg base' k C "said" ["self","link","note"] sp/\∀ Q E,(∀ H',Same H H'->Q (vS (saidC sf sg (.one p))) H')->sp [.ref a, .ref gl, .ref gn] H Q E:=fun {k} hk p ha hz H a h=>by
   cases p with
   |plain s=>
    obtain ⟨_,dx,e⟩:=id h
    exact ⟨_,dx,_,_,e,rfl,S_Plain.mono hk,fun Q E g=>⟨a,_,rfl,h,⟨s,rfl⟩,ha,hz,g⟩⟩
   |code s=>
    obtain ⟨_,dx,e⟩:=id h
    exact ⟨_,dx,_,_,e,rfl,S_Code.mono hk,fun Q E g=>⟨a,_,rfl,h,⟨s,rfl⟩,ha,hz,g⟩⟩
   |link s n=>
    obtain ⟨_,_,dx,e⟩:=id h
    exact ⟨_,dx,_,_,e,rfl,S_Link.mono hk,fun Q E g=>⟨a,_,rfl,h,⟨s,n,rfl⟩,ha,hz,g⟩⟩
   |note s=>
    obtain ⟨_,dx,e⟩:=id h
    exact ⟨_,dx,_,_,e,rfl,S_Mark.mono hk,fun Q E g=>⟨a,_,rfl,h,⟨s,rfl⟩,ha,hz,g⟩⟩
  have N1:SaidV P w K mg base' 3 c gl gn sf sg R1:=fun p hp ha hz H a h=>by
   cases p with
   |one p=>exact W2 (Nat.le_refl 3) p ha hz H a h
   |strong ps=>exact absurd hp (by unfold R1;simp[one?])
  have D_said1:Def P w K mg base' 4 "said_of" ["parts","link","note"] (spSaids c gl gn sf sg R1):=def_of X G t.f_said_of (fun _ _ _ _ _ _=>b3 fun _ _ _=>rfl) fun f fd F _=>ok_saids F hsf hsg N1
  have S_Strong:MethV P w K mg base' 5 c.Strong "said" ["self","link","note"] (spSaid c gl gn sf sg fun p=>∃ ps,p = .strong ps/\ps.length<=100000):=meth_of L.p_Strong.cls L.m_Strong_Said (fun _ _ _ _ _ _=>b3 fun _ _ _=>rfl) fun f fd F=>ok_StrongSaid F TI D_said1
  have N2:SaidV P w K mg base' 5 c gl gn sf sg R2:=fun p hp ha hz H a h=>by
   cases p with
   |one p=>exact W2 (by decide) p ha hz H a h
   |strong ps=>
    obtain ⟨dx,l,as,e,_⟩:=id h
    exact ⟨_,dx,_,_,e,rfl,S_Strong,fun Q E g=>⟨a,_,rfl,h,⟨ps,rfl,hp⟩,ha,hz,g⟩⟩
  refine ⟨def_of X G t.f_said_of (fun _ _ _ _ _ _=>b3 fun _ _ _=>rfl) fun f fd F _=>ok_saids F hsf hsg N2,fun p hp=>?_⟩
  match p,hp with
  | .one (.plain s),_=>exact meth_imp (S_Plain.mono (by decide)) fun vs H Q E ⟨a,q,e,h1,h2,r⟩=>⟨a,q,e,h1,⟨s,h2⟩,r⟩
  | .one (.code s),_=>exact meth_imp (S_Code.mono (by decide)) fun vs H Q E ⟨a,q,e,h1,h2,r⟩=>⟨a,q,e,h1,⟨s,h2⟩,r⟩
  | .one (.link s n),_=>exact meth_imp (S_Link.mono (by decide)) fun vs H Q E ⟨a,q,e,h1,h2,r⟩=>⟨a,q,e,h1,⟨s,n,h2⟩,r⟩
  | .one (.note s),_=>exact meth_imp (S_Mark.mono (by decide)) fun vs H Q E ⟨a,q,e,h1,h2,r⟩=>⟨a,q,e,h1,⟨s,h2⟩,r⟩
  | .strong ps,hp=>exact meth_imp (S_Strong.mono (by decide)) fun vs H Q E ⟨a,q,e,h1,h2,r⟩=>⟨a,q,e,h1,⟨ps,h2,hp⟩,r⟩
 have D_l_asked:Def P w K mg base 8 "_law_asked" ["_law_parts_here","_law_due","_law_number"] (spAsked c Pt):=def_of X G t.f__law_asked (fun _ _ _ _ _ _=>b3 fun _ _ _=>rfl) fun f fd F hc=>ok_asked F TL hc (hT _ (List.mem_singleton.mpr rfl)) (by decide) D_told_parts D_raw_of RN2 D_l_raw D_l_said D_l_spoilt (mg_fn X G t.f_said_of) D_said
 exact ok_law5 (fun_mk (st:=sLaw5) l cc kp) TW D_l_cell D_l_mixed D_l_parts D_need_parts D_l_spoilt D_l_asked D_told_parts D_raw_of D_parts_of D_l_raw D_l_built
end K5
set_option Elab.async false
set_option linter.all false
open PySem PySem.W PySem.W.X PySem.W.ZRun PyProof.Rows
theorem L2.true_law {c:PySem.W.ClaimW} {cl:PySem.Str->Option PySem.Addr} {mean:PySem.ExcName->Option PySem.Value} {args:List PySem.W.WData} {s₁ s':PySem.Shared} (hr:∀ cls:PySem.ExcName,c.raises args cls=false) (hp:c.post args (.bool true) args=true)
  (h:OldK s₁.heap s'.heap/\s'.os=s₁.os/\PyProof.Rows.AllBare s'.gens):PySem.W.GoodWG c cl mean args s₁ (Except.ok (PySem.Flow.ret (.bool true))) s':=
 ⟨.inl ⟨_, .bool true,[],rfl,hr, .bool _,hp,fun _=>⟨.nil,fun _ z=>nomatch z⟩⟩,h⟩
namespace PySem.W.Fast
def tw1923757385292705731:=0
def tw13034999868375982380:=0
def tw102246529696694299:=0
def tw18290640295387477676:=0
def tw4960207938584756346:=0
def tw15339022617273611662:=0
def tw2702920875787875850:=0
def tw4513053240524995613:=0
def tw11613401570324373680:=0
def tw15376563955250597266:=0
def tw5448368458908892961:=0
def tw8983371563643810959:=0
def tw6076488205922058883:=0
def tw12521989944346238789:=0
def tw1583363347705086532:=0
def tw5720018967848422616:=0
def tw17140280767273385565:=0
def tw4443361398480984036:=0
def tw11429864485878956416:=0
def tw16474726664695557682:=0
def tw5513189469890642101:=0
def tw7502174055344528333:=0
def tw229050909078911468:=0
def tw16995977812763948209:=0
def tw4534786125996695035:=0
def tw105694283938687575:=0
def tw3166507224706756583:=0
def tw16145005382588932906:=0
def tw5036661858128846733:=0
def tw13301395296604415568:=0
def tw8808364641108937626:=0
def tw7385728602900937728:=0
def tw1112672793360460551:=0
def tw4579419041201142069:=0
def tw6761626329996937460:=0
def tw9569119721196928915:=0
def tw12997314807496974422:=0
def tw9844687682807447965:=0
def tw2906519546263332080:=0
def tw16897125463763247862:=0
def tw328229723554477585:=0
def tw15951091386603382907:=0
def tw10053096962219587415:=0
def tw1688484662970419903:=0
def tw10174021385541913771:=0
def tw12112204770891241840:=0
def tw12539262411042851222:=0
def tw15652850886329203821:=0
def tw15238165180664320355:=0
def tw5226663893451509527:=0
def tw15405700356544139666:=0
def tw5712796800131118690:=0
def tw15029273751441750981:=0
def tw16215504164689395445:=0
def tw13868110705416710979:=0
def tw4211044296314445066:=0
def tw3034554905298311494:=0
def tw14183244921750323588:=0
def tw14410047840617788794:=0
def tw3091539203269051223:=0
def tw10241244015734142333:=0
def tw2943835628817891479:=0
def tw16922178653061224589:=0
def tw7267813000220131109:=0
def tw7041704352998999485:=0
def tw428310838715051943:=0
def tw7045398826593195477:=0
def tw10866430791387805067:=0
def tw1715306229075171199:=0
def tw12178633741550977305:=0
def tw6522493571089524924:=0
def tw16740772012200023298:=0
def tw12805537663256069458:=0
def tw2894372244745299402:=0
def tw8998278043363197885:=0
def tw9328529872942242627:=0
def tw17884327231063772343:=0
def tw7925470968159939519:=0
def tw6845341978016808847:=0
def tw5765700831682131961:=0
def tw8024261502899241446:=0
def tw17097378520686087494:=0
def tw7380644158740879335:=0
def tw7513474816975835174:=0
def tw17878584182136819571:=0
def tw8495740026443101045:=0
def tw15519930897295294977:=0
def tw7535254454958971397:=0
def tw11610114032604058835:=0
def tw6836231501108314654:=0
def tw10835470496872230321:=0
def tw12250675986205344104:=0
def tw17152943885050051951:=0
def tw15330632113602903347:=0
def tw16243602477676782867:=0
def tw7161136247334547416:=0
def tw247503022775462087:=0
def tw11809110494610529700:=0
def tw8154256579551615505:=0
def tw12155880334507278152:=0
def tw5851893051575001689:=0
def tw10018443752898032241:=0
def tw4737523431977005417:=0
def tw17382112159423444026:=0
def tw10883015685675656075:=0
def tw9220829332550089648:=0
def tw1502284732587169819:=0
def tw5550453617066576228:=0
def tw7679615288773702768:=0
def tw11025454059325580217:=0
def tw12094329007184822343:=0
def tw17145470436908738030:=0
def tw9043744269603437260:=0
def tw17202495166681772871:=0
def tw6699389121494361571:=0
def tw2789806635695082103:=0
def tw893254511619053126:=0
def tw3719284554517217428:=0
def tw12460857974325185581:=0
def tw10947066678387771268:=0
def tw13505541236231903181:=0
def tw11538619590793246014:=0
def tw10736638581828734455:=0
def tw16878090412209866871:=0
def tw659998807690196833:=0
def tw6850020988796572220:=0
def tw2470865743393599195:=0
def tw5619006152915011025:=0
def tw11735167209386253120:=0
def tw13075966659229675750:=0
def tw16956622430930570029:=0
def tw15175615389519031914:=0
def tw4101972826844001662:=0
def tw5351469091395774141:=0
def tw14081498474454086351:=0
def tw10629175931349994519:=0
def tw4958919419836631361:=0
def tw3181060025515346728:=0
def tw16624406121119670542:=0
def tw15413083610199935066:=0
def tw7743173688748012749:=0
def tw6375478081852928008:=0
def tw10834016098742794748:=0
def tw2827728736326532015:=0
def tw16504804513765906069:=0
def tw8972982915211401401:=0
def tw4300041945980491185:=0
def tw4653413057431908533:=0
def tw17022902979348807004:=0
def tw10595064160880720589:=0
def tw11170007382192191448:=0
def tw17730075720164801603:=0
def tw1161232309530176112:=0
def tw11850261000346095114:=0
def tw500812098353913082:=0
def tw18035711399357507842:=0
def tw4937011619667616722:=0
def tw1667991427363227772:=0
def tw15057551997705989541:=0
def tw11807796986703720799:=0
def tw14567752473092601427:=0
def tw9996254694011445014:=0
def tw16870918020351999196:=0
def tw7377176805826998758:=0
def tw5636924345532705176:=0
def tw12664747787779136695:=0
def tw10524112532307615754:=0
def tw6406492234858424660:=0
def tw17140273969489965675:=0
def tw17231953756445052685:=0
def tw6555212642823042887:=0
def tw605343416646981550:=0
def tw14527702028863812295:=0
def tw3004529113106648190:=0
def tw771261309684131741:=0
def tw4785738139787107773:=0
def tw17227758858220330071:=0
def tw16679695517867569309:=0
def tw12771858293769468210:=0
def tw11980939052620936838:=0
def tw14286566696442214734:=0
def tw13582287920690030837:=0
def tw3134791176688062905:=0
def tw12917454273141848123:=0
def tw7101954006357846235:=0
def tw146601295696323176:=0
def tw1587948671154854775:=0
def tw11969968681716907903:=0
def tw12913780495102692557:=0
def tw7012256857329968225:=0
def tw715158277952867260:=0
def tw4704697468916954437:=0
def tw10678341256147277788:=0
end PySem.W.Fast
set_option maxRecDepth 100000 in
set_option maxHeartbeats 0 in
theorem PySem.Challenge.cw_lightmark_k05_whole_parts_come_back_holds : PySem.Challenge.rw_lightmark_k05_whole_parts_come_back.Holds := by
 w_on;o_law;z_head;(case hw=>w_witness2)
 k_fill
 intro w s₀ s₁ mg mb G y fa o pm cd doc dV kV ho hd hcd hD hmg hg args vals as L hpre hlay hrd hwl hlo
 z_open y L KX ZH ZN ZT
 refine Ground.open G ?_
 intro T B D TE TW
 wrow_args hpre hlay hrd hwl hlo
 rename_i ns _ _ _ _ _ _ _ a vs _ hL _ _ _ hI _ hlen _
 have htk:=script_toks L ZT
 have hobj:=script_obj L hL
 have hbits:∀ n∈ns,PySem.Builtin.Int.intBits n<=1048576:=fun n hn=>PySem.intBits_le_of_item hn (by assumption)
 kn_lay T hmg ho hd cd
 obtain ⟨c,Pt,hTT,t,tc⟩:∃ c Pt,PySem.W.TabsAt [(c,Pt)] s₁.heap/\K5.Top (L2.KOf KX) c/\∃ z:K5.Addrs,K5.ClsT (L2.dropK (L2.KOf KX) ([(c,Pt)].map (·.2))) z:=by
  refine ⟨_,_,hT9,?_,?_⟩
  rotate_left
  ·have h0:=L2.tabs0_of KX hT9
   dsimp only[L2.KOf]
   refine' K5.cls_mk h0 ?y_c_BadTree ?y_c_Plain ?y_c_Code ?y_c_Strong ?y_c_Link ?y_c_Mark ?y_x_BadTree ?y_p_Plain ?y_n_Plain_signs ?y_j_Plain_Plain ?y_j_Plain_Mark ?y_s_Plain ?y_p_Code ?y_n_Code_signs ?y_j_Code_Plain ?y_j_Code_Mark ?y_s_Code ?y_p_Strong ?y_n_Strong_parts ?y_j_Strong_Plain ?y_j_Strong_Mark ?y_s_Strong ?y_p_Link ?y_n_Link_words ?y_n_Link_name ?y_j_Link_Plain ?y_j_Link_Mark ?y_s_Link ?y_p_Mark ?y_n_Mark_name ?y_j_Mark_Plain ?y_j_Mark_Mark ?y_s_Mark ?y_m_Plain_Init ?y_m_Plain_Told ?y_m_Plain_Raw ?y_m_Plain_Said ?y_m_Code_Init ?y_m_Code_Told ?y_m_Code_Raw ?y_m_Code_Said ?y_m_Strong_Init ?y_m_Strong_Told ?y_m_Strong_Raw ?y_m_Strong_Said ?y_m_Link_Init ?y_m_Link_Told ?y_m_Link_Raw ?y_m_Link_Said ?y_m_Mark_Init ?y_m_Mark_Told ?y_m_Mark_Raw ?y_m_Mark_Said
   case y_c_BadTree=>k_is
   case y_c_Plain=>k_is
   case y_c_Code=>k_is
   case y_c_Strong=>k_is
   case y_c_Link=>k_is
   case y_c_Mark=>k_is
   case y_x_BadTree=>(refine' K5.ownx_VE ?yq;(case yq=>kernel_rfl))
   case y_p_Plain=>(refine' ⟨?z1,?z2,?z3,?z4,?z5,?z6,?z7,?z8,?z9,?z10⟩;(case z1=>kernel_rfl);(case z2=>kernel_rfl);(case z3=>kernel_rfl);(case z4=>kernel_rfl);(case z5=>kernel_rfl);(case z6=>kernel_rfl);(case z7=>kernel_rfl);(case z8=>kernel_rfl);(case z9=>kernel_rfl);(case z10=>kernel_rfl))
   case y_n_Plain_signs=>kernel_rfl
   case y_j_Plain_Plain=>kernel_rfl
   case y_j_Plain_Mark=>kernel_rfl
   case y_s_Plain=>kernel_rfl
   case y_p_Code=>(refine' ⟨?z1,?z2,?z3,?z4,?z5,?z6,?z7,?z8,?z9,?z10⟩;(case z1=>kernel_rfl);(case z2=>kernel_rfl);(case z3=>kernel_rfl);(case z4=>kernel_rfl);(case z5=>kernel_rfl);(case z6=>kernel_rfl);(case z7=>kernel_rfl);(case z8=>kernel_rfl);(case z9=>kernel_rfl);(case z10=>kernel_rfl))
   case y_n_Code_signs=>kernel_rfl
   case y_j_Code_Plain=>kernel_rfl
   case y_j_Code_Mark=>kernel_rfl
   case y_s_Code=>kernel_rfl
   case y_p_Strong=>(refine' ⟨?z1,?z2,?z3,?z4,?z5,?z6,?z7,?z8,?z9,?z10⟩;(case z1=>kernel_rfl);(case z2=>kernel_rfl);(case z3=>kernel_rfl);(case z4=>kernel_rfl);(case z5=>kernel_rfl);(case z6=>kernel_rfl);(case z7=>kernel_rfl);(case z8=>kernel_rfl);(case z9=>kernel_rfl);(case z10=>kernel_rfl))
   case y_n_Strong_parts=>kernel_rfl
   case y_j_Strong_Plain=>kernel_rfl
   case y_j_Strong_Mark=>kernel_rfl
   case y_s_Strong=>kernel_rfl
   case y_p_Link=>(refine' ⟨?z1,?z2,?z3,?z4,?z5,?z6,?z7,?z8,?z9,?z10⟩;(case z1=>kernel_rfl);(case z2=>kernel_rfl);(case z3=>kernel_rfl);(case z4=>kernel_rfl);(case z5=>kernel_rfl);(case z6=>kernel_rfl);(case z7=>kernel_rfl);(case z8=>kernel_rfl);(case z9=>kernel_rfl);(case z10=>kernel_rfl))
   case y_n_Link_words=>kernel_rfl
   case y_n_Link_name=>kernel_rfl
   case y_j_Link_Plain=>kernel_rfl
   case y_j_Link_Mark=>kernel_rfl
   case y_s_Link=>kernel_rfl
   case y_p_Mark=>(refine' ⟨?z1,?z2,?z3,?z4,?z5,?z6,?z7,?z8,?z9,?z10⟩;(case z1=>kernel_rfl);(case z2=>kernel_rfl);(case z3=>kernel_rfl);(case z4=>kernel_rfl);(case z5=>kernel_rfl);(case z6=>kernel_rfl);(case z7=>kernel_rfl);(case z8=>kernel_rfl);(case z9=>kernel_rfl);(case z10=>kernel_rfl))
   case y_n_Mark_name=>kernel_rfl
   case y_j_Mark_Plain=>kernel_rfl
   case y_j_Mark_Mark=>kernel_rfl
   case y_s_Mark=>kernel_rfl
   case y_m_Plain_Init=>(refine' K5.mIn2_mk ?xa ?xl ?xc ?xb ?xi;(case xa=>k_is);(case xl=>k_is);(case xc=>k_is);(case xb=>kernel_rfl);(case xi=>kernel_rfl))
   case y_m_Plain_Told=>(refine' K5.mIn2_mk ?xa ?xl ?xc ?xb ?xi;(case xa=>k_is);(case xl=>k_is);(case xc=>k_is);(case xb=>kernel_rfl);(case xi=>kernel_rfl))
   case y_m_Plain_Raw=>(refine' K5.mIn2_mk ?xa ?xl ?xc ?xb ?xi;(case xa=>k_is);(case xl=>k_is);(case xc=>k_is);(case xb=>kernel_rfl);(case xi=>kernel_rfl))
   case y_m_Plain_Said=>(refine' K5.mIn2_mk ?xa ?xl ?xc ?xb ?xi;(case xa=>k_is);(case xl=>k_is);(case xc=>k_is);(case xb=>kernel_rfl);(case xi=>kernel_rfl))
   case y_m_Code_Init=>(refine' K5.mIn2_mk ?xa ?xl ?xc ?xb ?xi;(case xa=>k_is);(case xl=>k_is);(case xc=>k_is);(case xb=>kernel_rfl);(case xi=>kernel_rfl))
   case y_m_Code_Told=>(refine' K5.mIn2_mk ?xa ?xl ?xc ?xb ?xi;(case xa=>k_is);(case xl=>k_is);(case xc=>k_is);(case xb=>kernel_rfl);(case xi=>kernel_rfl))
   case y_m_Code_Raw=>(refine' K5.mIn2_mk ?xa ?xl ?xc ?xb ?xi;(case xa=>k_is);(case xl=>k_is);(case xc=>k_is);(case xb=>kernel_rfl);(case xi=>kernel_rfl))
   case y_m_Code_Said=>(refine' K5.mIn2_mk ?xa ?xl ?xc ?xb ?xi;(case xa=>k_is);(case xl=>k_is);(case xc=>k_is);(case xb=>kernel_rfl);(case xi=>kernel_rfl))
   case y_m_Strong_Init=>(refine' K5.mIn2_mk ?xa ?xl ?xc ?xb ?xi;(case xa=>k_is);(case xl=>k_is);(case xc=>k_is);(case xb=>kernel_rfl);(case xi=>kernel_rfl))
   case y_m_Strong_Told=>(refine' K5.mIn2_mk ?xa ?xl ?xc ?xb ?xi;(case xa=>k_is);(case xl=>k_is);(case xc=>k_is);(case xb=>kernel_rfl);(case xi=>kernel_rfl))
   case y_m_Strong_Raw=>(refine' K5.mIn2_mk ?xa ?xl ?xc ?xb ?xi;(case xa=>k_is);(case xl=>k_is);(case xc=>k_is);(case xb=>kernel_rfl);(case xi=>kernel_rfl))
   case y_m_Strong_Said=>(refine' K5.mIn2_mk ?xa ?xl ?xc ?xb ?xi;(case xa=>k_is);(case xl=>k_is);(case xc=>k_is);(case xb=>kernel_rfl);(case xi=>kernel_rfl))
   case y_m_Link_Init=>(refine' K5.mIn2_mk ?xa ?xl ?xc ?xb ?xi;(case xa=>k_is);(case xl=>k_is);(case xc=>k_is);(case xb=>kernel_rfl);(case xi=>kernel_rfl))
   case y_m_Link_Told=>(refine' K5.mIn2_mk ?xa ?xl ?xc ?xb ?xi;(case xa=>k_is);(case xl=>k_is);(case xc=>k_is);(case xb=>kernel_rfl);(case xi=>kernel_rfl))
   case y_m_Link_Raw=>(refine' K5.mIn2_mk ?xa ?xl ?xc ?xb ?xi;(case xa=>k_is);(case xl=>k_is);(case xc=>k_is);(case xb=>kernel_rfl);(case xi=>kernel_rfl))
   case y_m_Link_Said=>(refine' K5.mIn2_mk ?xa ?xl ?xc ?xb ?xi;(case xa=>k_is);(case xl=>k_is);(case xc=>k_is);(case xb=>kernel_rfl);(case xi=>kernel_rfl))
   case y_m_Mark_Init=>(refine' K5.mIn2_mk ?xa ?xl ?xc ?xb ?xi;(case xa=>k_is);(case xl=>k_is);(case xc=>k_is);(case xb=>kernel_rfl);(case xi=>kernel_rfl))
   case y_m_Mark_Told=>(refine' K5.mIn2_mk ?xa ?xl ?xc ?xb ?xi;(case xa=>k_is);(case xl=>k_is);(case xc=>k_is);(case xb=>kernel_rfl);(case xi=>kernel_rfl))
   case y_m_Mark_Raw=>(refine' K5.mIn2_mk ?xa ?xl ?xc ?xb ?xi;(case xa=>k_is);(case xl=>k_is);(case xc=>k_is);(case xb=>kernel_rfl);(case xi=>kernel_rfl))
   case y_m_Mark_Said=>(refine' K5.mIn2_mk ?xa ?xl ?xc ?xb ?xi;(case xa=>k_is);(case xl=>k_is);(case xc=>k_is);(case xb=>kernel_rfl);(case xi=>kernel_rfl))
  dsimp only[L2.KOf]
  constructor
  case f_escaped=>(refine' K5.fnIn_mk ?xa ?xl ?xc ?xk ?xp;(case xa=>k_is);(case xl=>k_is);(case xc=>k_is);(case xk=>k_is);(case xp=>exact trivial))
  case f_told_parts=>(refine' K5.fnIn_mk ?xa ?xl ?xc ?xk ?xp;(case xa=>k_is);(case xl=>k_is);(case xc=>k_is);(case xk=>k_is);(case xp=>exact trivial))
  case f_raw_of=>(refine' K5.fnIn_mk ?xa ?xl ?xc ?xk ?xp;(case xa=>k_is);(case xl=>k_is);(case xc=>k_is);(case xk=>k_is);(case xp=>exact trivial))
  case f_said_of=>(refine' K5.fnIn_mk ?xa ?xl ?xc ?xk ?xp;(case xa=>k_is);(case xl=>k_is);(case xc=>k_is);(case xk=>k_is);(case xp=>exact trivial))
  case f_is_name=>(refine' K5.fnIn_mk ?xa ?xl ?xc ?xk ?xp;(case xa=>k_is);(case xl=>k_is);(case xc=>k_is);(case xk=>k_is);(case xp=>exact trivial))
  case f_name_of=>(refine' K5.fnIn_mk ?xa ?xl ?xc ?xk ?xp;(case xa=>k_is);(case xl=>k_is);(case xc=>k_is);(case xk=>k_is);(case xp=>exact trivial))
  case f_parts_of=>(refine' K5.fnIn_mk ?xa ?xl ?xc ?xk ?xp;(case xa=>k_is);(case xl=>k_is);(case xc=>k_is);(case xk=>k_is);(case xp=>exact trivial))
  case f_pieces_of=>(refine' K5.fnIn_mk ?xa ?xl ?xc ?xk ?xp;(case xa=>k_is);(case xl=>k_is);(case xc=>k_is);(case xk=>k_is);(case xp=>exact trivial))
  case f_piece_at=>(refine' K5.fnIn_mk ?xa ?xl ?xc ?xk ?xp;(case xa=>k_is);(case xl=>k_is);(case xc=>k_is);(case xk=>k_is);(case xp=>exact trivial))
  case f_takes_next=>(refine' K5.fnIn_mk ?xa ?xl ?xc ?xk ?xp;(case xa=>k_is);(case xl=>k_is);(case xc=>k_is);(case xk=>k_is);(case xp=>exact trivial))
  case f_closings_of=>(refine' K5.fnIn_mk ?xa ?xl ?xc ?xk ?xp;(case xa=>k_is);(case xl=>k_is);(case xc=>k_is);(case xk=>k_is);(case xp=>exact trivial))
  case f_code_at=>(refine' K5.fnIn_mk ?xa ?xl ?xc ?xk ?xp;(case xa=>k_is);(case xl=>k_is);(case xc=>k_is);(case xk=>k_is);(case xp=>exact trivial))
  case f_mark_at=>(refine' K5.fnIn_mk ?xa ?xl ?xc ?xk ?xp;(case xa=>k_is);(case xl=>k_is);(case xc=>k_is);(case xk=>k_is);(case xp=>exact trivial))
  case f_link_at=>(refine' K5.fnIn_mk ?xa ?xl ?xc ?xk ?xp;(case xa=>k_is);(case xl=>k_is);(case xc=>k_is);(case xk=>k_is);(case xp=>exact trivial))
  case f_freed=>(refine' K5.fnIn_mk ?xa ?xl ?xc ?xk ?xp;(case xa=>k_is);(case xl=>k_is);(case xc=>k_is);(case xk=>k_is);(case xp=>exact trivial))
  case f_with_strong=>(refine' K5.fnIn_mk ?xa ?xl ?xc ?xk ?xp;(case xa=>k_is);(case xl=>k_is);(case xc=>k_is);(case xk=>k_is);(case xp=>exact trivial))
  case f_merged=>(refine' K5.fnIn_mk ?xa ?xl ?xc ?xk ?xp;(case xa=>k_is);(case xl=>k_is);(case xc=>k_is);(case xk=>k_is);(case xp=>exact trivial))
  case f_need_parts=>(refine' K5.fnIn_mk ?xa ?xl ?xc ?xk ?xp;(case xa=>k_is);(case xl=>k_is);(case xc=>k_is);(case xk=>k_is);(case xp=>exact trivial))
  case f_need_run=>(refine' K5.fnIn_mk ?xa ?xl ?xc ?xk ?xp;(case xa=>k_is);(case xl=>k_is);(case xc=>k_is);(case xk=>k_is);(case xp=>exact trivial))
  case f_need_part=>(refine' K5.fnIn_mk ?xa ?xl ?xc ?xk ?xp;(case xa=>k_is);(case xl=>k_is);(case xc=>k_is);(case xk=>k_is);(case xp=>exact trivial))
  case f_need_inner=>(refine' K5.fnIn_mk ?xa ?xl ?xc ?xk ?xp;(case xa=>k_is);(case xl=>k_is);(case xc=>k_is);(case xk=>k_is);(case xp=>exact trivial))
  case f_need_signs=>(refine' K5.fnIn_mk ?xa ?xl ?xc ?xk ?xp;(case xa=>k_is);(case xl=>k_is);(case xc=>k_is);(case xk=>k_is);(case xp=>exact trivial))
  case f_need_code=>(refine' K5.fnIn_mk ?xa ?xl ?xc ?xk ?xp;(case xa=>k_is);(case xl=>k_is);(case xc=>k_is);(case xk=>k_is);(case xp=>exact trivial))
  case f_need_small_name=>(refine' K5.fnIn_mk ?xa ?xl ?xc ?xk ?xp;(case xa=>k_is);(case xl=>k_is);(case xc=>k_is);(case xk=>k_is);(case xp=>exact trivial))
  case f_begins_with_blank=>(refine' K5.fnIn_mk ?xa ?xl ?xc ?xk ?xp;(case xa=>k_is);(case xl=>k_is);(case xc=>k_is);(case xk=>k_is);(case xp=>exact trivial))
  case f_ends_with_blank=>(refine' K5.fnIn_mk ?xa ?xl ?xc ?xk ?xp;(case xa=>k_is);(case xl=>k_is);(case xc=>k_is);(case xk=>k_is);(case xp=>exact trivial))
  case f__law_cell=>(refine' K5.fnIn_mk ?xa ?xl ?xc ?xk ?xp;(case xa=>k_is);(case xl=>k_is);(case xc=>k_is);(case xk=>k_is);(case xp=>exact trivial))
  case f__law_mixed=>(refine' K5.fnIn_mk ?xa ?xl ?xc ?xk ?xp;(case xa=>k_is);(case xl=>k_is);(case xc=>k_is);(case xk=>k_is);(case xp=>exact trivial))
  case f__law_menu=>(refine' K5.fnIn_mk ?xa ?xl ?xc ?xk ?xp;(case xa=>k_is);(case xl=>k_is);(case xc=>k_is);(case xk=>k_is);(case xp=>exact trivial))
  case f__law_signs=>(refine' K5.fnIn_mk ?xa ?xl ?xc ?xk ?xp;(case xa=>k_is);(case xl=>k_is);(case xc=>k_is);(case xk=>k_is);(case xp=>exact trivial))
  case f__law_text=>(refine' K5.fnIn_mk ?xa ?xl ?xc ?xk ?xp;(case xa=>k_is);(case xl=>k_is);(case xc=>k_is);(case xk=>k_is);(case xp=>exact trivial))
  case f__law_name=>(refine' K5.fnIn_mk ?xa ?xl ?xc ?xk ?xp;(case xa=>k_is);(case xl=>k_is);(case xc=>k_is);(case xk=>k_is);(case xp=>exact trivial))
  case f__law_ends=>(refine' K5.fnIn_mk ?xa ?xl ?xc ?xk ?xp;(case xa=>k_is);(case xl=>k_is);(case xc=>k_is);(case xk=>k_is);(case xp=>exact trivial))
  case f__law_part=>(refine' K5.fnIn_mk ?xa ?xl ?xc ?xk ?xp;(case xa=>k_is);(case xl=>k_is);(case xc=>k_is);(case xk=>k_is);(case xp=>exact trivial))
  case f__law_parts=>(refine' K5.fnIn_mk ?xa ?xl ?xc ?xk ?xp;(case xa=>k_is);(case xl=>k_is);(case xc=>k_is);(case xk=>k_is);(case xp=>exact trivial))
  case f__law_guarded=>(refine' K5.fnIn_mk ?xa ?xl ?xc ?xk ?xp;(case xa=>k_is);(case xl=>k_is);(case xc=>k_is);(case xk=>k_is);(case xp=>exact trivial))
  case f__law_raw=>(refine' K5.fnIn_mk ?xa ?xl ?xc ?xk ?xp;(case xa=>k_is);(case xl=>k_is);(case xc=>k_is);(case xk=>k_is);(case xp=>exact trivial))
  case f__law_said=>(refine' K5.fnIn_mk ?xa ?xl ?xc ?xk ?xp;(case xa=>k_is);(case xl=>k_is);(case xc=>k_is);(case xk=>k_is);(case xp=>exact trivial))
  case f__law_built=>(refine' K5.fnIn_mk ?xa ?xl ?xc ?xk ?xp;(case xa=>k_is);(case xl=>k_is);(case xc=>k_is);(case xk=>k_is);(case xp=>exact trivial))
  case f__law_spoilt=>(refine' K5.fnIn_mk ?xa ?xl ?xc ?xk ?xp;(case xa=>k_is);(case xl=>k_is);(case xc=>k_is);(case xk=>k_is);(case xp=>exact trivial))
  case f__law_asked=>(refine' K5.fnIn_mk ?xa ?xl ?xc ?xk ?xp;(case xa=>k_is);(case xl=>k_is);(case xc=>k_is);(case xk=>k_is);(case xp=>exact rfl))
  case f_law=>(refine' K5.fnIn_mk ?xa ?xl ?xc ?xk ?xp;(case xa=>k_is);(case xl=>k_is);(case xc=>k_is);(case xk=>k_is);(case xp=>exact trivial))
  case n_list=>k_is
  case n_len=>k_is
  case n_isinstance=>k_is
  case n_all=>k_is
  case n_str=>k_is
  case n_tuple=>k_is
  case n_range=>k_is
  case n_int=>k_is
  case g_NAME_SIGNS=>(refine' K5.cst_mk ?xe ?xf;(case xe=>k_is);(case xf=>exact ⟨_,rfl⟩))
  case g_LONGEST_NAME=>(refine' K5.cst_mk ?xe ?xf;(case xe=>k_is);(case xf=>exact ⟨_,rfl⟩))
  case g_TAKEN=>(refine' K5.cst_mk ?xe ?xf;(case xe=>k_is);(case xf=>exact ⟨_,rfl⟩))
  case g_ESCAPED=>(refine' K5.cst_mk ?xe ?xf;(case xe=>k_is);(case xf=>exact ⟨_,rfl⟩))
 have hbi:∃ bm o,mg "__builtins__"=some (.ref bm)/\bm≠builtinsNs/\bm≠mainGlobals/\s₁.heap.get? bm=some o/\o.cls = .type "module"/\o.dict=some builtinsNs/\o.data = .plain:=by
  obtain ⟨bm,ob,b1,b2,b3,b4,b5,b6⟩:=T.bmain
  refine ⟨bm,ob,b1,b2,fun q=>?_,b3,b4,b5,b6⟩
  obtain ⟨o,es,ep,e,hd,_⟩:=T.g
  rw[q,e] at b3;cases b3;rw[hd] at b6;cases b6
 obtain ⟨fd,hb,hF⟩:=K5.all_law (P:=PySem.Challenge.rw_lightmark_k05_whole_parts_come_back.row.prog) (w:=w) (Pt:=Pt) (L2.dropK_in KX) T.g hmg (t.drop (L2.tabs0_of KX hTT)) tc
 refine wpAny_call (codeAny_mono (L2.law_callT (L2.dropK_in KX) T.g T.b T.builtins T.nolimit hg (Nat.lt_of_lt_of_le (by decide) htk) hobj hI (Lw.big (by omega)) ⟨rfl,by decide,by decide⟩ hTT L2.dropK_not hbi hF hb (fun H hO hS hB=>⟨a,ns,rfl,hS,hbits,hB _ (List.mem_singleton.mpr rfl),fun _=>rfl⟩) fun H e s' z=>z) fun r s' q=>?_)
 obtain ⟨rfl,q⟩:=q
 exact L2.true_law (fun _=>rfl) (by with_unfolding_all rfl) q
#print axioms PySem.Challenge.cw_lightmark_k05_whole_parts_come_back_holds
