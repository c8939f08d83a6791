import PyProof.Rows.All
import Wide.All
import OpenK.AllK
import Wide.FinOn
import Lean
import PyProof.EqAt
import PyProof.EqKinds
import PyProof.TupleCall
import PySem.Challenge.RW_belfry_k04_what_is_no_word
set_option Elab.async false
set_option linter.all false
set_option maxRecDepth 100000
namespace Law
open PySem PySem.Spec PyProof.Rows
def strVH:Value->Option Str
 | .str x _=>some x
 | _=>none
def gdObsH (x:Str)(s:Shared):Option (Bool×List (Int×Option Str×Option Str)):=match s.heap.nsMap mainGlobals x with
 | some (.ref a)=>(match s.heap.get? a with
  | some o=>(match o.data with
   | .dict es _=>some (decide (o.cls=.type "dict")&&o.dict.isNone&&o.slots.isEmpty&&!(a==sysModules),es.toList.map fun e=>(e.hash,strVH e.key,strVH e.val))
   | _=>none)
  | none=>none)
 | _=>none
def gdValH (ks:List (Str×Str))(w:World):Option (Bool×List (Int×Option Str×Option Str)):=some (true,ks.map fun p=>(hashStr w p.1,some p.1,some p.2))
def top (i:Nat):Stmt:=PySem.Challenge.pw_belfry_k04_what_is_no_word.main.body.getD i (.Pass ⟨0,0,0,0⟩)
def iniSt:Stmt:=(match top 2 with
 | .ClassDef _ _ _ b _ _ _ _ _ _ _=>b
 | _=>[]).getD 0 (.Pass ⟨0,0,0,0⟩)
def bmVH:List Value:=[.type "ValueError",.type "Exception",.type "BaseException",.type "object"]
def stillCH:List Str:=["__class__","__getattribute__","__getattr__","__setattr__","at"]
def stillDH:List Str:=stillCH++quietNames
def zOthersH:List Str:=["BadLine","BadTree","Late","NoPlace","NoStretch","Twice","Unknown"]
def otherOkH (h:Heap)(x:Str):Bool:=match h.clsAt mainGlobals x with
 | some (B,o,_)=>decide (o.cls=.type "type")&&!decide (h.nsMap mainGlobals "BadWord" = some (.ref B))&&!decide (h.nsMap mainGlobals "HouseError" = some (.ref B))
 | none=>false
def stillOkH (h:Heap)(name:Str)(ns:List Str):Bool:=match h.clsAt mainGlobals name with
 | some (_,_,cd)=>ns.all fun n=>(h.nsMap cd.ns n).isNone
 | none=>false
def bwOkH (h:Heap):Bool:=match h.clsAt mainGlobals "BadWord" with
 | some (C,o,cd)=>decide (o.cls=.type "type")&&decide (cd.mro=.ref C::(h.nsMap mainGlobals "HouseError").getD .none::bmVH)&&!cd.hasDel&&decide (o.slots.size=6)&&decide (o.slots[4]?=some (some (.builtin "ValueError.__new__")))&&h.isNs cd.ns&&cd.hasDict&&(stillCH.all fun n=>(h.nsMap cd.ns n).isNone) &&
  (match h.fnAt cd.ns "__init__" with
   | some (_,o,_)=>decide (o.cls=.type "function")
   | none=>false)
 | none=>false
def iniShH (h:Heap):Option FnShape:=match h.clsAt mainGlobals "BadWord" with
 | some (_,_,cd)=>h.shapeAt cd.ns "__init__"
 | none=>none
def zObsH (s:Shared):Bool×Option FnShape:=(bwOkH s.heap&&s.heap.ownExcOk "HouseError" [] bmVH "ValueError.__new__"&&stillOkH s.heap "HouseError" stillDH&&zOthersH.all (otherOkH s.heap),iniShH s.heap)
def zValH:Bool×Option FnShape:=(true,match iniSt with
 | .FunctionDef _ a b _ _ _ sc _ _ _=>some ⟨"__init__","BadWord.__init__",a,.stmts b,sc,mainGlobals,[],.none,.none,none,.none,builtinsNs,true⟩
 | _=>none)
end Law
section
open PySem PySem.W PyProof.Rows
def Law.pw2:Program:={ PySem.Challenge.pw_belfry_k04_what_is_no_word with main:={ PySem.Challenge.pw_belfry_k04_what_is_no_word.main with body:=[Law.top 0,Law.top 1,Law.top 2,Law.top 3,Law.top 4,Law.top 5,Law.top 6,Law.top 7,Law.top 8,Law.top 9,Law.top 10,Law.top 11,Law.top 12,Law.top 13,Law.top 14,Law.top 15,Law.top 16,Law.top 17,Law.top 18,Law.top 19,Law.top 20,Law.top 21,Law.top 22,Law.top 23,Law.top 24,Law.top 25,Law.top 26,Law.top 27,Law.top 28,Law.top 29,Law.top 30,Law.top 31,Law.top 32,Law.top 33,Law.top 34,Law.top 35,Law.top 36,Law.top 37,Law.top 38,Law.top 39,Law.top 40,Law.top 41,Law.top 42,Law.top 43,Law.top 44,Law.top 45,Law.top 46,Law.top 47] } }
def Law.rw2:OpenLaw:={ PySem.Challenge.rw_belfry_k04_what_is_no_word with prog:=Law.pw2 }
theorem Law.rw_eq:Law.rw2=PySem.Challenge.rw_belfry_k04_what_is_no_word:=by kernel_rfl
def Law.vw:Program:={ Law.pw2 with main:={ Law.pw2.main with body:=[Law.top 1,Law.top 2,Law.top 3,Law.top 4,Law.top 5,Law.top 6,Law.top 7,Law.top 8,Law.top 9,Law.top 11,Law.top 12,Law.top 13,Law.top 14,Law.top 15,Law.top 16,Law.top 17,Law.top 18,Law.top 20,Law.top 21,Law.top 22,Law.top 23,Law.top 24,Law.top 25,Law.top 26,Law.top 27,Law.top 28,Law.top 29,Law.top 30,Law.top 31,Law.top 33,Law.top 34,Law.top 35,Law.top 36,Law.top 37,Law.top 38,Law.top 39,Law.top 40,Law.top 41,Law.top 42,Law.top 43,Law.top 44,Law.top 45,Law.top 46,Law.top 47] } }
set_option maxRecDepth 100000 in
set_option maxHeartbeats 0 in
theorem Law.left_false (w:World):(openEnds treeTable Law.rw2.row.prog (World.withFollow w "special-get-raises" false) 20000).map (fun s=>(openSeen Law.vw [("SIGN_OF" : Str)] (importedModules Law.rw2.row.prog.main.body) (fun s=>xlAt Law.vw [] s&&recOk (RowW.records (OpenRow.toRowW Law.rw2.row)) s) true s,(Law.gdObsH ("SIGN_OF" : Str) s,Law.zObsH s)))=some (openGood Law.vw [("SIGN_OF" : Str)],(Law.gdValH [(("is" : Str),("=" : Str)),(("no" : Str),("!" : Str)),(("there" : Str),("+" : Str)),(("lacks" : Str),("-" : Str))] (World.withFollow w "special-get-raises" false),Law.zValH)):=by kernel_rfl
set_option maxRecDepth 100000 in
set_option maxHeartbeats 0 in
theorem Law.left_true (w:World):(openEnds treeTable Law.rw2.row.prog (World.withFollow w "special-get-raises" true) 20000).map (fun s=>(openSeen Law.vw [("SIGN_OF" : Str)] (importedModules Law.rw2.row.prog.main.body) (fun s=>xlAt Law.vw [] s&&recOk (RowW.records (OpenRow.toRowW Law.rw2.row)) s) true s,(Law.gdObsH ("SIGN_OF" : Str) s,Law.zObsH s)))=some (openGood Law.vw [("SIGN_OF" : Str)],(Law.gdValH [(("is" : Str),("=" : Str)),(("no" : Str),("!" : Str)),(("there" : Str),("+" : Str)),(("lacks" : Str),("-" : Str))] (World.withFollow w "special-get-raises" true),Law.zValH)):=by kernel_rfl
end
namespace L2
open PySem PySem.Spec PyProof.Rows
abbrev Key:=Sum Int Str
def keyIs:Key->Value->Bool
 | .inl k,v=>Value.isInt k v
 | .inr x,v=>Value.isStrOf x v
def keyH (w:World):Key->Int
 | .inl k=>hashInt k
 | .inr x=>hashStr w x
theorem keyIs_shape:∀ {k:Key} {v:Value},keyIs k v=true->(∃ i t,k=Sum.inl i/\v=Value.int i t)\/(∃ x t,k=Sum.inr x/\v=Value.str x t)
 | .inl i,v,h=>by
  obtain⟨t,e⟩:=Value.isInt_shape (k:=i) (v:=v) h;exact .inl ⟨i,t,rfl,e⟩
 | .inr x,v,h=>by
  obtain⟨t,e⟩:=Value.isStrOf_shape (x:=x) (v:=v) h;exact .inr ⟨x,t,rfl,e⟩
theorem keyIs_int (i:Int)(t:Tok):keyIs (.inl i) (.int i t)=true:=by simp[keyIs,Value.isInt]
theorem keyIs_str (x:Str)(t:Tok):keyIs (.inr x) (.str x t)=true:=by simp[keyIs,Value.isStrOf]
theorem key_ll (a b:Int):decide ((Sum.inl a:Key)=Sum.inl b)=(a==b):=by
 by_cases e:a=b
 ·subst e;simp
 ·have h:¬ (Sum.inl a:Key)=Sum.inl b:=fun q=>e (Sum.inl.inj q)
  rw[decide_eq_false h];exact(beq_eq_false_iff_ne.mpr e).symm
theorem key_rr (a b:Str):decide ((Sum.inr a:Key)=Sum.inr b)=decide (a=b):=by
 by_cases e:a=b
 ·subst e;simp
 ·have h:¬ (Sum.inr a:Key)=Sum.inr b:=fun q=>e (Sum.inr.inj q)
  rw[decide_eq_false h,decide_eq_false e]
theorem key_lr (a:Int)(b:Str):decide ((Sum.inl a:Key)=Sum.inr b)=false:=decide_eq_false (fun q=>nomatch q)
theorem key_rl (a:Str)(b:Int):decide ((Sum.inr a:Key)=Sum.inl b)=false:=decide_eq_false (fun q=>nomatch q)
def mixKind (prog:Program)(w:World):PySem.KeyKind prog w Key where
 is:=keyIs
 hash:=keyH w
 inj:=fun v a b ha hb=>by
  rcases keyIs_shape ha with ⟨i,t,rfl,rfl⟩|⟨x,t,rfl,rfl⟩
  ·rcases keyIs_shape hb with ⟨j,u,rfl,e⟩|⟨y,u,rfl,e⟩
   ·injection e with e1 _;rw[e1]
   ·exact nomatch e
  ·rcases keyIs_shape hb with ⟨j,u,rfl,e⟩|⟨y,u,rfl,e⟩
   ·exact nomatch e
   ·injection e with e1 _;rw[e1]
 byValue:=fun k v h=>by
  rcases keyIs_shape h with ⟨i,t,rfl,rfl⟩|⟨x,t,rfl,rfl⟩ <;> rfl
 pyHash:=fun hv h=>by
  rcases keyIs_shape hv with ⟨i,t,rfl,rfl⟩|⟨x,t,rfl,rfl⟩
  ·exact wpAny_pyHash_int h
  ·exact wpAny_pyHash_str h
 eqBool:=fun hu hv h=>by
  rcases keyIs_shape hu with ⟨i,t,rfl,rfl⟩|⟨x,t,rfl,rfl⟩
  ·rcases keyIs_shape hv with ⟨j,u,rfl,rfl⟩|⟨y,u,rfl,rfl⟩
   ·rw[key_ll]at h;exact wpAny_eqBool_int h
   ·rw[key_lr]at h;exact SeqAt.EqAt.int_str i t y u _ _ _ _ h
  ·rcases keyIs_shape hv with ⟨j,u,rfl,rfl⟩|⟨y,u,rfl,rfl⟩
   ·rw[key_rl]at h;exact SeqAt.EqAt.str_int x t j u _ _ _ _ h
   ·rw[key_rr]at h;exact wpAny_eqBool_str h
 «strs»:=fun k x t v h=>by
  rcases keyIs_shape h with ⟨i,u,rfl,e⟩|⟨y,u,rfl,e⟩
  ·exact nomatch e
  ·injection e with e1 _
   subst e1;cases v <;> rfl
theorem mixKind_int (prog:Program)(w:World)(i:Int)(t:Tok):(mixKind prog w).is (.inl i) (.int i t)=true:=keyIs_int i t
theorem mixKind_str (prog:Program)(w:World)(x:Str)(t:Tok):(mixKind prog w).is (.inr x) (.str x t)=true:=keyIs_str x t
end L2
namespace L2
open PySem PySem.Spec PyProof.Rows
inductive V where
 | non | bl (b:Bool) | int (i:Int) | str (x:Str) | byt (b:Array UInt8) | flt (b:UInt64) | ref (a:Addr) | ty (n:String)
 deriving DecidableEq
def RelV:V->Value->Prop
 | .non,u=>u=Value.none
 | .bl b,u=>u=Value.bool b
 | .int i,u=>∃ t,u=Value.int i t
 | .str x,u=>∃ t,u=Value.str x t
 | .byt b,u=>∃ t,u=Value.bytes b t
 | .flt b,u=>∃ t,u=Value.float b t
 | .ref a,u=>u=Value.ref a
 | .ty n,u=>u=Value.type n
abbrev Vals:List V->List Value->Prop:=Paired RelV
theorem Vals.length {xs:List V}{us:List Value}(r:Vals xs us):xs.length=us.length:=Paired.length r
theorem Vals.get:∀ {xs:List V} {us:List Value} {i:Nat} {x:V},Vals xs us->xs[i]?=some x->∃ u,us[i]?=some u/\RelV x u
 | _,_,_,_,.nil,e=>by simp at e
 | _,_,0,_,.cons r _,e=>by simp at e;subst e;exact⟨_,rfl,r⟩
 | _,_,i + 1,x,.cons _ t,e=>by
  obtain⟨u,h1,h2⟩:=Vals.get (i:=i) (x:=x) t (by simpa using e);exact⟨u,by simpa using h1,h2⟩
theorem Vals.set {x:V}{u:Value}(r:RelV x u):∀ {xs:List V} {us:List Value} (i:Nat),Vals xs us->Vals (xs.set i x) (us.set i u)
 | _,_,_,.nil=>.nil
 | _,_,0,.cons _ t=>.cons r t
 | _,_,i + 1,.cons q t=>.cons q (Vals.set r i t)
theorem Vals.append:∀ {xs ys:List V} {us ws:List Value},Vals xs us->Vals ys ws->Vals (xs++ys) (us++ws)
 | _,_,_,_,.nil,s=>s
 | _,_,_,_,.cons r t,s=>.cons r (Vals.append t s)
theorem Vals.take:∀ {xs:List V} {us:List Value} (n:Nat),Vals xs us->Vals (xs.take n) (us.take n)
 | _,_,0,_=>.nil
 | _,_,_ + 1,.nil=>.nil
 | _,_,n + 1,.cons r t=>.cons r (Vals.take n t)
theorem Vals.drop:∀ {xs:List V} {us:List Value} (n:Nat),Vals xs us->Vals (xs.drop n) (us.drop n)
 | _,_,0,r=>r
 | _,_,_ + 1,.nil=>.nil
 | _,_,n + 1,.cons _ t=>Vals.drop n t
theorem Vals.none_of:∀ {xs:List V} {us:List Value} {i:Nat},Vals xs us->xs[i]?=none->us[i]?=none:=fun {xs us i} r e=>by
 have h1:=r.length;have h2:xs.length<=i:=List.getElem?_eq_none_iff.mp e;exact List.getElem?_eq_none_iff.mpr (by first | lia | omega)
def RelO:Option V->Option Value->Prop
 | some v,some u=>RelV v u
 | none,none=>True
 | _,_=>False
def KV {κ:Type}:List (κ×V)->List (κ×Value)->Prop:=Paired fun (p:κ×V) (q:κ×Value)=>p.1=q.1/\RelV p.2 q.2
def kV:Key->V
 | .inl i=>.int i
 | .inr x=>.str x
inductive HO where
 | lst (xs:List V)
 | tup (xs:List V)
 | dK (kvs:List (Key×V)) | dT (kvs:List (List Key×V))
 | set (S:Int->Bool) (n:Nat)
 | ins (C dx:Addr) (fs:List (Str×V))
 | own (x:Addr)
 | xd (fs:List (Str×V))
 | met (f x:Addr)
 | rng (lo hi:Int)
 | frz (o:Obj) (u:HO)
 | tbl (ps:Array Value)
 | ext (φ:Heap->Prop)
abbrev Hp:=Addr->Option HO
def upd (H:Hp)(a:Addr)(o:HO):Hp:=fun b=>if b=a then some o else H b
theorem upd_same {H:Hp}{a:Addr}{o:HO}:upd H a o a=some o:=by unfold upd;rw[if_pos rfl]
theorem upd_ne {H:Hp}{a b:Addr}{o:HO}(h:b≠a):upd H a o b=H b:=by unfold upd;rw[if_neg h]
theorem upd_upd {H:Hp}{a:Addr}{o u:HO}:upd (upd H a o) a u=upd H a u:=by
 funext b;unfold upd;split <;> rfl
theorem ne_of {H:Hp}{a b:Addr}{o u:HO}(h:H a=some o)(h':H b=some u)(d:o≠u):a≠b:=by
 intro e;subst e;rw[h]at h';exact d (Option.some.inj h')
theorem ne_of_none {H:Hp}{a b:Addr}{o:HO}(h:H a=some o)(h':H b=none):a≠b:=by
 intro e;subst e;rw[h]at h';cases h'
def TupN (h:Heap)(a:Addr)(items:Array Value):Prop:=IsTup h a items/\∀ o,h.get? a=some o->o.dict=none/\o.slots = #[]
theorem TupN.new (h:Heap)(items:Array Value):TupN (h.push { cls:=.type "tuple",data:=.seq items }) h.objs.size items:=⟨IsTup.new _ _,fun o e=>by
 rw[Heap.get?_push_size _ rfl]at e;cases e;exact⟨rfl,rfl⟩⟩
section
variable (P:Program)(w:World)
def ObjOk (H:Hp)(h:Heap)(a:Addr):HO->Prop
 | .lst xs=>xs.length<=sizeLine/\∃ (its:List Value) (n:Nat),Vals xs its/\h.get? a=some { cls:=.type "list",data:=.seq its.toArray n }
 | .tup xs=>xs.length<=sizeLine/\∃ its:List Value,Vals xs its/\TupN h a its.toArray
 | .dK kvs=>kvs.length<=sizeLine/\(a==sysModules)=false/\∃ vs,KV kvs vs/\h.DictOf (mixKind P w) a vs
 | .dT kvs=>kvs.length<=sizeLine/\(a==sysModules)=false/\∃ xs:List (List Key×Addr×Value),
   Paired (fun (p:List Key×V) (q:List Key×Addr×Value)=>p.1=q.1/\H q.2.1=some (.tup (p.1.map kV))/\RelV p.2 q.2.2) kvs xs /\
   ∃ o es ep,h.get? a=some o/\o.ExactDict/\o.data=.dict es ep/\es.toList=xs.map (entryOfKey (tupleKind (mixKind P w)))/\(xs.map (·.1)).Nodup
 | .set S n=>h.SetOf (intKind P w) a S n
 | .ins C dx fs=>H dx=some (.own a)/\fs.length<=1000/\dx≠a/\h.get? a=some (PySem.W.instObj C dx) /\
   ∃ mA,h.Ns1 dx mA/\(∀ f,RelO (fs.lookup f) (mA f))/\PySem.Within mA (fs.map (·.1))
 | .own _=>∃ o,h.get? a=some o
 | .xd fs=>∃ mA,h.Ns1 a mA/\∀ f,RelO (fs.lookup f) (mA f)
 | .rng lo hi=>∃ t u v,h.get? a=some { cls:=.type "range",data:=.fields #[.int lo t,.int hi u,.int 1 v] }
 | .frz o u=>h.get? a=some o/\ObjOk H h a u
 | .tbl ps=>h.get? a=some { cls:=.none,data:=.fields ps }
 | .met f x=>h.get? a=some (PySem.W.methodObj (.ref f) (.ref x))
 | .ext φ=>φ h/\(∃ o,h.get? a=some o)/\∀ h1 h2:Heap,φ h1->(∀ o,h1.get? a=some o->h2.get? a=some o)->φ h2
def HOk (H:Hp)(h:Heap):Prop:=∀ a o,H a=some o->ObjOk P w H h a o
end
section
variable {P:Program}{w:World}{H H':Hp}{h h':Heap}{a:Addr}{o:HO}
theorem ObjOk.lt (x:ObjOk P w H h a o):a < h.objs.size:=by
 cases o with
 | lst xs=>obtain⟨_,_,_,_,e⟩:=x;exact Heap.lt_size e
 | tup xs=>obtain⟨_,_,_,p,_⟩:=x;exact p.lt
 | dK kvs=>obtain⟨_,_,_,_,o,_,_,e,_⟩:=x;exact Heap.lt_size e
 | dT kvs=>obtain⟨_,_,_,_,o,_,_,e,_⟩:=x;exact Heap.lt_size e
 | set S n=>obtain⟨o,_,_,_,e,_⟩:=x;exact Heap.lt_size e
 | ins C dx fs=>obtain⟨_,_,_,e,_⟩:=x;exact Heap.lt_size e
 | own y=>obtain⟨_,e⟩:=x;exact Heap.lt_size e
 | xd fs=>obtain⟨_,⟨_,_,_,e,_⟩,_⟩:=x;exact Heap.lt_size e
 | rng lo hi=>obtain⟨_,_,_,e⟩:=x;exact Heap.lt_size e
 | frz ob u=>obtain⟨e,_⟩:=x;exact Heap.lt_size e
 | tbl ps=>exact Heap.lt_size (show h.get? a=some _ from x)
 | met f y=>exact Heap.lt_size (show h.get? a=some _ from x)
 | ext φ=>obtain⟨_,⟨_,e⟩,_⟩:=x;exact Heap.lt_size e
theorem Paired.mapP {α β:Type}{F G:α->β->Prop}:∀ {l₁:List α} {l₂:List β},Paired F l₁ l₂->(∀ a b,F a b->G a b)->Paired G l₁ l₂
 | _,_,.nil,_=>.nil
 | _,_,.cons r t,f=>.cons (f _ _ r) (Paired.mapP t f)
theorem ObjOk.stay (x:ObjOk P w H h a o)(k:∀ b u,(b=a\/H b=some (.own a))->h.get? b=some u->h'.get? b=some u)
  (ho:∀ b,H b=some (.own a)->H' b=some (.own a)) (ht:∀ b xs,H b=some (.tup xs)->H' b=some (.tup xs)):ObjOk P w H' h' a o:=by
 induction o with
 | lst xs=>obtain⟨z,its,n,r,e⟩:=x;exact⟨z,its,n,r,k _ _ (.inl rfl) e⟩
 | tup xs =>
  obtain⟨z,its,r,⟨ob,e,c⟩,d⟩:=x;have e':=k _ _ (.inl rfl) e;exact⟨z,its,r,⟨ob,e',c⟩,fun o q=>by rw[e']at q;cases q;exact d _ e⟩
 | dK kvs=>obtain⟨z,y,vs,r,ob,es,ep,e,c⟩:=x;exact⟨z,y,vs,r,ob,es,ep,k _ _ (.inl rfl) e,c⟩
 | dT kvs =>
  obtain⟨z,y,xs,r,ob,es,ep,e,c⟩:=x;exact⟨z,y,xs,Paired.mapP r fun p q z=>⟨z.1,ht _ _ z.2.1,z.2.2⟩,ob,es,ep,k _ _ (.inl rfl) e,c⟩
 | set S n=>obtain⟨ob,es,ep,t,e,c⟩:=x;exact⟨ob,es,ep,t,k _ _ (.inl rfl) e,c⟩
 | ins C dx fs =>
  obtain⟨d,z,ne,e,mA,⟨od,es,ep,e2,c⟩,r⟩:=x;exact⟨ho _ d,z,ne,k _ _ (.inl rfl) e,mA,⟨od,es,ep,k _ _ (.inr d) e2,c⟩,r⟩
 | own y=>obtain⟨ob,e⟩:=x;exact⟨ob,k _ _ (.inl rfl) e⟩
 | xd fs=>obtain⟨mA,⟨od,es,ep,e,c⟩,r⟩:=x;exact⟨mA,⟨od,es,ep,k _ _ (.inl rfl) e,c⟩,r⟩
 | rng lo hi=>obtain⟨t,u,v,e⟩:=x;exact⟨t,u,v,k _ _ (.inl rfl) e⟩
 | frz ob u ih=>obtain⟨e,q⟩:=x;exact⟨k _ _ (.inl rfl) e,ih q⟩
 | tbl ps =>
  have e:h.get? a=some { cls:=.none,data:=.fields ps }:=x;show h'.get? a=some { cls:=.none,data:=.fields ps };exact k a _ (.inl rfl) e
 | met f y =>
  have e:h.get? a=some (PySem.W.methodObj (.ref f) (.ref y)):=x;show h'.get? a=some (PySem.W.methodObj (.ref f) (.ref y));exact k a _ (.inl rfl) e
 | ext φ=>obtain⟨p,⟨o,e⟩,st⟩:=x;exact⟨st _ _ p fun o q=>k _ _ (.inl rfl) q,⟨o,k _ _ (.inl rfl) e⟩,st⟩
theorem HOk.lt (x:HOk P w H h)(e:H a=some o):a < h.objs.size:=(x a o e).lt
theorem HOk.fresh (x:HOk P w H h)(e:h.objs.size<=a):H a=none:=by
 cases q:H a with
 | none=>rfl
 | some u=>exact absurd (Nat.lt_of_lt_of_le (x.lt q) e) (Nat.lt_irrefl _)
theorem HOk.kept (x:HOk P w H h)(k:∀ b u,h.get? b=some u->h'.get? b=some u):HOk P w H h':=fun a o e =>
 (x a o e).stay (fun b u _ q=>k b u q) (fun _ q=>q) fun _ _ q=>q
theorem HOk.laid (x:HOk P w H h)(k:∀ b u,h.get? b=some u->h'.get? b=some u)(hp:h.objs.size<=a)(new:ObjOk P w (upd H a o) h' a o):HOk P w (upd H a o) h':=fun b u e=>by
 have hn:=x.fresh hp;by_cases hb:b=a
 ·subst hb;rw[upd_same]at e;cases e;exact new
 ·rw[upd_ne hb]at e
  exact(x b u e).stay (fun c v _ q=>k c v q) (fun c q=>by rw[upd_ne (ne_of_none q hn)];exact q) fun c xs q=>by rw[upd_ne (ne_of_none q hn)];exact q
end
def Rd (H:Hp)(a:Addr)(u:HO):Prop:=H a=some u\/∃ o,H a=some (.frz o u)
theorem Rd.ok {P:Program}{w:World}{H:Hp}{h:Heap}{a:Addr}{u:HO}(r:Rd H a u)(x:HOk P w H h):ObjOk P w H h a u:=by
 rcases r with r | ⟨o,r⟩
 ·exact x a u r
 ·obtain⟨_,q⟩:=x a _ r
  exact q
def Mut:Option HO->Prop
 | some (.lst _)=>True
 | some (.dK _)=>True
 | some (.dT _)=>True
 | some (.set _ _)=>True
 | some (.ins _ _ _)=>True
 | some (.ext _)=>True
 | _=>False
section
variable {P:Program}{w:World}{H:Hp}{h h':Heap}{x e:Addr}{o':HO}
theorem HOk.write (ok:HOk P w H h)(mu:Mut (H x))(he:e=x\/H e=some (.own x))(k:∀ b u,b≠e->h.get? b=some u->h'.get? b=some u)(heo:∃ u,h'.get? e=some u)
  (new:ObjOk P w (upd H x o') h' x o'):HOk P w (upd H x o') h':=fun b u q=>by
 have nown:∀ c y,H c=some (.own y)->c≠x:=fun c y r z=>by subst z;rw[r]at mu;exact mu
 have ntup:∀ c xs,H c=some (.tup xs)->c≠x:=fun c xs r z=>by subst z;rw[r]at mu;exact mu
 by_cases hb:b=x
 ·subst hb;rw[upd_same]at q;cases q;exact new
 ·rw[upd_ne hb]at q
  by_cases hbe:b=e
  ·have q':H b=some (.own x):=by
    rcases he with z | z
    ·exact absurd (hbe.trans z) hb
    ·rw[hbe];exact z
   rw[q]at q';cases q';obtain⟨v,hv⟩:=heo;exact⟨v,by rw[hbe];exact hv⟩
  ·refine(ok b u q).stay (fun c v hc r=>k c v ?_ r) (fun c r=>by rw[upd_ne (nown c b r)];exact r) fun c xs r=>by rw[upd_ne (ntup c xs r)];exact r
   rcases hc with rfl | hc
   ·exact hbe
   ·rintro rfl
    rcases he with z | z
    ·exact nown c b hc z
    ·rw[hc]at z;cases z;exact hb rfl
end
structure Un (fs ex:List Addr) (H H':Hp) (h h':Heap):Prop where
 keep:∀ b o,h.get? b=some o->H b=none->b ∉ fs->b ∉ ex->h'.get? b=some o
 slot:∀ b o,h.get? b=some o->H b=none->b∈fs->b ∉ ex->∃ sl,h'.get? b=some { o with slots:=sl }
 free:∀ b o,h.get? b=some o->H b=none->b ∉ ex->H' b=none
 there:∀ b o,h.get? b=some o->b ∉ ex->∃ o',h'.get? b=some o'
 tups:∀ b xs,H b=some (.tup xs)->H' b=some (.tup xs)
 frzs:∀ b o u,H b=some (.frz o u)->H' b=some (.frz o u)
 tbls:∀ b ps,H b=some (.tbl ps)->∃ more,H' b=some (.tbl (ps++more))
section
variable {fs fs' ex ex':List Addr}{H H1 H2:Hp}{h h1 h2 h':Heap}{a x e:Addr}{o:HO}
theorem Un.any (u:Un fs ex H H1 h h1){b:Addr}{ob:Obj}(q:h.get? b=some ob)(n:H b=none)(hx:b ∉ ex):∃ sl,h1.get? b=some { ob with slots:=sl }:=by
 by_cases hb:b∈fs
 ·exact u.slot b ob q n hb hx
 ·exact⟨ob.slots,u.keep b ob q n hb hx⟩
theorem Un.kept (k:∀ b u,h.get? b=some u->h'.get? b=some u):Un fs ex H H h h' :=
 ⟨fun b ob q _ _ _=>k b ob q,fun b ob q _ _ _=>⟨ob.slots,k b ob q⟩,fun _ _ _ n _=>n,fun b ob q _=>⟨ob,k b ob q⟩,fun _ _ q=>q,fun _ _ _ q=>q,fun _ ps q=>⟨#[],by rw[q];simp⟩⟩
theorem Un.refl:Un fs ex H H h h:=Un.kept fun _ _ q=>q
theorem Un.laid (k:∀ b u,h.get? b=some u->h'.get? b=some u)(hp:h.objs.size<=a)(hn:H a=none):Un fs ex H (upd H a o) h h' where
 keep:=fun b u q _ _ _=>k b u q
 slot:=fun b u q _ _ _=>⟨u.slots,k b u q⟩
 free:=fun b u q n _=>by rw[upd_ne (Nat.ne_of_lt (Nat.lt_of_lt_of_le (Heap.lt_size q) hp))];exact n
 there:=fun b u q _=>⟨u,k b u q⟩
 tups:=fun b xs q=>by rw[upd_ne (ne_of_none q hn)];exact q
 frzs:=fun b u xs q=>by rw[upd_ne (ne_of_none q hn)];exact q
 tbls:=fun b ps q=>⟨#[],by rw[upd_ne (ne_of_none q hn),q];simp⟩
theorem Un.write (mu:Mut (H x))(he:e=x\/H e=some (.own x))(k:∀ b u,b≠e->h.get? b=some u->h'.get? b=some u)(heo:∃ u,h'.get? e=some u):Un fs ex H (upd H x o) h h':=by
 have hx:∀ b,H b=none->b≠x:=fun b n z=>by subst z;rw[n]at mu;exact mu
 have hb:∀ b,H b=none->b≠e:=fun b n z=>by
  subst z;rcases he with r | r
  ·exact hx b n r
  ·rw[n]at r;cases r
 have hm:∀ b u,H b=some u->¬ Mut (some u)->b≠x:=fun b u q nm z=>by subst z;rw[q]at mu;exact nm mu
 refine⟨fun b u q n _ _=>k b u (hb b n) q,fun b u q n _ _=>⟨u.slots,k b u (hb b n) q⟩,fun b u q n _=>by rw[upd_ne (hx b n)];exact n,fun b u q _=>?_,
  fun b xs q=>by rw[upd_ne (hm b _ q fun z=>z)];exact q,fun b u xs q=>by rw[upd_ne (hm b _ q fun z=>z)];exact q,fun b ps q=>⟨#[],by rw[upd_ne (hm b _ q fun z=>z),q];simp⟩⟩
 by_cases hbe:b=e
 ·subst hbe;exact heo
 ·exact⟨u,k b u hbe q⟩
end
def trk (h:Heap)(H:Hp):List Addr:=(List.range h.objs.size).filter fun a=>(H a).isSome
def hidT (h:Heap)(H:Hp):Heap:=PySem.W.hideAll h (trk h H)
theorem hidT_size (h:Heap)(H:Hp):(hidT h H).objs.size=h.objs.size:=PySem.W.hideAll_size _ _
theorem hidT_get {h:Heap}{H:Hp}{b:Addr}{o:Obj}(e:h.get? b=some o)(n:H b=none):(hidT h H).get? b=some o :=
 PySem.W.hideAll_get _ e fun hm=>by
  have q:(H b).isSome=true:=(List.mem_filter.mp hm).2;rw[n]at q;simp at q
theorem of_hidT {h:Heap}{H:Hp}{b:Addr}{o:Obj}(e:(hidT h H).get? b=some o):h.get? b=some o/\H b=none:=by
 have e':h.get? b=some o:=PySem.W.of_hideAll (trk h H) e;refine⟨e',?_⟩;cases q:H b with
 | none=>rfl
 | some x =>
  have hm:b∈trk h H:=List.mem_filter.mpr ⟨List.mem_range.mpr (Heap.lt_size e'),by simp[q]⟩;have z:(hidT h H).get? b=none:=PySem.W.hideAll_none (trk h H) hm;rw[z]at e;cases e
end L2
namespace L2
open PySem PySem.Spec PyProof.Rows
structure Mod (K:PySem.W.Frag) (mg:Str->Option Value) (base:Heap):Prop where
 kin:K.In base
 glob:base.Ns mainGlobals mg
 blt:∃ mb,base.Ns builtinsNs mb/\∀ x:Str,x≠"__name__"->mb x=bootBuiltins x
 nolimit:base.NoLimit
/-- the context: a def's body (or a comprehension's block) running. base: fixed through the whole law;s₀,H₀: the entry;outer: the frames whose slots others may change (a def's callers);stack: all frames that run;
   ex: iterators that were made ahead of the entry and are walked here (a comprehension's);fn: the names whose cells were made at the entry (a def: all;a comprehension's block: its own);calm: not within an except suite;pn: pins that every state bears;xe: what is wanted of an exception that leaves the code -/
structure Cx where
 prog:Program
 w:World
 K:PySem.W.Frag
 mg:Str->Option Value
 base:Heap
 A:Around
 N:List Str
 s₀:Shared
 H₀:Hp
 env:Env
 outer:List Env
 stack:List Env
 ex:List Addr
 fn:Str->Bool
 calm:Bool
 pn:List (Addr×Obj)
 xe:Value->Shared->Prop
def frs (l:List Env):List Addr:=l.filterMap (·.frame)
abbrev Cx.fs (X:Cx):List Addr:=frs X.outer
def Vis (sc:Scope)(x:Str):Prop:=sc.names.lookup x=some .local\/sc.names.lookup x=some .cell\/sc.names.lookup x=some .free
def Loc (sc:Scope)(x:Str):Prop:=sc.names.lookup x=some .local\/sc.names.lookup x=some .cell
def Look (env:Env)(h:Heap)(m:Str->Option Value)(x:Str)(u:Value):Prop :=
 (env.kindOf x=some .local/\m x=some u)\/((env.kindOf x=some .cell\/env.kindOf x=some .free)/\∃ c,env.cells.lookup x=some c/\h.IsCell c (some u))
structure Cx.Ok (X:Cx):Prop where
 mod:Mod X.K X.mg X.base
 kind:X.env.scope.kind=.function
 glob:X.env.globals=mainGlobals
 blt:X.env.builtins=builtinsNs
 above:X.s₀.heap.objs.size<=X.env.locals
 inj:∀ x y c,X.env.cells.lookup x=some c->X.env.cells.lookup y=some c->x=y
 has:∀ x,(X.env.kindOf x=some .cell\/X.env.kindOf x=some .free)->∃ c,X.env.cells.lookup x=some c
 cab:∀ x c,X.fn x=true->X.env.cells.lookup x=some c->X.s₀.heap.objs.size<=c
 hd:X.calm=true->X.A.handled=none
 frames:X.A.frames=some X.stack
 stk:X.stack=X.outer\/(X.stack=X.env::X.outer/\X.env.frame=some X.env.locals)
 exf:∀ b∈X.ex,b≠X.env.locals/\∀ x c,X.env.cells.lookup x=some c->c≠b
 bs:∀ b o,X.base.get? b=some o->X.s₀.heap.get? b=some o/\X.H₀ b=none
 bsz:X.base.objs.size<=X.s₀.heap.objs.size
 noex:∀ b o,X.base.get? b=some o->b ∉ X.ex
 exfs:∀ b∈X.ex,b ∉ X.fs
 funs:X.s₀.heap.FunFrames X.base X.outer
 frf:∀ b∈X.fs,X.H₀ b=none
structure Inv (X:Cx) (pins:List (Addr×Obj)) (σ:List (Option V)) (H:Hp) (s:Shared):Prop where
 ok:X.Ok
 os:s.os=X.s₀.os
 bare:AllBare s.gens
 base:Un X.fs X.ex X.H₀ H X.s₀.heap s.heap
 loc:∃ m,s.heap.Ns X.env.locals m/\∀ (i:Nat) (x:Str) (v:V),X.N[i]?=some x->σ[i]?=some (some v)->Vis X.env.scope x->∃ u,RelV v u/\Look X.env s.heap m x u
 cell:∀ x c,X.env.cells.lookup x=some c->∃ v,s.heap.IsCell c v
 free:H X.env.locals=none
 freeC:∀ x c,X.env.cells.lookup x=some c->H c=none
 pin:∀ p∈X.pn++pins,s.heap.get? p.1=some p.2/\H p.1=none/\p.1≠X.env.locals/\p.1 ∉ X.fs/\∀ v,p.2.data≠.cell v
 hok:HOk X.prog X.w H s.heap
 len:σ.length=X.N.length
section
variable {X:Cx}{pins:List (Addr×Obj)}{σ:List (Option V)}{H H':Hp}{s:Shared}{h':Heap}
theorem Cx.Ok.nofr (ok:X.Ok){b:Addr}{o:Obj}(e:X.base.get? b=some o):b ∉ X.fs:=fun hb=>by
 have:=(ok.funs.mem hb).1
 rw[e]at this;cases this
theorem Inv.bs (I:Inv X pins σ H s):∀ b o,X.base.get? b=some o->s.heap.get? b=some o/\H b=none:=fun b o e =>
 ⟨I.base.keep b o (I.ok.bs b o e).1 (I.ok.bs b o e).2 (I.ok.nofr e) (I.ok.noex b o e),I.base.free b o (I.ok.bs b o e).1 (I.ok.bs b o e).2 (I.ok.noex b o e)⟩
theorem Inv.bk (I:Inv X pins σ H s):∀ b o,X.base.get? b=some o->s.heap.get? b=some o:=fun b o e=>(I.bs b o e).1
theorem Inv.mod (I:Inv X pins σ H s):Mod X.K X.mg X.base:=I.ok.mod
theorem Inv.kIn (I:Inv X pins σ H s):X.K.In s.heap:=I.ok.mod.kin.keeps I.bk
theorem Inv.lt (I:Inv X pins σ H s):X.env.locals < s.heap.objs.size:=let ⟨_,hn,_⟩:=I.loc;hn.lt
theorem Inv.sz (I:Inv X pins σ H s):X.s₀.heap.objs.size<=s.heap.objs.size:=Nat.le_trans I.ok.above (Nat.le_of_lt I.lt)
theorem Inv.nofs (I:Inv X pins σ H s){a:Addr}(h:s.heap.objs.size<=a):a ∉ X.fs:=fun hb=>by
 obtain⟨_,o,ho,_⟩:=I.ok.funs.mem hb;exact absurd (Nat.lt_of_lt_of_le (Heap.lt_size ho) (Nat.le_trans I.sz h)) (Nat.lt_irrefl _)
theorem Inv.cne (I:Inv X pins σ H s):∀ x c,X.env.cells.lookup x=some c->c≠X.env.locals:=fun x c e z=>by
 obtain⟨v,o,ho,hd⟩:=I.cell x c e;obtain⟨m,⟨o',es,ep,ho',hd',_⟩,_⟩:=I.loc;rw[z,ho']at ho;cases ho;rw[hd']at hd;cases hd
theorem Inv.funs (I:Inv X pins σ H s):s.heap.FunFrames X.base X.outer:=by
 have all:∀ (l:List Env),(∀ b∈frs l,b∈X.fs)->X.s₀.heap.FunFrames X.base l->s.heap.FunFrames X.base l:=by
  intro l;induction l with
  | nil=>intro _ _;trivial
  | cons env r ih =>
   intro hs hl;obtain⟨hk,⟨L,o,hf,hn,ho,hd⟩,hr⟩:=hl;have hL:L∈X.fs:=hs L (by unfold frs;rw[List.filterMap_cons,hf];exact List.mem_cons_self);obtain⟨sl,e⟩:=I.base.slot L o ho (I.ok.frf L hL) hL fun z=>I.ok.exfs L z hL;exact⟨hk,⟨L,_,hf,hn,e,hd⟩,ih (fun b hb=>hs b (by unfold frs;rw[List.filterMap_cons,hf];exact List.mem_cons_of_mem _ hb)) hr⟩
 exact all X.outer (fun _ hb=>hb) I.ok.funs
theorem Inv.stack (I:Inv X pins σ H s):s.heap.FunFrames X.base X.stack:=by
 rcases I.ok.stk with e | ⟨e,hf⟩
 ·rw[e];exact I.funs
 ·rw[e]
  obtain⟨m,hn,_⟩:=I.loc;refine .cons (by rw[I.ok.kind];decide) hf hn ?_ I.funs;exact Heap.get?_none_of_le (Nat.le_trans I.ok.bsz I.ok.above)
theorem Inv.stkSub (I:Inv X pins σ H s):∀ b∈frs X.stack,b∈X.env.locals::X.fs:=fun b hb=>by
 rcases I.ok.stk with e | ⟨e,hf⟩
 ·rw[e]at hb;exact List.mem_cons_of_mem _ hb
 ·rw[e]at hb
  unfold frs at hb;rw[List.filterMap_cons,hf]at hb;exact hb
theorem Inv.stkFree (I:Inv X pins σ H s):∀ b∈frs X.stack,H b=none:=fun b hb=>by
 rcases List.mem_cons.mp (I.stkSub b hb) with e | hb
 ·rw[e];exact I.free
 ·obtain⟨_,o,ho,_⟩:=I.ok.funs.mem hb
  exact I.base.free b o ho (I.ok.frf b hb) fun z=>I.ok.exfs b z hb
theorem Inv.step {g':Array GenState}{t':Nat}{d':Drawn}{ch:List Addr}(I:Inv X pins σ H s)
  (hch:∀ b∈ch,(b∈X.ex\/X.s₀.heap.objs.size<=b)/\b≠X.env.locals/\(∀ x c,X.env.cells.lookup x=some c->c≠b)/\∀ p∈X.pn++pins,p.1≠b)
  (keep:∀ b o,b≠X.env.locals->b ∉ X.fs->b ∉ ch->s.heap.get? b=some o->H b=none->h'.get? b=some o)
  (slot:∀ b o,b≠X.env.locals->b∈X.fs->b ∉ ch->s.heap.get? b=some o->H b=none->∃ sl,h'.get? b=some { o with slots:=sl }) (free:∀ b o,b ∉ ch->s.heap.get? b=some o->H b=none->H' b=none)
  (there:∀ b o,b ∉ ch->s.heap.get? b=some o->∃ o',h'.get? b=some o')
  (tups:∀ b xs,H b=some (.tup xs)->H' b=some (.tup xs)) (frzs:∀ b o u,H b=some (.frz o u)->H' b=some (.frz o u)) (tbls:∀ b ps,H b=some (.tbl ps)->∃ more,H' b=some (.tbl (ps++more)))
  (ns:∀ m,s.heap.Ns X.env.locals m->h'.Ns X.env.locals m) (hok:HOk X.prog X.w H' h') (hg:AllBare g') :
  Inv X pins σ H' { s with heap:=h',gens:=g',drawn:=d',toks:=t' }:=by
 have neL:∀ b o,X.s₀.heap.get? b=some o->b≠X.env.locals:=fun b o e=>Nat.ne_of_lt (Nat.lt_of_lt_of_le (Heap.lt_size e) I.ok.above);have neC:∀ b o,X.s₀.heap.get? b=some o->b ∉ X.ex->b ∉ ch:=fun b o e hx hb=>by
  rcases (hch b hb).1 with z | z
  ·exact hx z
  ·exact absurd (Nat.lt_of_lt_of_le (Heap.lt_size e) z) (Nat.lt_irrefl _)
 have cellK:∀ x c,X.env.cells.lookup x=some c->∀ v,s.heap.IsCell c v->h'.IsCell c v:=fun x c e v ⟨o,ho,hd⟩=>by
  have nch:c ∉ ch:=fun z=>(hch c z).2.2.1 x c e rfl;by_cases hc:c∈X.fs
  ·obtain⟨sl,q⟩:=slot c o (I.cne x c e) hc nch ho (I.freeC x c e)
   exact⟨_,q,hd⟩
  ·exact⟨o,keep c o (I.cne x c e) hc nch ho (I.freeC x c e),hd⟩
 refine⟨I.ok,I.os,hg,⟨fun b o e n hb hx=>?_,fun b o e n hb hx=>?_,fun b o e n hx=>?_,fun b o e hx=>?_,fun b xs e=>tups b xs (I.base.tups b xs e),fun b o xs e=>frzs b o xs (I.base.frzs b o xs e),fun b ps e=>?_⟩,?_,fun x c e=>?_,?_,fun x c e=>?_,fun p hp=>?_,hok,I.len⟩
 ·exact keep b o (neL b o e) hb (neC b o e hx) (I.base.keep b o e n hb hx) (I.base.free b o e n hx)
 ·obtain⟨sl,e1⟩:=I.base.slot b o e n hb hx
  obtain⟨sl',e2⟩:=slot b _ (neL b o e) hb (neC b o e hx) e1 (I.base.free b o e n hx);exact⟨sl',e2⟩
 ·obtain⟨o',e1⟩:=I.base.there b o e hx
  exact free b o' (neC b o e hx) e1 (I.base.free b o e n hx)
 ·obtain⟨o',e1⟩:=I.base.there b o e hx
  exact there b o' (neC b o e hx) e1
 ·obtain⟨m1,e1⟩:=I.base.tbls b ps e
  obtain⟨m2,e2⟩:=tbls b _ e1;exact⟨m1++m2,by rw[e2,Array.append_assoc]⟩
 ·obtain⟨m,hn,hl⟩:=I.loc
  refine⟨m,ns m hn,fun i x v e1 e2 e3=>?_⟩;obtain⟨u,r,l⟩:=hl i x v e1 e2 e3;refine⟨u,r,?_⟩;rcases l with l | ⟨k,c,e,z⟩
  ·exact .inl l
  ·exact .inr ⟨k,c,e,cellK x c e _ z⟩
 ·obtain⟨v,z⟩:=I.cell x c e
  exact⟨v,cellK x c e v z⟩
 ·obtain⟨m,⟨o,_,_,ho,_⟩,_⟩:=I.loc
  exact free _ o (fun z=>(hch _ z).2.1 rfl) ho I.free
 ·obtain⟨v,o,ho,hd⟩:=I.cell x c e
  exact free c o (fun z=>(hch c z).2.2.1 x c e rfl) ho (I.freeC x c e)
 ·obtain⟨e,n,ne,nf,d⟩:=I.pin p hp
  have nch:p.1 ∉ ch:=fun z=>(hch p.1 z).2.2.2 p hp rfl;exact⟨keep p.1 p.2 ne nf nch e n,free p.1 p.2 nch e n,ne,nf,d⟩
theorem Inv.un {t':Nat}(I:Inv X pins σ H s)(u:Un X.fs [] H H' s.heap h')(hok:HOk X.prog X.w H' h'):Inv X pins σ H' { s with heap:=h',toks:=t' }:=by
 obtain⟨m,⟨o,es,ep,ho,r⟩,_⟩:=id I.loc;obtain⟨sl,hL⟩:=u.any ho I.free (by simp);exact I.step (g':=s.gens) (d':=s.drawn) (ch:=[]) (fun _ z=>nomatch z) (fun b o _ hb _ e n=>u.keep b o e n hb (by simp)) (fun b o _ hb _ e n=>u.slot b o e n hb (by simp)) (fun b o _ e n=>u.free b o e n (by simp)) (fun b o _ e=>u.there b o e (by simp)) u.tups u.frzs u.tbls (fun m' hm=>by
  obtain⟨o',es',ep',ho',r'⟩:=hm;rw[ho]at ho';cases ho';exact⟨_,es',ep',hL,r'⟩) hok I.bare
theorem Inv.call {g':Array GenState}{t':Nat}{d':Drawn}{ch:List Addr}(I:Inv X pins σ H s)(u:Un (frs X.stack) ch H H' s.heap h')(hok:HOk X.prog X.w H' h')(hg:AllBare g')
  (hch:∀ b∈ch,(b∈X.ex\/X.s₀.heap.objs.size<=b)/\b≠X.env.locals/\(∀ x c,X.env.cells.lookup x=some c->c≠b)/\∀ p∈X.pn++pins,p.1≠b) :
  Inv X pins σ H' { s with heap:=h',gens:=g',drawn:=d',toks:=t' }:=by
 obtain⟨m,⟨o,es,ep,ho,r⟩,_⟩:=id I.loc;obtain⟨sl,hL⟩:=u.any ho I.free fun z=>(hch _ z).2.1 rfl;exact I.step (ch:=ch) hch (fun b o hL hb hc e n=>u.keep b o e n (fun z=>(List.mem_cons.mp (I.stkSub b z)).elim hL hb) hc) (fun b o _ _ hc e n=>u.any e n hc) (fun b o hc e n=>u.free b o e n hc) (fun b o hc e=>u.there b o e hc) u.tups u.frzs u.tbls (fun m' hm=>by
  obtain⟨o',es',ep',ho',r'⟩:=hm;rw[ho]at ho';cases ho';exact⟨_,es',ep',hL,r'⟩) hok hg
theorem Inv.turned {t':Nat}{it:Addr}(I:Inv X pins σ H s)(k:∀ b o,b≠it->s.heap.get? b=some o->h'.get? b=some o)(hn:H it=none)(hL:it≠X.env.locals)
  (h1:it∈X.ex\/X.s₀.heap.objs.size<=it) (h2:∀ x c,X.env.cells.lookup x=some c->c≠it) (h3:∀ p∈X.pn++pins,p.1≠it):Inv X pins σ H { s with heap:=h',toks:=t' }:=by
 have nit:∀ b u,H b=some u->b≠it:=fun b u e z=>by rw[z,hn]at e;cases e
 refine I.step (g':=s.gens) (d':=s.drawn) (ch:=[it]) (fun b hb=>?_) (fun b o _ _ hc e _=>k b o (fun z=>hc (by simp[z])) e) (fun b o _ _ hc e _=>⟨o.slots,k b o (fun z=>hc (by simp[z])) e⟩) (fun _ _ _ _ n=>n)
  (fun b o hc e=>⟨o,k b o (fun z=>hc (by simp[z])) e⟩) (fun _ _ e=>e) (fun _ _ _ e=>e) (fun b ps e=>⟨#[],by rw[e];simp⟩) (fun m hm=>?_) (fun b u e=>?_) I.bare
 ·have e:b=it:=by simpa using hb
  subst e;exact⟨h1,hL,h2,h3⟩
 ·obtain⟨o,es,ep,ho,r⟩:=hm
  exact⟨o,es,ep,k _ o (Ne.symm hL) ho,r⟩
 ·refine(I.hok b u e).stay (fun c v hc q=>k c v ?_ q) (fun _ q=>q) fun _ _ q=>q
  rcases hc with z | z
  ·rw[z];exact nit b u e
  ·exact nit c _ z
theorem Inv.tok (I:Inv X pins σ H s)(t:Nat):Inv X pins σ H { s with toks:=t }:=I.un (h':=s.heap) (t':=t) Un.refl I.hok
theorem Inv.kept {t':Nat}(I:Inv X pins σ H s)(k:∀ b u,s.heap.get? b=some u->h'.get? b=some u):Inv X pins σ H { s with heap:=h',toks:=t' }:=I.un (Un.kept k) (I.hok.kept k)
theorem Inv.laid {a:Addr}{o:HO}{t':Nat}(I:Inv X pins σ H s)(k:∀ b u,s.heap.get? b=some u->h'.get? b=some u)(hp:s.heap.objs.size<=a)(new:ObjOk X.prog X.w (upd H a o) h' a o) :
  Inv X pins σ (upd H a o) { s with heap:=h',toks:=t' }:=I.un (Un.laid k hp (I.hok.fresh hp)) (I.hok.laid k hp new)
theorem Inv.write {x e:Addr}{o:HO}{t':Nat}(I:Inv X pins σ H s)(mu:Mut (H x))(he:e=x\/H e=some (.own x))(k:∀ b u,b≠e->s.heap.get? b=some u->h'.get? b=some u)(heo:∃ u,h'.get? e=some u)
  (new:ObjOk X.prog X.w (upd H x o) h' x o):Inv X pins σ (upd H x o) { s with heap:=h',toks:=t' }:=I.un (Un.write mu he k heo) (I.hok.write mu he k heo new)
theorem Inv.pins_of {pins':List (Addr×Obj)}(I:Inv X pins σ H s)(h:∀ p∈pins',s.heap.get? p.1=some p.2/\H p.1=none/\p.1≠X.env.locals/\p.1 ∉ X.fs/\∀ v,p.2.data≠.cell v):Inv X pins' σ H s :=
 ⟨I.ok,I.os,I.bare,I.base,I.loc,I.cell,I.free,I.freeC,fun p hp=>(List.mem_append.mp hp).elim (fun z=>I.pin p (List.mem_append_left _ z)) (h p),I.hok,I.len⟩
theorem nodup_ix {N:List Str}(hN:N.Nodup){i j:Nat}{x:Str}(a:N[i]?=some x)(b:N[j]?=some x):i=j:=by
 obtain⟨h1,e1⟩:=List.getElem?_eq_some_iff.mp a;obtain⟨h2,e2⟩:=List.getElem?_eq_some_iff.mp b;exact(List.getElem_inj hN).mp (e1.trans e2.symm)
theorem store_ok2 {M:Model}{A:Around}{E:Value->Shared->Prop}{i:Nat}{x:Str}{v:V}{u:Value}{Q:Unit->Shared->Prop}(I:Inv X pins σ H s)(hN:X.N.Nodup)(hi:X.N[i]?=some x)(hx:Loc X.env.scope x)(r:RelV v u)
  (h:∀ s',Inv X pins (σ.set i (some v)) H s'->(∃ a,Heap.SameBut a s.heap s'.heap/\(a=X.env.locals\/X.env.cells.lookup x=some a))->Q () s') (hf:X.fn x=true\/X.env.scope.names.lookup x=some .local:=by first | exact .inl rfl | exact .inr rfl | assumption):wpAny M A (storeName X.env x u) Q E s:=by
 obtain⟨m,hn,hl⟩:=id I.loc;have hcls:(X.env.scope.kind==.class||(X.env.scope.kind==.module&&X.env.locals != X.env.globals))=false:=by rw[I.ok.kind];rfl
 have hiσ:i < σ.length:=by rw[I.len];exact(List.getElem?_eq_some_iff.mp hi).1
 have cne:=I.cne;have tracked:∀ {a:Addr} {h':Heap},(∃ o,s.heap.get? a=some o/\H a=none)->Heap.SameBut a s.heap h'->HOk X.prog X.w H h':=fun {a h'} ha hs b ob e=>by
  obtain⟨_,_,hfree⟩:=ha;refine(I.hok b ob e).stay (fun c w' hc q=>(hs.2 c ?_).trans q) (fun _ q=>q) fun _ _ q=>q;rintro rfl;rcases hc with rfl | hc
  ·rw[hfree]at e;cases e
  ·rw[hfree]at hc;cases hc
 rcases hx with hk | hk
 ·refine wpAny_storeName_local hk hn (fun h' hn' hs=>?_) hcls
  obtain⟨oL,_,_,hoL,_⟩:=id hn;refine h _ ⟨I.ok,I.os,I.bare,⟨fun b o e n hb hx=>?_,fun b o e n hb hx=>?_,I.base.free,fun b o e hx=>?_,I.base.tups,I.base.frzs,I.base.tbls⟩,⟨_,hn',fun j y v' e1 e2 e3=>?_⟩,fun y c e=>?_,I.free,I.freeC,fun p hp=>?_,tracked ⟨oL,hoL,I.free⟩ hs,by simpa using I.len⟩ ⟨_,hs,.inl rfl⟩
  ·exact(hs.2 b (Nat.ne_of_lt (Nat.lt_of_lt_of_le (Heap.lt_size e) I.ok.above))).trans (I.base.keep b o e n hb hx)
  ·obtain⟨sl,e1⟩:=I.base.slot b o e n hb hx
   exact⟨sl,(hs.2 b (Nat.ne_of_lt (Nat.lt_of_lt_of_le (Heap.lt_size e) I.ok.above))).trans e1⟩
  ·obtain⟨o',e1⟩:=I.base.there b o e hx
   exact⟨o',(hs.2 b (Nat.ne_of_lt (Nat.lt_of_lt_of_le (Heap.lt_size e) I.ok.above))).trans e1⟩
  ·by_cases hj:j=i
   ·subst hj
    rw[hi]at e1;cases e1;rw[List.getElem?_set_self hiσ]at e2;cases e2;exact⟨u,r,.inl ⟨hk,by simp⟩⟩
   ·rw[List.getElem?_set_ne (Ne.symm hj)]at e2
    obtain⟨u',r',q⟩:=hl j y v' e1 e2 e3;refine⟨u',r',?_⟩;rcases q with ⟨k,e⟩|⟨k,c,e,z⟩
    ·refine .inl ⟨k,?_⟩
     have:y≠x:=fun e=>hj (nodup_ix hN e1 (e ▸ hi))
     simp[this,e]
    ·exact .inr ⟨k,c,e,z.sameBut hs (cne y c e)⟩
  ·obtain⟨w',z⟩:=I.cell y c e
   exact⟨w',z.sameBut hs (cne y c e)⟩
  ·obtain⟨e,n,ne,nf,d⟩:=I.pin p hp
   exact⟨(hs.2 p.1 ne).trans e,n,ne,nf,d⟩
 ·have hfn:X.fn x=true:=by
   rcases hf with z | z
   ·exact z
   ·rw[z]at hk;cases hk
  obtain⟨c,hc⟩:=I.ok.has x (.inl hk);obtain⟨w',z⟩:=I.cell x c hc;refine wpAny_storeName_cell I.ok.kind hk hc z (fun h' hc' hs=>?_);obtain⟨oc,hoc,hocd⟩:=id z;refine h { s with heap:=h' } ⟨I.ok,I.os,I.bare,⟨fun b o e n hb hx=>?_,fun b o e n hb hx=>?_,I.base.free,fun b o e hx=>?_,I.base.tups,I.base.frzs,I.base.tbls⟩,⟨m,hn.sameBut hs (Ne.symm (cne x c hc)),fun j y v' e1 e2 e3=>?_⟩,fun y c' e=>?_,I.free,I.freeC,fun p hp=>?_,tracked ⟨oc,hoc,I.freeC x c hc⟩ hs,by simpa using I.len⟩ ⟨c,hs,.inr hc⟩
  ·exact(hs.2 b (Nat.ne_of_lt (Nat.lt_of_lt_of_le (Heap.lt_size e) (I.ok.cab x c hfn hc)))).trans (I.base.keep b o e n hb hx)
  ·obtain⟨sl,e1⟩:=I.base.slot b o e n hb hx
   exact⟨sl,(hs.2 b (Nat.ne_of_lt (Nat.lt_of_lt_of_le (Heap.lt_size e) (I.ok.cab x c hfn hc)))).trans e1⟩
  ·obtain⟨o',e1⟩:=I.base.there b o e hx
   exact⟨o',(hs.2 b (Nat.ne_of_lt (Nat.lt_of_lt_of_le (Heap.lt_size e) (I.ok.cab x c hfn hc)))).trans e1⟩
  ·by_cases hj:j=i
   ·subst hj
    rw[hi]at e1;cases e1;rw[List.getElem?_set_self hiσ]at e2;cases e2;exact⟨u,r,.inr ⟨.inl hk,c,hc,hc'⟩⟩
   ·rw[List.getElem?_set_ne (Ne.symm hj)]at e2
    obtain⟨u',r',q⟩:=hl j y v' e1 e2 e3;refine⟨u',r',?_⟩;rcases q with q | ⟨k,c',e,z'⟩
    ·exact .inl q
    ·refine .inr ⟨k,c',e,z'.sameBut hs ?_⟩
     rintro rfl;exact hj (nodup_ix hN e1 (I.ok.inj _ _ _ e hc ▸ hi))
  ·by_cases hcc:c'=c
   ·subst hcc;exact⟨_,hc'⟩
   ·obtain⟨w2,z2⟩:=I.cell y c' e
    exact⟨w2,z2.sameBut hs hcc⟩
  ·obtain⟨e,n,ne,nf,d⟩:=I.pin p hp
   refine⟨(hs.2 p.1 ?_).trans e,n,ne,nf,d⟩;intro q;rw[q,hoc]at e;have q':oc=p.2:=Option.some.inj e;exact d w' (by rw[<- q'];exact hocd)
theorem store_ok {M:Model}{A:Around}{E:Value->Shared->Prop}{i:Nat}{x:Str}{v:V}{u:Value}{Q:Unit->Shared->Prop}(I:Inv X pins σ H s)(hN:X.N.Nodup)(hi:X.N[i]?=some x)(hx:Loc X.env.scope x)(r:RelV v u)
  (h:∀ s',Inv X pins (σ.set i (some v)) H s'->Q () s') (hf:X.fn x=true\/X.env.scope.names.lookup x=some .local:=by first | exact .inl rfl | exact .inr rfl | assumption):wpAny M A (storeName X.env x u) Q E s :=
 store_ok2 I hN hi hx r (fun s' I' _=>h s' I') hf
theorem Inv.call' {s':Shared}{ch:List Addr}(I:Inv X pins σ H s)(ho:s'.os=s.os)(u:Un (frs X.stack) ch H H' s.heap s'.heap)(hok:HOk X.prog X.w H' s'.heap)(hg:AllBare s'.gens)
  (hch:∀ b∈ch,(b∈X.ex\/X.s₀.heap.objs.size<=b)/\b≠X.env.locals/\(∀ x c,X.env.cells.lookup x=some c->c≠b)/\∀ p∈X.pn++pins,p.1≠b):Inv X pins σ H' s':=by
 obtain⟨h',g',d',t',o'⟩:=s';have e:o'=s.os:=ho;subst e;exact I.call (g':=g') (t':=t') (d':=d') u hok hg hch
end
abbrev XK:=Value->Option Addr->Hp->Prop
abbrev St:=List (Option V)
abbrev VK:=V->Hp->Prop
abbrev TE:=St->Hp->VK->Prop
abbrev TT:=St->Hp->(Bool->Hp->Prop)->Prop
abbrev TA:=St->Hp->(List V->Hp->Prop)->Prop
structure Ends where
 nx:St->Hp->Prop
 rt:VK
 bk:St->Hp->Prop:=fun _ _=>False
 ct:St->Hp->Prop:=fun _ _=>False
abbrev TS:=Ends->St->Hp->Prop
def EP (X:Cx)(pins:List (Addr×Obj))(σ:St)(Q:VK)(u:Value)(s':Shared):Prop:=∃ v H',Inv X pins σ H' s'/\RelV v u/\Q v H'
def TP (X:Cx)(pins:List (Addr×Obj))(σ:St)(Q:Bool->Hp->Prop)(b:Bool)(s':Shared):Prop:=∃ H',Inv X pins σ H' s'/\Q b H'
def AP (X:Cx)(pins:List (Addr×Obj))(σ:St)(Q:List V->Hp->Prop)(us:List Value)(s':Shared):Prop:=∃ vs H',Inv X pins σ H' s'/\Vals vs us/\Q vs H'
def SP (X:Cx)(pins:List (Addr×Obj))(D:Ends)(f:Flow)(s':Shared):Prop :=
 match f with
 | .next=>∃ σ' H',Inv X pins σ' H' s'/\D.nx σ' H'
 | .brk=>∃ σ' H',Inv X pins σ' H' s'/\D.bk σ' H'
 | .cont=>∃ σ' H',Inv X pins σ' H' s'/\D.ct σ' H'
 | .ret u=>∃ v σ' H',Inv X pins σ' H' s'/\RelV v u/\D.rt v H'
def PE (X:Cx)(e:Expr)(t:TE):Prop :=
 ∀ (pins:List (Addr×Obj)) (s:Shared) (σ:St) (H:Hp) (Q:VK),Inv X pins σ H s->t σ H Q->wpAny (model X.prog X.w) X.A (eval e X.env) (EP X pins σ Q) X.xe s
def PT (X:Cx)(e:Expr)(t:TT):Prop :=
 ∀ (pins:List (Addr×Obj)) (s:Shared) (σ:St) (H:Hp) (Q:Bool->Hp->Prop),Inv X pins σ H s->t σ H Q->wpAny (model X.prog X.w) X.A (isTrue e X.env (eval e X.env)) (TP X pins σ Q) X.xe s
def PW (X:Cx)(e:Expr)(t:TT):Prop :=
 ∀ (whole:Sem Value) (pins:List (Addr×Obj)) (s:Shared) (σ:St) (H:Hp) (Q:Bool->Hp->Prop),Inv X pins σ H s->t σ H Q->wpAny (model X.prog X.w) X.A (isTrue e X.env whole) (TP X pins σ Q) X.xe s
theorem PW.pt {X:Cx}{e:Expr}{t:TT}(h:PW X e t):PT X e t:=h _
def PA (X:Cx)(es:List Expr)(t:TA):Prop :=
 ∀ (pos:Pos) (pins:List (Addr×Obj)) (s:Shared) (σ:St) (H:Hp) (Q:List V->Hp->Prop),Inv X pins σ H s->t σ H Q->wpAny (model X.prog X.w) X.A (spliced (backTo pos (starEach es X.env))) (AP X pins σ Q) X.xe s
def PS (X:Cx)(st:Stmt)(t:TS):Prop :=
 ∀ (pins:List (Addr×Obj)) (s:Shared) (σ:St) (H:Hp) (D:Ends),Inv X pins σ H s->t D σ H->wpAny (model X.prog X.w) X.A (exec st X.env) (SP X pins D) X.xe s
def PSs (X:Cx)(st:List Stmt)(t:TS):Prop :=
 ∀ (pins:List (Addr×Obj)) (s:Shared) (σ:St) (H:Hp) (D:Ends),Inv X pins σ H s->t D σ H->wpAny (model X.prog X.w) X.A (execs st X.env) (SP X pins D) X.xe s
theorem thn {α:Type}{t:Sem α}{Q Q':α->Shared->Prop}{M:Model}{A:Around}{E:Value->Shared->Prop}{s:Shared}(h:wpAny M A t Q E s)(hQ:∀ a s,Q a s->Q' a s):wpAny M A t Q' E s:=wpAny_mono h hQ fun _ _ x=>x
end L2
namespace L2
open PySem PySem.Spec PyProof.Rows
section
variable {X:Cx}
def tVar (i:Nat):TE:=fun σ H Q=>∃ v,σ[i]?=some (some v)/\Q v H
def tC (v:V):TE:=fun _ H Q=>Q v H
theorem pe_var {i:Nat}{x:Str}{pos:Pos}(hN:X.N[i]?=some x)(hv:Vis X.env.scope x)(hd:(x==("__debug__" : Str))=false:=by decide)(hcd:(x==("__classdict__" : Str))=false:=by decide):PE X (.Name x pos) (tVar i):=by
 intro pins s σ H Q I h;obtain⟨v,e,h⟩:=h;obtain⟨m,hn,hl⟩:=I.loc;obtain⟨u,r,l⟩:=hl i x v hN e hv;have fin:EP X pins σ Q u s:=⟨v,H,I,r,h⟩;rcases l with ⟨hk,hm⟩|⟨hk,c,hc,hcell⟩
 ·exact wpAny_Name (wpAny_loadName_local I.ok.kind hk hn hm fin) hd
 ·rcases hk with hk | hk
  ·exact wpAny_Name (wpAny_loadName_cell I.ok.kind hk hc hcell fin) hd
  ·exact wpAny_Name (wpAny_loadName_free I.ok.kind hk hc hcell fin hcd) hd
theorem pe_int {i j pos}:PE X (.Constant (.int i) j pos) (tC (.int i)):=fun _ _ _ H _ I h=>wpAny_Constant_int ⟨.int i,H,I.tok _,⟨_,rfl⟩,h⟩
theorem pe_bl {b j pos}:PE X (.Constant (.bool b) j pos) (tC (.bl b)):=fun _ _ _ H _ I h=>Constant_bool ⟨.bl b,H,I,rfl,h⟩
theorem pe_non {j pos}:PE X (.Constant .none j pos) (tC .non):=fun _ _ _ H _ I h=>Constant_none ⟨.non,H,I,rfl,h⟩
theorem pe_str {x j pos}:PE X (.Constant (.str x) j pos) (tC (.str x)):=fun _ _ _ H _ I h=>Calls.Constant_str ⟨.str x,H,I.tok _,⟨_,rfl⟩,h⟩
def Gl (X:Cx)(x:Str):Prop:=X.env.kindOf x=some .globalImplicit
theorem ld_glob {E:Value->Shared->Prop}{pins:List (Addr×Obj)}{s:Shared}{σ:St}{H:Hp}{x:Str}{u:Value}{pos:Pos}{Q:Value->Shared->Prop}(I:Inv X pins σ H s)(hg:Gl X x)(hm:X.mg x=some u)(h:Q u s)
  (hd:(x==("__debug__" : Str))=false:=by decide):wpAny (model X.prog X.w) X.A (eval (.Name x pos) X.env) Q E s :=
 Calls.Name_function_global I.ok.kind hg (Calls.loadGlobal_global (by rw[I.ok.glob];exact I.mod.glob.keeps I.bk) hm h) hd
theorem ld_blt {E:Value->Shared->Prop}{pins:List (Addr×Obj)}{s:Shared}{σ:St}{H:Hp}{x:Str}{u:Value}{pos:Pos}{Q:Value->Shared->Prop}(I:Inv X pins σ H s)(hg:Gl X x)(hm:X.mg x=none)(hv:bootBuiltins x=some u)(h:Q u s)
  (hn:x≠"__name__":=by decide) (hd:(x==("__debug__" : Str))=false:=by decide):wpAny (model X.prog X.w) X.A (eval (.Name x pos) X.env) Q E s:=by
 obtain⟨mb,h1,h2⟩:=I.mod.blt;exact Calls.Name_function_global I.ok.kind hg (Calls.loadGlobal_builtin (by rw[I.ok.glob];exact I.mod.glob.keeps I.bk) hm (by rw[I.ok.blt];exact h1.keeps I.bk) ((h2 x hn).trans hv) h) hd
theorem pe_glob {x:Str}{v:V}{u:Value}{pos:Pos}(hg:Gl X x)(hm:X.mg x=some u)(r:RelV v u)(hd:(x==("__debug__" : Str))=false:=by decide):PE X (.Name x pos) (tC v) :=
 fun _ _ _ H _ I h=>ld_glob I hg hm ⟨v,H,I,r,h⟩ hd
theorem pe_bltn {x:Str}{v:V}{u:Value}{pos:Pos}(hg:Gl X x)(hm:X.mg x=none)(hv:bootBuiltins x=some u)(r:RelV v u)(hn:x≠"__name__":=by decide)(hd:(x==("__debug__" : Str))=false:=by decide):PE X (.Name x pos) (tC v) :=
 fun _ _ _ H _ I h=>ld_blt I hg hm hv ⟨v,H,I,r,h⟩ hn hd
variable {a b:Expr}{ta tb:TE}{pos:Pos}
def tB (t:TE):TT:=fun σ H Q=>t σ H fun x H1=>∃ c,x=.bl c/\Q c H1
theorem pt_val {e:Expr}{t:TE}(h:PE X e t)(he:∀ whole,isTrue e X.env whole=(do let v <- whole;standAt e.pos;holding [v] (truthy v)):=by intro _;rfl):PT X e (tB t):=by
 intro pins s σ H Q I hw;refine isTrue_plain (thn (h pins s σ H _ I hw) fun v s1 ⟨x,H1,I1,r1,q1⟩=>?_) (he _);obtain⟨d,rfl,q⟩:=q1;cases r1;exact wpAny_truthy_bool ⟨H1,I1,q⟩
variable {tA tB':TT}{rest:List Expr}
def tAnd (t u:TT):TT:=fun σ H Q=>t σ H fun c H1=>if c=true then u σ H1 Q else Q false H1
def tOr (t u:TT):TT:=fun σ H Q=>t σ H fun c H1=>if c=true then Q true H1 else u σ H1 Q
def tNot (t:TT):TT:=fun σ H Q=>t σ H fun c H1=>Q (!c) H1
theorem pw_and1 (ha:PT X a tA):PW X (.BoolOp .And [a] pos) tA:=by
 intro wh pins s σ H Q I h;refine isTrue_and (thn (ha pins s σ H Q I h) fun c s1 e=>?_);cases c with
 | true=>exact isTrue_and_nil e
 | false=>exact e
theorem pw_or1 (ha:PT X a tA):PW X (.BoolOp .Or [a] pos) tA:=by
 intro wh pins s σ H Q I h;refine isTrue_or (thn (ha pins s σ H Q I h) fun c s1 e=>?_);cases c with
 | false=>exact isTrue_or_nil e
 | true=>exact e
theorem pw_and (ha:PT X a tA)(hb:PW X (.BoolOp .And (b::rest) pos) tB'):PW X (.BoolOp .And (a::b::rest) pos) (tAnd tA tB'):=by
 intro wh pins s σ H Q I h;refine isTrue_and (thn (ha pins s σ H _ I h) fun c s1 ⟨H1,I1,q1⟩=>?_);cases c with
 | true=>exact hb wh pins s1 σ H1 Q I1 q1
 | false=>exact⟨H1,I1,q1⟩
theorem pw_or (ha:PT X a tA)(hb:PW X (.BoolOp .Or (b::rest) pos) tB'):PW X (.BoolOp .Or (a::b::rest) pos) (tOr tA tB'):=by
 intro wh pins s σ H Q I h;refine isTrue_or (thn (ha pins s σ H _ I h) fun c s1 ⟨H1,I1,q1⟩=>?_);cases c with
 | true=>exact⟨H1,I1,q1⟩
 | false=>exact hb wh pins s1 σ H1 Q I1 q1
theorem pt_not (ha:PT X a tA):PT X (.UnaryOp .Not a pos) (tNot tA):=by
 intro pins s σ H Q I h;exact isTrue_not (ha pins s σ H (fun c H1=>Q (!c) H1) I h)
def tAndV (ta tb:TE):TE:=fun σ H Q=>ta σ H fun x H1=>∃ c,x=.bl c/\if c=true then tb σ H1 Q else Q (.bl false) H1
def tOrV (ta tb:TE):TE:=fun σ H Q=>ta σ H fun x H1=>∃ c,x=.bl c/\if c=true then Q (.bl true) H1 else tb σ H1 Q
def tNotV (ta:TE):TE:=fun σ H Q=>ta σ H fun x H1=>∃ c,x=.bl c/\Q (.bl (!c)) H1
theorem pe_one {op}{t:TE}(h:PE X a t):PE X (.BoolOp op [a] pos) t:=fun pins s σ H Q I hw=>BoolOp_one (h pins s σ H Q I hw)
theorem pe_and (ha:PE X a ta)(hb:PE X (.BoolOp .And (b::rest) pos) tb):PE X (.BoolOp .And (a::b::rest) pos) (tAndV ta tb):=by
 intro pins s σ H Q I h;refine BoolOp_and (thn (ha pins s σ H _ I h) fun v s1 ⟨x,H1,I1,r1,q1⟩=>?_);obtain⟨c,rfl,q1⟩:=q1;cases r1;refine wpAny_truthy_bool ?_;cases c with
 | true=>exact hb pins s1 σ H1 Q I1 q1
 | false=>exact⟨.bl false,H1,I1,rfl,q1⟩
theorem pe_or (ha:PE X a ta)(hb:PE X (.BoolOp .Or (b::rest) pos) tb):PE X (.BoolOp .Or (a::b::rest) pos) (tOrV ta tb):=by
 intro pins s σ H Q I h;refine BoolOp_or (thn (ha pins s σ H _ I h) fun v s1 ⟨x,H1,I1,r1,q1⟩=>?_);obtain⟨c,rfl,q1⟩:=q1;cases r1;refine wpAny_truthy_bool ?_;cases c with
 | false=>exact hb pins s1 σ H1 Q I1 q1
 | true=>exact⟨.bl true,H1,I1,rfl,q1⟩
theorem pe_not (ha:PE X a ta):PE X (.UnaryOp .Not a pos) (tNotV ta):=by
 intro pins s σ H Q I h;refine UnaryOp_ (thn (ha pins s σ H _ I h) fun v s1 ⟨x,H1,I1,r1,q1⟩=>?_);obtain⟨c,rfl,q1⟩:=q1;cases r1;exact not_of (wpAny_truthy_bool ⟨.bl (!c),H1,I1,rfl,q1⟩)
def tIf (t:TT)(ta tb:TE):TE:=fun σ H Q=>t σ H fun c H1=>if c=true then ta σ H1 Q else tb σ H1 Q
theorem pe_ifExp {c:Expr}(hc:PT X c tA)(ha:PE X a ta)(hb:PE X b tb):PE X (.IfExp c a b pos) (tIf tA ta tb):=by
 intro pins s σ H Q I h;refine wpAny_IfExp (thn (hc pins s σ H _ I h) fun d s1 ⟨H1,I1,q1⟩=>?_);cases d with
 | true=>exact ha pins s1 σ H1 Q I1 q1
 | false=>exact hb pins s1 σ H1 Q I1 q1
end
end L2
namespace L2
open PySem PySem.Spec PyProof.Rows
def SqL (K:PySem.W.Frag)(H:Hp)(a:Addr)(xs:List V):Prop :=
 Rd H a (.lst xs) \/
  ∃ (o:Obj) (its:Array Value) (n:Nat),K.lookup a=some o/\o.cls=.type "list"/\o.dict=none/\o.data=.seq its n/\its.size<=sizeLine/\Vals xs its.toList
def SqT (K:PySem.W.Frag)(H:Hp)(a:Addr)(xs:List V):Prop :=
 Rd H a (.tup xs) \/
  ∃ (o:Obj) (its:Array Value) (n:Nat),K.lookup a=some o/\o.cls=.type "tuple"/\o.data=.seq its n/\its.size<=sizeLine/\Vals xs its.toList/\o.dict=none/\o.slots = #[]
def absV:Value->Option V
 | .none=>some .non
 | .bool b=>some (.bl b)
 | .int i _=>some (.int i)
 | .str x _=>some (.str x)
 | .bytes b _=>some (.byt b)
 | .float b _=>some (.flt b)
 | .ref a=>some (.ref a)
 | .type n=>some (.ty n)
 | _=>none
theorem RelV.abs {x:V}{u:Value}(r:RelV x u):absV u=some x:=by
 cases x with
 | non=>cases r;rfl
 | bl _=>cases r;rfl
 | int _=>obtain⟨t,rfl⟩:=r;rfl
 | str _=>obtain⟨t,rfl⟩:=r;rfl
 | byt _=>obtain⟨t,rfl⟩:=r;rfl
 | flt _=>obtain⟨t,rfl⟩:=r;rfl
 | ref _=>cases r;rfl
 | ty _=>cases r;rfl
theorem RelV.inj {x y:V}{u:Value}(r:RelV x u)(q:RelV y u):x=y:=Option.some.inj (r.abs.symm.trans q.abs)
theorem Vals.inj:∀ {xs ys:List V} {us:List Value},Vals xs us->Vals ys us->xs=ys
 | _,_,_,.nil,.nil=>rfl
 | _,_,_,.cons r t,.cons r' t'=>by rw[r.inj r',Vals.inj t t']
section
variable {X:Cx}{pins:List (Addr×Obj)}{σ:St}{H:Hp}{s:Shared}{a:Addr}{xs ys:List V}
theorem SqL.of {K:PySem.W.Frag}(h:H a=some (.lst xs)):SqL K H a xs:=.inl (.inl h)
theorem Inv.list (I:Inv X pins σ H s)(h:SqL X.K H a xs):∃ its:List Value,Vals xs its/\PlainL s.heap a its.toArray/\xs.length<=sizeLine:=by
 rcases h with h | ⟨o,its,n,hk,hc,hd,hs,hz,r⟩
 ·obtain⟨z,its,n,r,e⟩:=h.ok I.hok
  exact⟨its,r,⟨_,n,e,rfl,rfl,rfl⟩,z⟩
 ·refine⟨its.toList,r,⟨o,n,I.kIn a o hk,hc,hd,by simpa using hs⟩,?_⟩
  have e:=r.length;simp only[Array.length_toList]at e;first | lia | omega
theorem Inv.tuple (I:Inv X pins σ H s)(h:SqT X.K H a xs):∃ its:List Value,Vals xs its/\IsTup s.heap a its.toArray/\xs.length<=sizeLine:=by
 rcases h with h | ⟨o,its,n,hk,hc,hs,hz,r,_⟩
 ·obtain⟨z,its,r,p,_⟩:=h.ok I.hok
  exact⟨its,r,p,z⟩
 ·refine⟨its.toList,r,⟨o,I.kIn a o hk,hc,n,by simpa using hs⟩,?_⟩
  have e:=r.length;simp only[Array.length_toList]at e;first | lia | omega
theorem Inv.tupNoDict (I:Inv X pins σ H s)(h:SqT X.K H a xs):∃ o,s.heap.get? a=some o/\o.dict=none/\o.slots = #[]:=by
 rcases h with h | ⟨o,its,n,hk,hc,hs,hz,r,hd⟩
 ·obtain⟨z,its,r,⟨o,e,_⟩,d⟩:=h.ok I.hok
  exact⟨o,e,d o e⟩
 ·exact⟨o,I.kIn a o hk,hd⟩
theorem Inv.list_inj (I:Inv X pins σ H s)(h:SqL X.K H a xs)(h':SqL X.K H a ys):xs=ys:=by
 obtain⟨its,r,⟨o,n,e,_,_,d⟩,_⟩:=I.list h;obtain⟨its',r',⟨o',n',e',_,_,d'⟩,_⟩:=I.list h';rw[e]at e';cases e';rw[d]at d';injection d' with d1 _
 have:its=its':=by simpa using congrArg Array.toList d1
 subst this;exact r.inj r'
theorem Inv.tuple_inj (I:Inv X pins σ H s)(h:SqT X.K H a xs)(h':SqT X.K H a ys):xs=ys:=by
 obtain⟨its,r,⟨o,e,_,n,d⟩,_⟩:=I.tuple h;obtain⟨its',r',⟨o',e',_,n',d'⟩,_⟩:=I.tuple h';rw[e]at e';cases e';rw[d]at d';injection d' with d1 _
 have:its=its':=by simpa using congrArg Array.toList d1
 subst this;exact r.inj r'
end
abbrev Cx.wish (X:Cx)(E:Value->Shared->Prop):Cx:={ X with xe:=E }
abbrev Cx.nox (X:Cx):Cx:=X.wish fun _ _=>False
theorem Cx.Ok.wish {X:Cx}(ok:X.Ok)(E:Value->Shared->Prop):(X.wish E).Ok :=
 ⟨ok.mod,ok.kind,ok.glob,ok.blt,ok.above,ok.inj,ok.has,ok.cab,ok.hd,ok.frames,ok.stk,ok.exf,ok.bs,ok.bsz,ok.noex,ok.exfs,ok.funs,ok.frf⟩
theorem Cx.Ok.unwish {X:Cx}{E:Value->Shared->Prop}(ok:(X.wish E).Ok):X.Ok :=
 ⟨ok.mod,ok.kind,ok.glob,ok.blt,ok.above,ok.inj,ok.has,ok.cab,ok.hd,ok.frames,ok.stk,ok.exf,ok.bs,ok.bsz,ok.noex,ok.exfs,ok.funs,ok.frf⟩
section
variable {X:Cx}{pins:List (Addr×Obj)}{σ:St}{H:Hp}{s:Shared}{E:Value->Shared->Prop}
theorem Inv.wish (I:Inv X pins σ H s)(E:Value->Shared->Prop):Inv (X.wish E) pins σ H s:=⟨I.ok.wish E,I.os,I.bare,I.base,I.loc,I.cell,I.free,I.freeC,I.pin,I.hok,I.len⟩
theorem Inv.unwish (I:Inv (X.wish E) pins σ H s):Inv X pins σ H s:=⟨I.ok.unwish,I.os,I.bare,I.base,I.loc,I.cell,I.free,I.freeC,I.pin,I.hok,I.len⟩
theorem SP.unwish {D:Ends}{f:Flow}{s':Shared}(h:SP (X.wish E) pins D f s'):SP X pins D f s':=by
 cases f with
 | next=>obtain⟨σ',H',I,q⟩:=h;exact⟨σ',H',I.unwish,q⟩
 | brk=>obtain⟨σ',H',I,q⟩:=h;exact⟨σ',H',I.unwish,q⟩
 | cont=>obtain⟨σ',H',I,q⟩:=h;exact⟨σ',H',I.unwish,q⟩
 | ret u=>obtain⟨v,σ',H',I,r,q⟩:=h;exact⟨v,σ',H',I.unwish,r,q⟩
theorem PE.nox {e:Expr}{t:TE}(h:PE X.nox e t):PE X e t:=fun pins s σ H Q I hw =>
 wpAny_mono (h pins s σ H Q (I.wish _) hw) (fun _ _ ⟨v,H',I',r,q⟩=>⟨v,H',I'.unwish,r,q⟩) fun _ _ z=>False.elim z
theorem PT.nox {e:Expr}{t:TT}(h:PT X.nox e t):PT X e t:=fun pins s σ H Q I hw =>
 wpAny_mono (h pins s σ H Q (I.wish _) hw) (fun _ _ ⟨H',I',q⟩=>⟨H',I'.unwish,q⟩) fun _ _ z=>False.elim z
theorem PSs.nox {st:List Stmt}{t:TS}(h:PSs X.nox st t):PSs X st t:=fun pins s σ H D I hw =>
 wpAny_mono (h pins s σ H D (I.wish _) hw) (fun _ _ q=>q.unwish) fun _ _ z=>False.elim z
end
section
variable {X:Cx}{st:Stmt}{rest:List Stmt}{t u:TS}{e:Expr}{te:TE}{pos:Pos}
def tNext:TS:=fun D σ H=>D.nx σ H
def tSeq (t u:TS):TS:=fun D σ H=>t { D with nx:=u D } σ H
theorem pss_nil:PSs X [] tNext:=fun _ _ σ H _ I h=>wpAny_execs_nil ⟨σ,H,I,h⟩
theorem pss_cons (h1:PS X st t)(h2:PSs X rest u):PSs X (st::rest) (tSeq t u):=by
 intro pins s σ H D I h;refine wpAny_execs_cons (thn (h1 pins s σ H { D with nx:=u D } I h) fun f s1 q=>?_);cases f with
 | next =>
  obtain⟨σ',H',I',q⟩:=q;exact h2 pins s1 σ' H' D I' q
 | ret v=>exact q
 | brk=>exact q
 | cont=>exact q
def tBreak:TS:=fun D σ H=>D.bk σ H
def tCont:TS:=fun D σ H=>D.ct σ H
theorem ps_pass:PS X (.Pass pos) tNext:=fun _ _ σ H _ I h=>wpAny_Pass ⟨σ,H,I,h⟩
theorem ps_break:PS X (.Break pos) tBreak:=fun _ _ σ H _ I h=>wpAny_Break ⟨σ,H,I,h⟩
theorem ps_continue:PS X (.Continue pos) tCont:=fun _ _ σ H _ I h=>wpAny_Continue ⟨σ,H,I,h⟩
theorem Inv.quiet {pins:List (Addr×Obj)}{σ:St}{H:Hp}{s:Shared}(I:Inv X pins σ H s):interactive X.env=false:=by simp[interactive,I.ok.kind]
def tDrop (te:TE):TS:=fun D σ H=>te σ H fun _ H1=>D.nx σ H1
theorem ps_expr (he:PE X e te)(hs:swapsWith e none pos.line X.env=pure false:=by rfl):PS X (.Expr e pos) (tDrop te):=by
 intro pins s σ H D I h;exact wpAny_Expr_any (thn (he pins s σ H _ I h) fun v s1 ⟨x,H1,I1,r1,q1⟩=>⟨σ,H1,I1,q1⟩) I.quiet hs
def tRet (te:TE):TS:=fun D σ H=>te σ H D.rt
theorem ps_ret (he:PE X e te):PS X (.Return (some e) pos) (tRet te):=by
 intro pins s σ H D I h;exact wpAny_Return_some (thn (he pins s σ H _ I h) fun v s1 ⟨x,H1,I1,r1,q1⟩=>⟨x,σ,H1,I1,r1,q1⟩)
def tRetN:TS:=fun D _ H=>D.rt .non H
theorem ps_retN:PS X (.Return none pos) tRetN:=fun _ _ σ H _ I h=>wpAny_Return_none ⟨.non,σ,H,I,rfl,h⟩
def tIfS (c:TT)(t u:TS):TS:=fun D σ H=>c σ H fun b H1=>if b=true then t D σ H1 else u D σ H1
theorem ps_if {c:Expr}{a b:List Stmt}{tc:TT}(hc:PT X c tc)(ha:PSs X a t)(hb:PSs X b u):PS X (.If c a b pos) (tIfS tc t u):=by
 intro pins s σ H D I h;refine wpAny_If (thn (hc pins s σ H _ I h) fun d s1 ⟨H1,I1,q1⟩=>?_);cases d with
 | true=>exact ha pins s1 σ H1 D I1 q1
 | false=>exact hb pins s1 σ H1 D I1 q1
end
abbrev TG:=V->St->Hp->(St->Hp->Prop)->Prop
abbrev TGs:=List V->St->Hp->(St->Hp->Prop)->Prop
def PG (X:Cx)(target:Expr)(t:TG):Prop :=
 ∀ (pins:List (Addr×Obj)) (s:Shared) (σ:St) (H:Hp) (v:V) (u:Value) (Q:St->Hp->Prop),Inv X pins σ H s->RelV v u->t v σ H Q ->
  wpAny (model X.prog X.w) X.A (assign target X.env u) (fun _ s'=>∃ σ' H',Inv X pins σ' H' s'/\Q σ' H') X.xe s
def PGs (X:Cx)(ts:List Expr)(t:TGs):Prop :=
 ∀ (pins:List (Addr×Obj)) (s:Shared) (σ:St) (H:Hp) (vs:List V) (us:List Value) (Q:St->Hp->Prop),Inv X pins σ H s->Vals vs us->t vs σ H Q ->
  wpAny (model X.prog X.w) X.A (assignInOrder ((assignEach ts X.env).map (·.2)) us) (fun _ s'=>∃ σ' H',Inv X pins σ' H' s'/\Q σ' H') X.xe s
abbrev TSet:=V->V->V->Hp->(Hp->Prop)->Prop
def PSet (X:Cx)(t:TSet):Prop :=
 ∀ (pins:List (Addr×Obj)) (s:Shared) (σ:St) (H:Hp) (o i v:V) (ov iv u:Value) (Q:Hp->Prop),Inv X pins σ H s->RelV o ov->RelV i iv->RelV v u->t o i v H Q ->
  wpAny (model X.prog X.w) X.A (setItem ov iv u) (fun _ s'=>∃ H',Inv X pins σ H' s'/\Q H') X.xe s
section
variable {X:Cx}{pos:Pos}
def gName (i:Nat):TG:=fun v σ H Q=>Q (σ.set i (some v)) H
theorem pg_name {i:Nat}{x:Str}(hN:X.N.Nodup)(hi:X.N[i]?=some x)(hx:Loc X.env.scope x)(hf:X.fn x=true\/X.env.scope.names.lookup x=some .local:=by first | exact .inl rfl | exact .inr rfl | assumption):PG X (.Name x pos) (gName i):=by
 intro pins s σ H v u Q I r h;exact wpAny_assign_Name (store_ok I hN hi hx r (fun s' I'=>⟨_,H,I',h⟩) hf)
def gNil:TGs:=fun vs σ H Q=>vs=[]/\Q σ H
def gCons (t:TG)(u:TGs):TGs:=fun vs σ H Q=>∃ v r,vs=v::r/\t v σ H fun σ' H'=>u r σ' H' Q
theorem pgs_nil:PGs X [] gNil:=by
 intro pins s σ H vs us Q I r h;obtain⟨e,h⟩:=h;subst e;cases r;exact assignInOrder_nil ⟨σ,H,I,h⟩
theorem pgs_cons {e:Expr}{es:List Expr}{t:TG}{u:TGs}(h1:PG X e t)(h2:PGs X es u)
  (hs:(assignEach (e::es) X.env).map (·.2)=assign e X.env::(assignEach es X.env).map (·.2):=by rfl):PGs X (e::es) (gCons t u):=by
 intro pins s σ H vs us Q I r h;obtain⟨v,vr,e1,h⟩:=h;subst e1;cases r with
 | cons r rr =>
  rw[hs];refine assignInOrder_cons (thn (h1 pins s σ H _ _ _ I r h) fun _ s1 ⟨σ1,H1,I1,q1⟩=>?_);exact h2 pins s1 σ1 H1 _ _ Q I1 rr q1
def gTup (K:PySem.W.Frag)(n:Nat)(t:TGs):TG:=fun v σ H Q=>∃ a xs,v=.ref a/\SqT K H a xs/\xs.length=n/\t xs σ H Q
theorem pg_tup {es:List Expr}{k:Nat}{t:TGs}{n:Nat}(hc:X.calm=true)(h:PGs X es t)
  (hn:(assignEach es X.env).length=n:=by rfl) (hst:(assignEach es X.env).findIdx? (·.1)=none:=by rfl):PG X (.Tuple es k pos) (gTup X.K n t):=by
 intro pins s σ H v u Q I r hw;obtain⟨a,xs,e1,hq,hl,hw⟩:=hw;subst e1;cases r;obtain⟨its,rv,ht,hz⟩:=I.tuple hq;refine assign_Tuple_tuple (I.ok.hd hc) ht (by simp[hn,<- hl,rv.length]) hst fun h' hx=>?_;have I1:Inv X pins σ H { s with heap:=h' }:=I.kept (t':=s.toks) fun b o e=>hx b o (Nat.ne_of_lt (Heap.lt_size e)) e;exact h pins _ σ H xs _ Q I1 (by simpa using rv) hw
def gSub (to ti:TE)(t:TSet):TG:=fun v σ H Q=>to σ H fun o H1=>ti σ H1 fun i H2=>t o i v H2 fun H3=>Q σ H3
theorem pg_sub {o i:Expr}{to ti:TE}{t:TSet}(ho:PE X o to)(hi:PE X i ti)(hs:PSet X t)
  (ha:∀ v,assign (.Subscript o i pos) X.env v=(do
   let ov <- holding [v] (eval o X.env)
   let iv <- holding [v,ov] (eval i X.env)
   standAt pos
   holding [v,ov,iv] (setItem ov iv v)
   release [v,ov,iv] []):=by intro _;rfl):PG X (.Subscript o i pos) (gSub to ti t):=by
 intro pins s σ H v u Q I r h;rw[ha];refine wpAny_bind (wpAny_holding (thn (ho pins s σ H _ I h) fun ov s1 ⟨x,H1,I1,r1,q1⟩=>?_));refine wpAny_bind (wpAny_holding (thn (hi pins s1 σ H1 _ I1 q1) fun iv s2 ⟨y,H2,I2,r2,q2⟩=>?_));refine wpAny_bind (wpAny_standAt (wpAny_bind (wpAny_holding (thn (hs pins s2 σ H2 x y v ov iv u _ I2 r1 r2 r q2) fun _ s3 ⟨H3,I3,q3⟩=>?_))));exact wpAny_release ⟨σ,H3,I3,q3⟩
def tAsg (te:TE)(g:TG):TS:=fun D σ H=>te σ H fun x H1=>g x σ H1 D.nx
theorem ps_asg {tg e:Expr}{te:TE}{g:TG}(he:PE X e te)(hg:PG X tg g)(hs:swapsWithSole [tg] e pos.line X.env=pure false:=by rfl)(hw:swappedStores [tg] e X.env=pure none:=by rfl)
  (h1:(assignEach [tg] X.env).map (·.2)=[assign tg X.env]:=by rfl):PS X (.Assign [tg] e pos) (tAsg te g):=by
 intro pins s σ H D I h;refine wpAny_Assign_stores (thn (he pins s σ H _ I h) fun v s1 ⟨x,H1,I1,r1,q1⟩=>?_) hs hw;rw[h1];exact thn (hg pins s1 σ H1 x v _ I1 r1 q1) fun _ s2 q=>q
theorem ps_set {i:Nat}{x:Str}{e:Expr}{te:TE}{pos':Pos}(hN:X.N.Nodup)(hi:X.N[i]?=some x)(hx:Loc X.env.scope x)(he:PE X e te)(hs:swapsWith e (some (.Name x pos')) pos.line X.env=pure false:=by rfl)(hf:X.fn x=true\/X.env.scope.names.lookup x=some .local:=by first | exact .inl rfl | exact .inr rfl | assumption) :
  PS X (.Assign [.Name x pos'] e pos) (tAsg te (gName i)):=by
 intro pins s σ H D I h;refine wpAny_Assign_Name (thn (he pins s σ H _ I h) fun v s1 ⟨y,H1,I1,r1,q1⟩=>?_) hs;exact store_ok I1 hN hi hx r1 (fun s2 I2=>⟨_,H1,I2,q1⟩) hf
end
section
variable {X:Cx}{pos:Pos}
def tWhile (c:TT)(tb:TS):TS:=fun D σ H=>∃ W:Nat->St->Hp->Prop,(∃ m,W m σ H)/\∀ m σ H,W m σ H ->
 c σ H fun b H1=>if b=true then ∃ N:St->Hp->Prop,(∀ σ' H',N σ' H'->∃ m',m' < m/\W m' σ' H')/\tb { D with nx:=N,ct:=N,bk:=D.nx } σ H1 else D.nx σ H1
theorem ps_while {c:Expr}{body:List Stmt}{tc:TT}{tb:TS}(hp:PassesOwn (model X.prog X.w) X.A X.env X.xe)(hc:PT X c tc)(hb:PSs X body tb):PS X (.While c body [] pos) (tWhile tc tb):=by
 intro pins s σ H D I h;obtain⟨W,⟨m0,w0⟩,turn⟩:=h;refine wpAny_While (codeAny_whileLoop (fun n s'=>∃ σ' H',Inv X pins σ' H' s'/\W n σ' H') ?_ m0 ⟨σ,H,I,w0⟩);rintro n s1 ⟨σ1,H1,I1,w1⟩;refine wpAny_passesOwn hp (thn (hc pins s1 σ1 H1 _ I1 (turn n σ1 H1 w1)) fun b s2 ⟨H2,I2,q2⟩=>?_);cases b with
 | true =>
  obtain⟨N,hN,q2⟩:=q2;rw[if_pos rfl];refine wpAny_passesOwn hp (thn (hb pins s2 σ1 H2 _ I2 q2) fun f s3 q3=>?_);cases f with
  | next =>
   obtain⟨σ3,H3,I3,n3⟩:=q3;obtain⟨m',hm,w3⟩:=hN σ3 H3 n3;exact⟨m',hm,σ3,H3,I3,w3⟩
  | cont =>
   obtain⟨σ3,H3,I3,n3⟩:=q3;obtain⟨m',hm,w3⟩:=hN σ3 H3 n3;exact⟨m',hm,σ3,H3,I3,w3⟩
  | brk=>exact q3
  | ret v=>exact q3
 | false =>
  rw[if_neg Bool.false_ne_true];exact wpAny_execs_nil ⟨σ1,H2,I2,q2⟩
end
structure It where
 go:Nat->Hp->Prop
 yld:Nat->Hp->V->Hp->Prop
 stop:Nat->Hp->Prop
def FpOk (X:Cx)(pins:List (Addr×Obj))(H:Hp)(b:Addr):Prop :=
 H b=none/\b≠X.env.locals/\b ∉ X.fs/\(b∈X.ex\/X.s₀.heap.objs.size<=b)/\(∀ x c,X.env.cells.lookup x=some c->c≠b)/\∀ p∈X.pn++pins,p.1≠b
theorem Inv.fpOk {X:Cx}{pins:List (Addr×Obj)}{σ:St}{H H':Hp}{s:Shared}{b:Addr}(I:Inv X pins σ H s)(hb:s.heap.objs.size<=b)(hn:H' b=none):FpOk X pins H' b:=by
 refine⟨hn,Nat.ne_of_gt (Nat.lt_of_lt_of_le I.lt hb),I.nofs hb,.inr (Nat.le_trans I.sz hb),fun x c e z=>?_,fun p hp z=>?_⟩
 ·obtain⟨v,q⟩:=I.cell x c e
  exact absurd (Nat.lt_of_lt_of_le q.lt (by rw[z];exact hb)) (Nat.lt_irrefl _)
 ·exact absurd (Nat.lt_of_lt_of_le (Heap.lt_size (I.pin p hp).1) (by rw[z];exact hb)) (Nat.lt_irrefl _)
structure Turn (P:Program) (w:World) (K:PySem.W.Frag) (tg:Expr) (J:It) (fp:List Addr) (it:Addr) (tn:Nat->Heap->Prop):Prop where
 mem:it∈fp
 obj:∀ i h,tn i h->∀ b∈fp,∃ o,h.get? b=some o/\∀ v,o.data≠.cell v
 keep:∀ i h h',tn i h->(∀ b∈fp,∀ o,h.get? b=some o->h'.get? b=some o)->tn i h'
 item:∀ (X:Cx),X.prog=P->X.w=w->X.K=K->X.calm=true->∀ (i:Nat) (pins:List (Addr×Obj)) (s:Shared) (σ:St) (H:Hp) (E:Value->Shared->Prop),Inv X pins σ H s->(∀ b∈fp,FpOk X pins H b)->tn i s.heap->J.go i H ->
  wpAny (model P w) X.A (pyNext (.ref it)) (fun r s1=>∃ u,r=some u /\
   wpAny (model P w) X.A (letOwnedTupleGo tg (.ref it) u) (fun _ s2=>∃ x H',Inv X pins σ H' s2/\RelV x u/\J.yld i H x H'/\tn (i + 1) s2.heap/\∀ b∈fp,H' b=none) E s1) E s
 done:∀ (X:Cx),X.prog=P->X.w=w->X.K=K->X.calm=true->∀ (i:Nat) (pins:List (Addr×Obj)) (s:Shared) (σ:St) (H:Hp) (E:Value->Shared->Prop),Inv X pins σ H s->(∀ b∈fp,FpOk X pins H b)->tn i s.heap->J.stop i H ->
  wpAny (model P w) X.A (pyNext (.ref it)) (fun r s1=>r=none/\Inv X pins σ H s1) E s
 self:∀ (A:Around) (i:Nat) (s:Shared) (Q:Value->Shared->Prop) (E:Value->Shared->Prop),tn i s.heap->Q (.ref it) s->wpAny (model P w) A (pyIter (.ref it)) Q E s
abbrev TI:=St->Hp->(It->Hp->Prop)->Prop
def PIE (X:Cx)(pins:List (Addr×Obj))(σ:St)(tg:Expr)(R:It->Hp->Prop)(itv:Value)(s2:Shared):Prop :=
 ∃ (it:Addr) (fp:List Addr) (tn:Nat->Heap->Prop) (J:It) (H':Hp),itv=.ref it/\Inv X pins σ H' s2/\Turn X.prog X.w X.K tg J fp it tn/\tn 0 s2.heap/\(∀ b∈fp,FpOk X pins H' b)/\R J H'
def PI (X:Cx)(tg iter:Expr)(wi:TI):Prop :=
 ∀ (pins:List (Addr×Obj)) (s:Shared) (σ:St) (H:Hp) (R:It->Hp->Prop),Inv X pins σ H s->wi σ H R ->
  wpAny (model X.prog X.w) X.A (eval iter X.env) (fun v s1=>wpAny (model X.prog X.w) X.A (pyIter v) (PIE X pins σ tg R) X.xe s1) X.xe s
theorem go_of {M:Model}{A:Around}{E:Value->Shared->Prop}{s:Shared}{tg:Expr}{it:Addr}{u:Value}{o:Obj}{n:String}{vs:Array Value}{Q:Unit->Shared->Prop}(ho:s.heap.get? it=some o)(hc:o.cls=.type n)(hd:o.data=.fields vs)
  (hn:["enumerate","zip","dict_itemiterator","dict_reverseitemiterator","odict_iterator","itertools.zip_longest","itertools.pairwise"].contains n=false) (hQ:Q () s):wpAny M A (letOwnedTupleGo tg (.ref it) u) Q E s:=by
 unfold letOwnedTupleGo;cases tg <;> first
  | exact wpAny_pure hQ
  | (cases u <;> first
    | exact wpAny_pure hQ
    | (refine wpAny_bind (wpAny_load ho ?_)
       rw[hc,hd];show wpAny M A (if (["enumerate","zip","dict_itemiterator","dict_reverseitemiterator","odict_iterator","itertools.zip_longest","itertools.pairwise"].contains n&&vs[0]?==some (rawInt _))=true then _ else _) Q E s;rw[if_neg (by intro h;rw[hn,Bool.false_and]at h;cases h)];exact wpAny_pure hQ))
def Itl (K:PySem.W.Frag)(a:Addr):It :=
 ⟨fun i H=>∃ xs x,SqL K H a xs/\xs[i]?=some x,fun i H x H'=>H'=H/\∀ xs,SqL K H a xs->xs[i]?=some x,fun i H=>∃ xs,SqL K H a xs/\xs.length<=i⟩
def Itt (K:PySem.W.Frag)(a:Addr):It :=
 ⟨fun i H=>∃ xs x,SqT K H a xs/\xs[i]?=some x,fun i H x H'=>H'=H/\∀ xs,SqT K H a xs->xs[i]?=some x,fun i H=>∃ xs,SqT K H a xs/\xs.length<=i⟩
def Itr (lo:Int)(n:Nat):It:=⟨fun i _=>i < n,fun i H x H'=>H'=H/\x=.int (lo + i),fun i _=>n<=i⟩
theorem turn_list {P:Program}{w:World}{K:PySem.W.Frag}{tg:Expr}(a it:Addr):Turn P w K tg (Itl K a) [it] it (fun i h=>h.IsListIter it a i) where
 mem:=by simp
 obj:=fun i h st b hb=>by
  have e:b=it:=by simpa using hb
  subst e;obtain⟨o,e,c,d⟩:=st;exact⟨o,e,fun v z=>by rw[d]at z;cases z⟩
 keep:=fun i h h' st k=>st.at fun o e=>k it (by simp) o e
 item:=by
  intro X hP hw hK hc i pins s σ H E I hf st hg;subst hP hw hK;obtain⟨xs,x,hq,hx⟩:=hg;obtain⟨its,rv,p,hz⟩:=I.list hq;obtain⟨u,hu,ru⟩:=rv.get hx;obtain⟨f0,f1,f2,f3,f4,f5⟩:=hf it (by simp);refine wpAny_pyNext_list_item st p.isList (x:=u) (by simpa using hu) fun h' st' sb=>?_;have I1:Inv X pins σ H { s with heap:=h' }:=I.turned (t':=s.toks) (fun b o hb e=>(sb.2 b hb).trans e) f0 f1 f3 f4 f5;obtain⟨o,e,c,d⟩:=id st';exact⟨u,rfl,go_of (s:={ s with heap:=h' }) e c d (by decide) ⟨x,H,I1,ru,⟨rfl,fun ys hy=>by rw[I.list_inj hy hq];exact hx⟩,st',fun b hb=>(hf b hb).1⟩⟩
 done:=by
  intro X hP hw hK hc i pins s σ H E I hf st hg;subst hP hw hK;obtain⟨xs,hq,hx⟩:=hg;obtain⟨its,rv,p,hz⟩:=I.list hq;obtain⟨f0,f1,f2,f3,f4,f5⟩:=hf it (by simp);have hl:=rv.length;exact wpAny_pyNext_list_end (I.ok.hd hc) st p.isList (by simp;omega) fun h' eb=>⟨rfl,I.turned (t':=s.toks) (fun b o hb e=>eb b o hb e) f0 f1 f3 f4 f5⟩
 self:=fun _ _ _ _ _ st h=>wpAny_pyIter_listiter st h
theorem turn_tuple {P:Program}{w:World}{K:PySem.W.Frag}{tg:Expr}(a it:Addr):Turn P w K tg (Itt K a) [it] it (fun i h=>h.IsTupleIter it a i) where
 mem:=by simp
 obj:=fun i h st b hb=>by
  have e:b=it:=by simpa using hb
  subst e;obtain⟨o,e,c,d⟩:=st;exact⟨o,e,fun v z=>by rw[d]at z;cases z⟩
 keep:=fun i h h' st k=>st.at fun o e=>k it (by simp) o e
 item:=by
  intro X hP hw hK hc i pins s σ H E I hf st hg;subst hP hw hK;obtain⟨xs,x,hq,hx⟩:=hg;obtain⟨its,rv,p,hz⟩:=I.tuple hq;obtain⟨u,hu,ru⟩:=rv.get hx;obtain⟨f0,f1,f2,f3,f4,f5⟩:=hf it (by simp);refine wpAny_pyNext_tuple_item st (show s.heap.IsTuple a its.toArray from p) (x:=u) (by simpa using hu) fun h' st' sb=>?_;have I1:Inv X pins σ H { s with heap:=h' }:=I.turned (t':=s.toks) (fun b o hb e=>(sb.2 b hb).trans e) f0 f1 f3 f4 f5;obtain⟨o,e,c,d⟩:=id st';exact⟨u,rfl,go_of (s:={ s with heap:=h' }) e c d (by decide) ⟨x,H,I1,ru,⟨rfl,fun ys hy=>by rw[I.tuple_inj hy hq];exact hx⟩,st',fun b hb=>(hf b hb).1⟩⟩
 done:=by
  intro X hP hw hK hc i pins s σ H E I hf st hg;subst hP hw hK;obtain⟨xs,hq,hx⟩:=hg;obtain⟨its,rv,p,hz⟩:=I.tuple hq;obtain⟨f0,f1,f2,f3,f4,f5⟩:=hf it (by simp);have hl:=rv.length;exact wpAny_pyNext_tuple_end (I.ok.hd hc) st (show s.heap.IsTuple a its.toArray from p) (by simp;omega) fun h' eb=>⟨rfl,I.turned (t':=s.toks) (fun b o hb e=>eb b o hb e) f0 f1 f3 f4 f5⟩
 self:=fun _ _ _ _ _ st h=>wpAny_pyIter_tupleiter st h
theorem turn_range {P:Program}{w:World}{K:PySem.W.Frag}{tg:Expr}(it:Addr)(lo:Int)(n:Nat):Turn P w K tg (Itr lo n) [it] it (fun i h=>IsRangeIter h it (lo + (i:Nat) * 1) ((n:Int) - (i:Nat)) 1) where
 mem:=by simp
 obj:=fun i h st b hb=>by
  have e:b=it:=by simpa using hb
  subst e;exact⟨_,st,fun v z=>by
   have z':Data.fields _=Data.cell v:=z;cases z'⟩
 keep:=fun i h h' st k=>k it (by simp) _ st
 item:=by
  intro X hP hw hK hc i pins s σ H E I hf st hg;subst hP hw hK;obtain⟨f0,f1,f2,f3,f4,f5⟩:=hf it (by simp);have W:=Walks.range (prog:=X.prog) (w:=X.w) (I.ok.hd hc) it lo 1 n;refine W.item i s _ _ hg st fun v h' tk hv st' kk=>?_;obtain⟨t,rfl⟩:=hv;have I1:Inv X pins σ H { s with heap:=h',toks:=tk }:=I.turned (fun b o hb e=>kk b o (by simpa using hb) e) f0 f1 f3 f4 f5;refine⟨_,rfl,go_of (s:={ s with heap:=h',toks:=tk }) (n:="range_iterator") st' rfl rfl (by decide) ⟨.int (lo + i),H,I1,⟨t,?_⟩,⟨rfl,rfl⟩,st',fun b hb=>(hf b hb).1⟩⟩;rw[Int.mul_one]
 done:=by
  intro X hP hw hK hc i pins s σ H E I hf st hg;subst hP hw hK;obtain⟨f0,f1,f2,f3,f4,f5⟩:=hf it (by simp);exact wpAny_pyNext_range_end (I.ok.hd hc) st (by have:n<=i:=hg;omega) fun h' eb=>⟨rfl,I.turned (t':=s.toks) (fun b o hb e=>eb b o hb e) f0 f1 f3 f4 f5⟩
 self:=fun _ _ _ _ _ st h=>wpAny_pyIter_rangeiter st h
end L2
namespace L2
open PySem PySem.Spec PyProof.Rows
section
variable {X:Cx}{tg:Expr}
theorem range_it {pins:List (Addr×Obj)}{σ:St}{H:Hp}{s:Shared}{R:It->Hp->Prop}{E:Value->Shared->Prop}{lo hi:Int}{t u v:Tok}{tk:Nat}(I:Inv X pins σ H s)(h1:-(2 ^ 62)<=lo)(h2:lo < 2 ^ 62)(h3:-(2 ^ 62)<=hi)(h4:hi < 2 ^ 62)
  (q:R (Itr lo (hi - lo).toNat) H):wpAny (model X.prog X.w) X.A (pyIter (.ref s.heap.objs.size)) (PIE X pins σ tg R) E { s with heap:=s.heap.push { cls:=.type "range",data:=.fields #[.int lo t,.int hi u,.int 1 v] },toks:=tk }:=by
 refine wpAny_pyIter_range (IsRange.new ..) (small_one h1 h2 h3 h4) ?_;have I1:Inv X pins σ H { s with heap:=s.heap.push { cls:=.type "range",data:=.fields #[.int lo t,.int hi u,.int 1 v] },toks:=tk }:=I.kept fun b o e=>Heap.get?_push_of_some _ e;refine⟨(s.heap.push { cls:=.type "range",data:=.fields #[.int lo t,.int hi u,.int 1 v] }).objs.size,[(s.heap.push { cls:=.type "range",data:=.fields #[.int lo t,.int hi u,.int 1 v] }).objs.size],_,_,H,rfl,
  I1.kept (t':=tk) fun b o e=>Heap.get?_push_of_some _ e,turn_range _ lo (hi - lo).toNat,?_,fun b hb=>?_,q⟩
 ·have e1:lo + ((0:Nat):Int) * 1=lo:=by simp
  have e2:(((hi - lo).toNat:Nat):Int) - ((0:Nat):Int)=Builtin.Range.rangeSize lo hi 1:=by rw[rangeSize_one];split <;> omega
  show IsRangeIter _ _ (lo + ((0:Nat):Int) * 1) ((((hi - lo).toNat:Nat):Int) - ((0:Nat):Int)) 1;rw[e1,e2];exact Heap.get?_push_size _ rfl
 ·have e:b=(s.heap.push { cls:=.type "range",data:=.fields #[.int lo t,.int hi u,.int 1 v] }).objs.size:=by simpa using hb
  subst e;exact I1.fpOk (Nat.le_refl _) (I1.hok.fresh (Nat.le_refl _))
def iRng1 (ta:TA):TI:=fun σ H R=>ta σ H fun vs H1=>∃ j:Int,vs=[.int j]/\-(2 ^ 62)<=j/\j < 2 ^ 62/\R (Itr 0 j.toNat) H1
def iRng2 (ta:TA):TI:=fun σ H R=>ta σ H fun vs H1=>∃ i j:Int,vs=[.int i,.int j]/\(-(2 ^ 62)<=i/\i < 2 ^ 62/\-(2 ^ 62)<=j/\j < 2 ^ 62)/\R (Itr i (j - i).toNat) H1
theorem pi_range1 {a:Expr}{ta:TA}{p pos:Pos}(hg:Gl X "range")(hm:X.mg "range" = none)(ha:PA X [a] ta)(hs:starEach [a] X.env=[(false,eval a X.env)]:=by rfl):PI X tg (.Call (.Name "range" p) [a] [] pos) (iRng1 ta):=by
 intro pins s σ H R I h;refine Call_ (ld_blt I hg hm boot_range (PyProof.Rows.callWith_type1 (thn (ha pos pins s σ H _ I h) fun us s1 ⟨vs,H1,I1,r1,q1⟩=>?_) hs rfl));obtain⟨j,e,q1,q2,q⟩:=q1;subst e;cases r1 with
 | cons r rr =>
  cases rr;obtain⟨t,rfl⟩:=r;exact call_range_1 (range_it I1 (by first | lia | omega) (by first | lia | omega) q1 q2 (by simpa using q))
theorem pi_range2 {a b:Expr}{ta:TA}{p pos:Pos}(hg:Gl X "range")(hm:X.mg "range" = none)(ha:PA X [a,b] ta)(hs:starEach [a,b] X.env=[(false,eval a X.env),(false,eval b X.env)]:=by rfl)(hs2:starEach [b] X.env=[(false,eval b X.env)]:=by rfl) :
  PI X tg (.Call (.Name "range" p) [a,b] [] pos) (iRng2 ta):=by
 intro pins s σ H R I h;refine Call_ (ld_blt I hg hm boot_range (PyProof.Rows.callWith_type1 (thn (ha pos pins s σ H _ I h) fun us s1 ⟨vs,H1,I1,r1,q1⟩=>?_) (by rw[hs,hs2]) (by rw[hs2];rfl)));obtain⟨i,j,e,⟨q1,q2,q3,q4⟩,q⟩:=q1;subst e;cases r1 with
 | cons r rr =>
  cases rr with
  | cons r' rr =>
   cases rr;obtain⟨t,rfl⟩:=r;obtain⟨t',rfl⟩:=r';exact call_range_2 (range_it I1 q1 q2 q3 q4 q)
def tFor (wi:TI)(g:TG)(tb:TS):TS:=fun D σ H=>wi σ H fun J H1=>∃ W:Nat->Nat->St->Hp->Prop,(∃ m,W 0 m σ H1)/\∀ i m σ H,W i m σ H ->
 (J.stop i H/\D.nx σ H)\/(J.go i H/\∃ N:St->Hp->Prop,(∀ σ' H',N σ' H'->∃ m',m' < m/\W (i + 1) m' σ' H')/\∀ x H',J.yld i H x H'->g x σ H' fun σ2 H2=>tb { D with nx:=N,ct:=N,bk:=D.nx } σ2 H2)
def pinsAt (fp:List Addr)(h:Heap):List (Addr×Obj):=fp.filterMap fun b=>(h.get? b).map fun o=>(b,o)
theorem mem_pinsAt {fp:List Addr}{h:Heap}{b:Addr}{o:Obj}(hb:b∈fp)(e:h.get? b=some o):(b,o)∈pinsAt fp h:=List.mem_filterMap.mpr ⟨b,hb,by rw[e];rfl⟩
theorem of_pinsAt {fp:List Addr}{h:Heap}{p:Addr×Obj}(hp:p∈pinsAt fp h):p.1∈fp/\h.get? p.1=some p.2:=by
 obtain⟨b,hb,e⟩:=List.mem_filterMap.mp hp;cases q:h.get? b with
 | none=>rw[q]at e;cases e
 | some o =>
  rw[q]at e;have e':(b,o)=p:=Option.some.inj e;subst e';exact⟨hb,q⟩
theorem Inv.pinned {pins:List (Addr×Obj)}{σ:St}{H:Hp}{s:Shared}{fp:List Addr}(I:Inv X pins σ H s)(hf:∀ b∈fp,FpOk X pins H b)(ho:∀ b∈fp,∃ o,s.heap.get? b=some o/\∀ v,o.data≠.cell v):Inv X (pins++pinsAt fp s.heap) σ H s :=
 I.pins_of fun p hp=>(List.mem_append.mp hp).elim (fun z=>I.pin p (List.mem_append_right _ z)) fun z=>by
  obtain⟨hb,e⟩:=of_pinsAt z;obtain⟨f0,f1,f2,_⟩:=hf p.1 hb;obtain⟨o,e',d⟩:=ho p.1 hb;rw[e]at e';cases e';exact⟨e,f0,f1,f2,d⟩
theorem Inv.unpinned {pins pl:List (Addr×Obj)}{σ:St}{H:Hp}{s:Shared}(I:Inv X (pins++pl) σ H s):Inv X pins σ H s:=I.pins_of fun p hp=>I.pin p (List.mem_append_right _ (List.mem_append_left _ hp))
theorem ps_for {iter:Expr}{body:List Stmt}{wi:TI}{g:TG}{tb:TS}{pos:Pos}(hp:PassesOwn (model X.prog X.w) X.A X.env X.xe)(hc:X.calm=true)(hi:PI X tg iter wi)(hg:PG X tg g)(hb:PSs X body tb)
  (hs:∀ x,foldedSetIterable iter X.env x=pure x:=by intro _;rfl):PS X (.For tg iter body [] pos) (tFor wi g tb):=by
 intro pins s σ H D I h;refine wpAny_For (thn (hi pins s σ H _ I h) fun v s1 h1=>thn h1 fun itv s2 h2=>?_) hs;obtain⟨it,fp,tn,J,H2,e,I2,T,st2,f2,W,⟨m0,w0⟩,turn⟩:=h2;subst e;have stat:∀ {H':Hp},(∀ b∈fp,H' b=none)->∀ b∈fp,FpOk X pins H' b:=fun hn b hb=>⟨hn b hb,(f2 b hb).2⟩;refine codeAny_forLoop_any (fun n s'=>∃ i σ' H',Inv X pins σ' H' s'/\tn i s'.heap/\(∀ b∈fp,H' b=none)/\W i n σ' H') ?_ m0 ⟨0,σ,H2,I2,st2,fun b hb=>(f2 b hb).1,w0⟩;rintro n s3 ⟨i,σ3,H3,I3,st3,fr3,w3⟩;rcases turn i n σ3 H3 w3 with ⟨stop,qn⟩|⟨go,N,hN,step⟩
 ·refine wpAny_passesOwn hp (thn (T.done X rfl rfl rfl hc i pins s3 σ3 H3 X.xe I3 (stat fr3) st3 stop) fun r s4 ⟨hr,I4⟩=>?_)
  subst hr;exact wpAny_execs_nil ⟨σ3,H3,I4,qn⟩
 ·refine wpAny_passesOwn hp (thn (T.item X rfl rfl rfl hc i pins s3 σ3 H3 X.xe I3 (stat fr3) st3 go) fun r s4 ⟨u,hr,h4⟩=>?_)
  subst hr;refine wpAny_passesOwn hp (thn h4 fun _ s5 ⟨x,H5,I5,r5,y5,st5,fr5⟩=>?_);have I5':=I5.pinned (stat fr5) (T.obj _ _ st5);refine wpAny_passesOwn hp (thn (hg _ s5 σ3 H5 x u _ I5' r5 (step x H5 y5)) fun _ s6 ⟨σ6,H6,I6,q6⟩=>?_);refine wpAny_passesOwn hp (thn (hb _ s6 σ6 H6 _ I6 q6) fun f s7 q7=>?_);have again:∀ {σ7:St} {H7:Hp},Inv X (pins++pinsAt fp s5.heap) σ7 H7 s7->N σ7 H7->∃ m,m < n/\∃ i σ' H',Inv X pins σ' H' s7/\tn i s7.heap/\(∀ b∈fp,H' b=none)/\W i m σ' H':=fun {σ7 H7} I7 n7=>by
   obtain⟨m',hm,w7⟩:=hN σ7 H7 n7;refine⟨m',hm,i + 1,σ7,H7,I7.unpinned,T.keep _ _ _ st5 fun b hb o e=>(I7.pin (b,o) (List.mem_append_right _ (List.mem_append_right _ (mem_pinsAt hb e)))).1,fun b hb=>?_,w7⟩;obtain⟨o,e,d⟩:=T.obj _ _ st5 b hb;exact(I7.pin (b,o) (List.mem_append_right _ (List.mem_append_right _ (mem_pinsAt hb e)))).2.1
  cases f with
  | next=>obtain⟨σ7,H7,I7,n7⟩:=q7;exact again I7 n7
  | cont=>obtain⟨σ7,H7,I7,n7⟩:=q7;exact again I7 n7
  | brk=>obtain⟨σ7,H7,I7,q7⟩:=q7;exact⟨σ7,H7,I7.unpinned,q7⟩
  | ret v=>obtain⟨x7,σ7,H7,I7,r7,q7⟩:=q7;exact⟨x7,σ7,H7,I7.unpinned,r7,q7⟩
end
end L2
namespace L2
open PySem PySem.Spec PyProof.Rows
abbrev R2:=V->V->Hp->VK->Prop
def OpR (X:Cx)(f:Value->Value->Sem Value)(r:R2):Prop :=
 ∀ (pins:List (Addr×Obj)) (s:Shared) (σ:St) (H:Hp) (x y:V) (v u:Value) (Q:VK),Inv X pins σ H s->RelV x v->RelV y u->r x y H Q ->
  wpAny (model X.prog X.w) X.A (f v u) (EP X pins σ Q) X.xe s
def UnR (X:Cx)(f:Value->Sem Value)(r:V->Hp->VK->Prop):Prop :=
 ∀ (pins:List (Addr×Obj)) (s:Shared) (σ:St) (H:Hp) (x:V) (v:Value) (Q:VK),Inv X pins σ H s->RelV x v->r x H Q ->
  wpAny (model X.prog X.w) X.A (f v) (EP X pins σ Q) X.xe s
def CallR (X:Cx)(f:Value)(r:List V->Hp->VK->Prop):Prop :=
 ∀ (pins:List (Addr×Obj)) (s:Shared) (σ:St) (H:Hp) (xs:List V) (us:List Value) (Q:VK),Inv X pins σ H s->Vals xs us->r xs H Q ->
  wpAny (model X.prog X.w) X.A (call f us) (EP X pins σ Q) X.xe s
def TruR (X:Cx)(r:V->Hp->(Bool->Hp->Prop)->Prop):Prop :=
 ∀ (pins:List (Addr×Obj)) (s:Shared) (σ:St) (H:Hp) (x:V) (v:Value) (Q:Bool->Hp->Prop),Inv X pins σ H s->RelV x v->r x H Q ->
  wpAny (model X.prog X.w) X.A (truthy v) (TP X pins σ Q) X.xe s
def tOp (r:R2)(ta tb:TE):TE:=fun σ H Q=>ta σ H fun x H1=>tb σ H1 fun y H2=>r x y H2 Q
def tUn (r:V->Hp->VK->Prop)(ta:TE):TE:=fun σ H Q=>ta σ H fun x H1=>r x H1 Q
def rI (C:Int->Int->Prop)(g:Int->Int->V):R2:=fun x y H Q=>∃ i j,x=.int i/\y=.int j/\C i j/\Q (g i j) H
def rI0 (g:Int->Int->V):R2:=fun x y H Q=>∃ i j,x=.int i/\y=.int j/\Q (g i j) H
def rU (g:Int->V):V->Hp->VK->Prop:=fun x H Q=>∃ i,x=.int i/\Q (g i) H
section
variable {X:Cx}{a b c:Expr}{ta tb tc:TE}{pos:Pos}
theorem binT (ha:PE X a ta)(hb:PE X b tb){pins:List (Addr×Obj)}{s:Shared}{σ:St}{H:Hp}{R:V->V->Hp->Prop}(I:Inv X pins σ H s)
  (h:ta σ H fun x H1=>tb σ H1 fun y H2=>R x y H2) {Q:Value->Shared->Prop} {f:Value->Value->Sem Value}
  (hf:∀ v u s2 x y H2,Inv X pins σ H2 s2->RelV x v->RelV y u->R x y H2->wpAny (model X.prog X.w) X.A (f v u) Q X.xe s2) :
  wpAny (model X.prog X.w) X.A (eval a X.env) (fun v s₁=>wpAny (model X.prog X.w) X.A (eval b X.env) (fun u s₂=>wpAny (model X.prog X.w) X.A (f v u) Q X.xe s₂) X.xe s₁) X.xe s:=by
 refine thn (ha pins s σ H _ I h) fun v s1 ⟨x,H1,I1,r1,q1⟩=>?_;refine thn (hb pins s1 σ H1 _ I1 q1) fun u s2 ⟨y,H2,I2,r2,q2⟩=>?_;exact hf v u s2 x y H2 I2 r1 r2 q2
theorem pe_op {op:Operator}{r:R2}(ho:OpR X (binaryOp op) r)(ha:PE X a ta)(hb:PE X b tb):PE X (.BinOp a op b pos) (tOp r ta tb):=by
 intro pins s σ H Q I h;exact wpAny_BinOp (binT ha hb I h fun v u s2 x y H2 I2 rx ry q=>ho pins s2 σ H2 x y v u Q I2 rx ry q)
theorem pe_un {op:UnaryOp}{r:V->Hp->VK->Prop}(ho:UnR X (unaryOp op) r)(ha:PE X a ta):PE X (.UnaryOp op a pos) (tUn r ta):=by
 intro pins s σ H Q I h;exact UnaryOp_ (thn (ha pins s σ H _ I h) fun v s1 ⟨x,H1,I1,r1,q1⟩=>ho pins s1 σ H1 x v Q I1 r1 q1)
theorem opI {f:Value->Value->Sem Value}{C:Int->Int->Prop}{g:Int->Int->Int}
  (rule:∀ (i j:Int) (t u:Tok) (s:Shared) (Q:Value->Shared->Prop) (E:Value->Shared->Prop),C i j->Q (.int (g i j) s.toks) { s with toks:=s.toks + 1 }->wpAny (model X.prog X.w) X.A (f (.int i t) (.int j u)) Q E s) :
  OpR X f (rI C fun i j=>.int (g i j)):=by
 intro pins s σ H x y v u Q I rx ry h;obtain⟨i,j,rfl,rfl,hc,q⟩:=h;obtain⟨t,rfl⟩:=rx;obtain⟨t',rfl⟩:=ry;exact rule i j t t' s _ _ hc ⟨.int (g i j),H,I.tok _,⟨_,rfl⟩,q⟩
theorem opI0 {f:Value->Value->Sem Value}{g:Int->Int->Int}
  (rule:∀ (i j:Int) (t u:Tok) (s:Shared) (Q:Value->Shared->Prop) (E:Value->Shared->Prop),Q (.int (g i j) s.toks) { s with toks:=s.toks + 1 }->wpAny (model X.prog X.w) X.A (f (.int i t) (.int j u)) Q E s) :
  OpR X f (rI0 fun i j=>.int (g i j)):=by
 intro pins s σ H x y v u Q I rx ry h;obtain⟨i,j,rfl,rfl,q⟩:=h;obtain⟨t,rfl⟩:=rx;obtain⟨t',rfl⟩:=ry;exact rule i j t t' s _ _ ⟨.int (g i j),H,I.tok _,⟨_,rfl⟩,q⟩
theorem opB0 {f:Value->Value->Sem Value}{g:Int->Int->Bool}
  (rule:∀ (i j:Int) (t u:Tok) (s:Shared) (Q:Value->Shared->Prop) (E:Value->Shared->Prop),Q (.bool (g i j)) s->wpAny (model X.prog X.w) X.A (f (.int i t) (.int j u)) Q E s) :
  OpR X f (rI0 fun i j=>.bl (g i j)):=by
 intro pins s σ H x y v u Q I rx ry h;obtain⟨i,j,rfl,rfl,q⟩:=h;obtain⟨t,rfl⟩:=rx;obtain⟨t',rfl⟩:=ry;exact rule i j t t' s _ _ ⟨.bl (g i j),H,I,rfl,q⟩
def CDiv (i j:Int):Prop:=0 < j/\j < 1073741824
def CPow (i j:Int):Prop:=0<=j/\j<=1000000/\i.natAbs < 2 ^ 64
def CMul (i j:Int):Prop:=(-(2 ^ 64) < i/\i < 2 ^ 64)\/(-(2 ^ 64) < j/\j < 2 ^ 64)
theorem CMul.ok {i j:Int}(h:CMul i j):IntMulOk i j:=by
 rcases h with ⟨h1,h2⟩|⟨h1,h2⟩
 ·exact .of_left (intBits_le_64 h1 h2)
 ·exact .of_right (intBits_le_64 h1 h2)
theorem op_add:OpR X (binaryOp .Add) (rI0 fun i j=>.int (i + j)):=opI0 fun _ _ _ _ _ _ _ q=>add_int q
theorem op_sub:OpR X (binaryOp .Sub) (rI0 fun i j=>.int (i - j)):=opI0 fun _ _ _ _ _ _ _ q=>sub_int q
theorem op_mul:OpR X (binaryOp .Mult) (rI CMul fun i j=>.int (i * j)):=opI fun _ _ _ _ _ _ _ hc q=>mul_int q hc.ok
theorem op_fdiv:OpR X (binaryOp .FloorDiv) (rI CDiv fun i j=>.int (i / j)):=opI fun i j _ _ _ _ _ hc q=>by
 have h1:(0:Int) < j:=hc.1;have h2:j < 1073741824:=hc.2;exact floordiv_int (by first | lia | omega) (by rw[Int.fdiv_eq_ediv_of_nonneg i (by first | lia | omega)];exact q) (.inl (PyProof.noPylong_small (by first | lia | omega)))
theorem op_mod:OpR X (binaryOp .Mod) (rI (fun _ j=>0 < j) fun i j=>.int (i % j)):=opI fun i j _ _ _ _ _ hc q=>by
 have h1:(0:Int) < j:=hc;exact mod_int' (by first | lia | omega) (by rw[Int.fmod_eq_emod_of_nonneg i (by first | lia | omega)];exact q)
theorem op_pow:OpR X (binaryOp .Pow) (rI CPow fun i j=>.int (i ^ j.toNat)):=opI fun _ _ _ _ _ _ _ hc q=>pow_int_small hc.1 hc.2.1 hc.2.2 q
theorem unI {f:Value->Sem Value}{g:Int->Int}
  (rule:∀ (i:Int) (t:Tok) (s:Shared) (Q:Value->Shared->Prop) (E:Value->Shared->Prop),Q (.int (g i) s.toks) { s with toks:=s.toks + 1 }->wpAny (model X.prog X.w) X.A (f (.int i t)) Q E s) :
  UnR X f (rU fun i=>.int (g i)):=by
 intro pins s σ H x v Q I rx h;obtain⟨i,rfl,q⟩:=h;obtain⟨t,rfl⟩:=rx;exact rule i t s _ _ ⟨.int (g i),H,I.tok _,⟨_,rfl⟩,q⟩
theorem un_neg:UnR X (unaryOp .USub) (rU fun i=>.int (-i)):=unI fun _ _ _ _ _ q=>neg_int q
end
def scal:V->V->Bool
 | .non,.non=>true | .non,.int _=>true | .int _,.non=>true | .non,.bl _=>true | .bl _,.non=>true | .non,.str _=>true | .str _,.non=>true
 | .int _,.int _=>true | .bl _,.bl _=>true | .str _,.str _=>true | .byt _,.byt _=>true
 | .int _,.str _=>true | .str _,.int _=>true | .bl _,.str _=>true | .str _,.bl _=>true
 | _,_=>false
def rEq:R2:=fun x y H Q=>scal x y=true/\Q (.bl (decide (x=y))) H
def rNe:R2:=fun x y H Q=>scal x y=true/\Q (.bl (!decide (x=y))) H
theorem dec_int {i j:Int}:decide (V.int i=V.int j)=(i==j):=by
 rw[Bool.eq_iff_iff];simp
theorem dec_bl {i j:Bool}:decide (V.bl i=V.bl j)=(i==j):=by
 rw[Bool.eq_iff_iff];simp
theorem dec_str {i j:Str}:decide (V.str i=V.str j)=(i==j):=by
 rw[Bool.eq_iff_iff];simp
theorem dec_byt {i j:Array UInt8}:decide (V.byt i=V.byt j)=(i.toList==j.toList):=by
 rw[Bool.eq_iff_iff];cases i;cases j;simp
section
variable {X:Cx}{a b c:Expr}{ta tb tc:TE}{pos:Pos}
theorem fin_bl {pins:List (Addr×Obj)}{σ:St}{H:Hp}{s:Shared}{Q:VK}{k k':Bool}(I:Inv X pins σ H s)(q:Q (.bl k) H)(e:k=k'):EP X pins σ Q (.bool k') s:=by
 subst e;exact⟨.bl k,H,I,rfl,q⟩
theorem op_eq:OpR X (compareOp .Eq) rEq:=by
 intro pins s σ H x y v u Q I rx ry h;obtain⟨hs,q⟩:=h;cases x with
 | non =>
  cases rx;cases y with
  | non=>cases ry;exact PySem.EqNone.eq_none_none (fin_bl I q (by simp))
  | bl j=>cases ry;exact PySem.EqNone.eq_none_bool (fin_bl I q (by simp))
  | int j=>obtain⟨t',rfl⟩:=ry;exact PySem.EqNone.eq_none_int (fin_bl I q (by simp))
  | str j=>obtain⟨t',rfl⟩:=ry;exact PySem.EqNone.eq_none_str (fin_bl I q (by simp))
  | _=>exact absurd (show false=true from hs) Bool.false_ne_true
 | bl i =>
  cases rx;cases y with
  | non=>cases ry;exact PySem.EqNone.eq_bool_none (fin_bl I q (by simp))
  | bl j=>cases ry;exact eq_bool (fin_bl I q dec_bl)
  | str j=>obtain⟨t',rfl⟩:=ry;exact PySem.EqMixed.eq_bool_str (fin_bl I q (by simp))
  | _=>exact absurd (show false=true from hs) Bool.false_ne_true
 | int i =>
  obtain⟨t,rfl⟩:=rx;cases y with
  | non=>cases ry;exact PySem.EqNone.eq_int_none (fin_bl I q (by simp))
  | int j=>obtain⟨t',rfl⟩:=ry;exact eq_int (fin_bl I q dec_int)
  | str j=>obtain⟨t',rfl⟩:=ry;exact PySem.EqMixed.eq_int_str (fin_bl I q (by simp))
  | _=>exact absurd (show false=true from hs) Bool.false_ne_true
 | str i =>
  obtain⟨t,rfl⟩:=rx;cases y with
  | non=>cases ry;exact PySem.EqNone.eq_str_none (fin_bl I q (by simp))
  | bl j=>cases ry;exact PySem.EqMixed.eq_str_bool (fin_bl I q (by simp))
  | int j=>obtain⟨t',rfl⟩:=ry;exact PySem.EqMixed.eq_str_int (fin_bl I q (by simp))
  | str j=>obtain⟨t',rfl⟩:=ry;exact eq_str (fin_bl I q dec_str)
  | _=>exact absurd (show false=true from hs) Bool.false_ne_true
 | byt i =>
  obtain⟨t,rfl⟩:=rx;cases y with
  | byt j=>obtain⟨t',rfl⟩:=ry;exact PySem.W.eq_bytes (fin_bl I q dec_byt)
  | _=>exact absurd (show false=true from hs) Bool.false_ne_true
 | _=>cases y <;> exact absurd (show false=true from hs) Bool.false_ne_true
theorem op_ne:OpR X (compareOp .NotEq) rNe:=by
 intro pins s σ H x y v u Q I rx ry h;obtain⟨hs,q⟩:=h;cases x with
 | non =>
  cases rx;cases y with
  | non=>cases ry;exact PySem.EqNone.ne_none_none (fin_bl I q (by simp))
  | bl j=>cases ry;exact PySem.EqNone.ne_none_bool (fin_bl I q (by simp))
  | int j=>obtain⟨t',rfl⟩:=ry;exact PySem.EqNone.ne_none_int (fin_bl I q (by simp))
  | str j=>obtain⟨t',rfl⟩:=ry;exact PySem.EqNone.ne_none_str (fin_bl I q (by simp))
  | _=>exact absurd (show false=true from hs) Bool.false_ne_true
 | bl i =>
  cases rx;cases y with
  | non=>cases ry;exact PySem.EqNone.ne_bool_none (fin_bl I q (by simp))
  | bl j=>cases ry;exact ne_bool (fin_bl I q (congrArg not dec_bl))
  | str j=>obtain⟨t',rfl⟩:=ry;exact PySem.EqMixed.ne_bool_str (fin_bl I q (by simp))
  | _=>exact absurd (show false=true from hs) Bool.false_ne_true
 | int i =>
  obtain⟨t,rfl⟩:=rx;cases y with
  | non=>cases ry;exact PySem.EqNone.ne_int_none (fin_bl I q (by simp))
  | int j=>obtain⟨t',rfl⟩:=ry;exact ne_int (fin_bl I q (congrArg not dec_int))
  | str j=>obtain⟨t',rfl⟩:=ry;exact PySem.EqMixed.ne_int_str (fin_bl I q (by simp))
  | _=>exact absurd (show false=true from hs) Bool.false_ne_true
 | str i =>
  obtain⟨t,rfl⟩:=rx;cases y with
  | non=>cases ry;exact PySem.EqNone.ne_str_none (fin_bl I q (by simp))
  | bl j=>cases ry;exact PySem.EqMixed.ne_str_bool (fin_bl I q (by simp))
  | int j=>obtain⟨t',rfl⟩:=ry;exact PySem.EqMixed.ne_str_int (fin_bl I q (by simp))
  | str j=>obtain⟨t',rfl⟩:=ry;exact ne_str (fin_bl I q (congrArg not dec_str))
  | _=>exact absurd (show false=true from hs) Bool.false_ne_true
 | byt i =>
  obtain⟨t,rfl⟩:=rx;cases y with
  | byt j=>obtain⟨t',rfl⟩:=ry;exact PySem.W.ne_bytes (fin_bl I q (congrArg not dec_byt))
  | _=>exact absurd (show false=true from hs) Bool.false_ne_true
 | _=>cases y <;> exact absurd (show false=true from hs) Bool.false_ne_true
theorem op_lt:OpR X (compareOp .Lt) (rI0 fun i j=>.bl (decide (i < j))):=opB0 fun _ _ _ _ _ _ _ q=>lt_int q
theorem op_le:OpR X (compareOp .LtE) (rI0 fun i j=>.bl (decide (i<=j))):=opB0 fun _ _ _ _ _ _ _ q=>le_int q
theorem op_gt:OpR X (compareOp .Gt) (rI0 fun i j=>.bl (decide (j < i))):=opB0 fun _ _ _ _ _ _ _ q=>gt_int q
theorem op_ge:OpR X (compareOp .GtE) (rI0 fun i j=>.bl (decide (j<=i))):=opB0 fun _ _ _ _ _ _ _ q=>ge_int q
theorem op_lt_str:OpR X (compareOp .Lt) (fun x y H Q=>∃ i j,x=.str i/\y=.str j/\Q (.bl (decide (i.cps.toList < j.cps.toList))) H):=by
 intro pins s σ H x y v u Q I rx ry h;obtain⟨i,j,rfl,rfl,q⟩:=h;obtain⟨t,rfl⟩:=rx;obtain⟨t',rfl⟩:=ry;exact lt_str (fin_bl I q rfl)
theorem op_in_str:OpR X (compareOp .In) (fun x y H Q=>∃ i j,x=.str i/\y=.str j/\Q (.bl (!(Builtin.Str.occurrences j i 0 j.length 1).isEmpty)) H):=by
 intro pins s σ H x y v u Q I rx ry h;obtain⟨i,j,rfl,rfl,q⟩:=h;obtain⟨t,rfl⟩:=rx;obtain⟨t',rfl⟩:=ry;exact in_str (fin_bl I q rfl)
theorem op_isN:OpR X (compareOp .Is) (fun x y H Q=>y=.non/\Q (.bl (decide (x=.non))) H):=by
 intro pins s σ H x y v u Q I rx ry h;obtain⟨rfl,q⟩:=h;cases ry;refine is_none_gen (fin_bl I q ?_);cases x <;> first
  | (cases rx;rfl)
  | (obtain⟨t,rfl⟩:=rx;rfl)
theorem op_notN:OpR X (compareOp .IsNot) (fun x y H Q=>y=.non/\Q (.bl (!decide (x=.non))) H):=by
 intro pins s σ H x y v u Q I rx ry h;obtain⟨rfl,q⟩:=h;cases ry;refine isnot_none_gen (fin_bl I q ?_);cases x <;> first
  | (cases rx;rfl)
  | (obtain⟨t,rfl⟩:=rx;rfl)
theorem op_notin_str:OpR X (compareOp .NotIn) (fun x y H Q=>∃ i j,x=.str i/\y=.str j/\Q (.bl (!(!(Builtin.Str.occurrences j i 0 j.length 1).isEmpty))) H):=by
 intro pins s σ H x y v u Q I rx ry h;obtain⟨i,j,rfl,rfl,q⟩:=h;obtain⟨t,rfl⟩:=rx;obtain⟨t',rfl⟩:=ry;exact notIn_str (fin_bl I q rfl)
theorem pe_cmpR {op:CmpOp}{r:R2}(ho:OpR X (compareOp op) r)(ha:PE X a ta)(hb:PE X b tb)(hm:behindInMarks op b=false):PE X (.Compare a [op] [b] pos) (tOp r ta tb):=by
 intro pins s σ H Q I h;exact wpAny_Compare1 (binT ha hb I h fun v u s2 x y H2 I2 rx ry q=>ho pins s2 σ H2 x y v u Q I2 rx ry q) hm
def tTest (t:TE):TT:=fun σ H Q=>t σ H fun x H'=>∃ k,x=.bl k/\Q k H'
theorem pt_cmpR {op:CmpOp}{r:R2}(ho:OpR X (compareOp op) r)(ha:PE X a ta)(hb:PE X b tb)(hm:behindInMarks op b=false):PT X (.Compare a [op] [b] pos) (tTest (tOp r ta tb)):=by
 intro pins s σ H Q I h;refine wpAny_isTrue_Compare1 (thn (ha pins s σ H _ I h) fun v s1 ⟨x,H1,I1,r1,q1⟩=>thn (hb pins s1 σ H1 _ I1 q1) fun u s2 ⟨y,H2,I2,r2,q2⟩ =>
  thn (ho pins s2 σ H2 x y v u _ I2 r1 r2 q2) fun c s3 ⟨z,H3,I3,r3,k,e,q3⟩=>?_) hm
 subst e;cases r3;exact wpAny_truthy_bool ⟨H3,I3,q3⟩
def tChain (r r':R2)(ta tb tc:TE):TE:=fun σ H Q=>ta σ H fun x H1=>tb σ H1 fun y H2=>r x y H2 fun z H3=>∃ k,z=.bl k /\
 (if k=true then tc σ H3 fun w' H4=>r' y w' H4 Q else Q (.bl false) H3)
theorem pe_chain {op op':CmpOp}{r r':R2}(ho:OpR X (compareOp op) r)(ho':OpR X (compareOp op') r')(ha:PE X a ta)(hb:PE X b tb)(hc:PE X c tc)
  (hm:lastMarks [op,op'] [b,c]=false:=by with_unfolding_all rfl):PE X (.Compare a [op,op'] [b,c] pos) (tChain r r' ta tb tc):=by
 intro pins s σ H Q I h;refine Compare_chain (thn (ha pins s σ H _ I h) fun v s1 ⟨x,H1,I1,r1,q1⟩=>chain_link (thn (hb pins s1 σ H1 _ I1 q1) fun u s2 ⟨y,H2,I2,r2,q2⟩ =>
  thn (ho pins s2 σ H2 x y v u _ I2 r1 r2 q2) fun d s3 ⟨z,H3,I3,r3,k,e,q3⟩=>?_)) hm
 subst e;cases r3;refine wpAny_truthy_bool ?_;cases k with
 | false=>exact ite_ff ⟨.bl false,H3,I3,rfl,q3⟩
 | true=>exact ite_tt (chain_last (thn (hc pins s3 σ H3 _ I3 q3) fun w' s4 ⟨z',H4,I4,r4,q4⟩=>ho' pins s4 σ H4 y z' u w' Q I4 r2 r4 q4))
theorem pt_chain {op op':CmpOp}{r r':R2}(ho:OpR X (compareOp op) r)(ho':OpR X (compareOp op') r')(ha:PE X a ta)(hb:PE X b tb)(hc:PE X c tc)
  (hm:lastMarks [op,op'] [b,c]=false:=by with_unfolding_all rfl):PT X (.Compare a [op,op'] [b,c] pos) (tTest (tChain r r' ta tb tc)):=by
 intro pins s σ H Q I h;refine isTrue_chain (thn (ha pins s σ H _ I h) fun v s1 ⟨x,H1,I1,r1,q1⟩=>test_link (thn (hb pins s1 σ H1 _ I1 q1) fun u s2 ⟨y,H2,I2,r2,q2⟩ =>
  thn (ho pins s2 σ H2 x y v u _ I2 r1 r2 q2) fun d s3 ⟨z,H3,I3,r3,k,e,q3⟩=>?_)) hm
 subst e;cases r3;refine wpAny_truthy_bool ?_;cases k with
 | false =>
  obtain⟨k',e',q'⟩:=q3;cases e';exact ite_ff ⟨H3,I3,q'⟩
 | true =>
  refine ite_tt (test_last (thn (hc pins s3 σ H3 _ I3 q3) fun w' s4 ⟨z',H4,I4,r4,q4⟩=>thn (ho' pins s4 σ H4 y z' u w' _ I4 r2 r4 q4) fun d' s5 ⟨z2,H5,I5,r5,k2,e2,q5⟩=>?_));subst e2;cases r5;exact wpAny_truthy_bool ⟨H5,I5,q5⟩
def TruV (K:PySem.W.Frag)(x:V)(H:Hp)(k:Bool):Prop :=
 match x with
 | .non=>k=false
 | .bl b=>k=b
 | .int i=>k=(i != 0)
 | .str y=>y.length<=sizeLine/\k=((y.length:Int) != 0)
 | .byt y=>y.size<=sizeLine/\k=((y.size:Int) != 0)
 | .ref p=>(∃ xs,SqL K H p xs/\k = !xs.isEmpty)\/(∃ xs,SqT K H p xs/\k = !xs.isEmpty)\/∃ kvs,H p=some (.dK kvs)/\k = !kvs.isEmpty
 | _=>False
theorem isEmpty_kv {κ:Type}{kvs:List (κ×V)}{vs:List (κ×Value)}(r:KV kvs vs):(!vs.isEmpty) = !kvs.isEmpty:=by
 cases r <;> rfl
theorem isEmpty_of {xs:List V}{its:List Value}(r:Vals xs its):(!its.toArray.isEmpty) = !xs.isEmpty:=by
 cases r <;> simp
theorem line63:(sizeLine:Nat) < 2 ^ 63:=by rw[sizeLine_eq];decide
theorem tru_ok:TruR X (fun x H Q=>∃ k,TruV X.K x H k/\Q k H):=by
 intro pins s σ H x v Q I rx h;obtain⟨k,e,q⟩:=h;have hl:=line63;have hs:sizeLine=16777216:=sizeLine_eq;cases x with
 | non =>
  cases rx;have e':k=false:=e;subst e';exact truthy_none ⟨H,I,q⟩
 | bl b =>
  cases rx;have e':k=b:=e;subst e';exact wpAny_truthy_bool ⟨H,I,q⟩
 | int i =>
  obtain⟨t,rfl⟩:=rx;have e':k=(i != 0):=e;subst e';exact PySem.P.truthy_int ⟨H,I,q⟩
 | str y =>
  obtain⟨t,rfl⟩:=rx;obtain⟨hy,e'⟩:y.length<=sizeLine/\k=((y.length:Int) != 0):=e;subst e';exact PySem.P.truthy_str (by first | lia | omega) ⟨H,I.tok _,q⟩
 | byt y =>
  obtain⟨t,rfl⟩:=rx;obtain⟨hy,e'⟩:y.size<=sizeLine/\k=((y.size:Int) != 0):=e;subst e';exact PySem.W.truthy_bytes (by first | lia | omega) ⟨H,I.tok _,q⟩
 | ref p =>
  cases rx;have e':(∃ xs,SqL X.K H p xs/\k = !xs.isEmpty)\/(∃ xs,SqT X.K H p xs/\k = !xs.isEmpty)\/∃ kvs,H p=some (.dK kvs)/\k = !kvs.isEmpty:=e;rcases e' with ⟨xs,hx,e'⟩|⟨xs,hx,e'⟩|⟨kvs,hx,e'⟩
  ·subst e'
   obtain⟨its,r,pl,hz⟩:=I.list hx;have hlen:=r.length;exact wpAny_truthy_list pl.isList (by simp only[List.size_toArray];omega) ⟨H,I.tok _,by rw[isEmpty_of r];exact q⟩
  ·subst e'
   obtain⟨its,r,pl,hz⟩:=I.tuple hx;have hlen:=r.length;exact truthy_tuple pl (by simp only[List.size_toArray];omega) ⟨H,I.tok _,by rw[isEmpty_of r];exact q⟩
  ·subst e'
   obtain⟨hz,hS,vs,r,m⟩:kvs.length<=sizeLine/\(p==sysModules)=false/\∃ vs,KV kvs vs/\s.heap.DictOf (mixKind X.prog X.w) p vs:=I.hok p _ hx;have hlen:kvs.length=vs.length:=Paired.length r;exact wpAny_truthy_dict hS m (by first | lia | omega) ⟨H,I.tok _,by rw[isEmpty_kv r];exact q⟩
 | _=>exact(show False from e).elim
theorem op_add_str:OpR X (binaryOp .Add) (fun x y H Q=>∃ i j,x=.str i/\y=.str j/\i.length + j.length<=sizeLine/\Q (.str (i++j)) H):=by
 intro pins s σ H x y v u Q I rx ry h;obtain⟨i,j,rfl,rfl,hz,q⟩:=h;obtain⟨t,rfl⟩:=rx;obtain⟨t',rfl⟩:=ry;exact add_str (fun t' tk=>⟨.str (i++j),H,I.tok _,⟨_,rfl⟩,q⟩) hz
theorem vals1 {x:V}{us:List Value}(r:Vals [x] us):∃ u,us=[u]/\RelV x u:=by
 cases r with
 | cons r1 r2=>cases r2;exact⟨_,rfl,r1⟩
theorem vals2 {x y:V}{us:List Value}(r:Vals [x,y] us):∃ u w',us=[u,w']/\RelV x u/\RelV y w':=by
 cases r with
 | cons r1 r2 =>
  cases r2 with
  | cons r3 r4=>cases r4;exact⟨_,_,rfl,r1,r3⟩
end
end L2
namespace L2
open PySem PySem.Spec PyProof.Rows
section
variable {prog:Program}{w:World}{A:Around}{E:Value->Shared->Prop}{s:Shared}{K:PySem.W.Frag}{x dx C f:Addr}{mA:Str->Option Value}{name:Str}{v:Value}
end
theorem RelO.some_of {v:V}{o:Option Value}(r:RelO (some v) o):∃ u,o=some u/\RelV v u:=by
 cases o with
 | none=>exact(show False from r).elim
 | some u=>exact⟨u,rfl,r⟩
section
variable {P:Program}{w:World}{H H':Hp}{h h':Heap}{a C dx:Addr}{fs fs':List (Str×V)}
end
section
variable {X:Cx}{pins:List (Addr×Obj)}{σ:St}{H:Hp}{s:Shared}{a C dx:Addr}{fs:List (Str×V)}{f:Str}{v:V}{A:Around}{E:Value->Shared->Prop}
theorem attr_of {prog:Program}{w:World}{env:Env}{e:Expr}{f:Str}{pos:Pos}{s:Shared}{Q:Value->Shared->Prop}(hb:attributeBase e f env (eval e env)=eval e env)
  (h:wpAny (model prog w) A (eval e env) (fun o s₁=>wpAny (model prog w) A (getAttr o f true) Q E s₁) E s):wpAny (model prog w) A (eval (.Attribute e f pos) env) Q E s :=
 Attribute_any_ h (by rw[arm_eval_Attribute,hb])
end
section
variable {X:Cx}{o e value:Expr}{f:Str}{pos pos' tpos:Pos}{ta tv:TE}
end
section
variable {X:Cx}{pins:List (Addr×Obj)}{σ:St}{H:Hp}{s:Shared}{A:Around}{E:Value->Shared->Prop}{Q:Value->Shared->Prop}{c:Value}{b:Bool}
end
end L2
namespace L2
open PySem PySem.Spec PyProof.Rows
structure Room (k:Nat) (A:Around):Prop where
 hd:A.handled=none
 dp:A.depth + 3 * k + 5 < recursionLimit
 un:A.units + 16 * k + 200 < cLine
 gd:A.guards=some []
theorem Room.mono {j k:Nat}{A:Around}(r:Room k A)(h:j<=k):Room j A:=⟨r.hd,by have:=r.dp;omega,by have:=r.un;omega,r.gd⟩
theorem Room.deeper {k:Nat}{A:Around}(r:Room (k + 1) A)(env:Env):Room k (A.deeper env) :=
 ⟨r.hd,by have:=r.dp;show A.depth + 1 + 3 * k + 5 < _;omega,by have:=r.un;show A.units + 3 + 16 * k + 200 < _;omega,r.gd⟩
theorem make_depth {A:Around}{C:Addr}{us:List Value}{kw:List (Str×Value)}:(A.under (.builtin "type.__call__" ⟨.ref C::us,kw⟩)).depth=A.depth + 1:=by
 first | rfl | simp[Around.under,Code.weight,Code.isCreation,Code.isGuard,Code.isCaller,Code.frames,Code.isFrame,guardIds]
theorem make_units {A:Around}{C:Addr}{us:List Value}{kw:List (Str×Value)}:(A.under (.builtin "type.__call__" ⟨.ref C::us,kw⟩)).units=A.units + 1:=by
 first | rfl | simp[Around.under,Code.cUnits,Code.frames,Code.isFrame]
theorem Room.make {k:Nat}{A:Around}(r:Room (k + 1) A)(C:Addr)(us:List Value)(kw:List (Str×Value)):Room k (A.under (.builtin "type.__call__" ⟨.ref C::us,kw⟩)) :=
 ⟨r.hd,by have:=r.dp;rw[make_depth];omega,by have:=r.un;rw[make_units];omega,r.gd⟩
theorem Room.depth {k:Nat}{A:Around}(r:Room k A):A.depth < recursionLimit:=by have:=r.dp;omega
def tNil:TA:=fun _ H Q=>Q [] H
def tCons (ta:TE)(tr:TA):TA:=fun σ H Q=>ta σ H fun x H1=>tr σ H1 fun xs H2=>Q (x::xs) H2
section
variable {X:Cx}{e:Expr}{es:List Expr}{te:TE}{t:TA}{pos:Pos}
theorem pa_nil:PA X [] tNil:=fun _ _ _ _ H Q I h=>Calls.spliced_nil ⟨[],H,I,.nil,h⟩
theorem pa_cons (ha:PE X e te)(hr:PA X es t)(hs:starEach (e::es) X.env=(false,eval e X.env)::starEach es X.env:=by rfl):PA X (e::es) (tCons te t):=by
 intro pos pins s σ H Q I h;rw[hs];show wpAny _ _ (spliced ((false,eval e X.env)::backTo pos (starEach es X.env))) _ _ s;refine Calls.spliced_cons (thn (ha pins s σ H _ I h) fun u s1 ⟨x,H1,I1,r1,q1⟩=>?_);exact thn (hr pos pins s1 σ H1 _ I1 q1) fun us s2 ⟨xs,H2,I2,r2,q2⟩=>⟨x::xs,H2,I2,.cons r1 r2,q2⟩
def tTup (t:TA):TE:=fun σ H Q=>t σ H fun xs H1=>xs.length<=sizeLine/\∀ p,H1 p=none->Q (.ref p) (upd H1 p (.tup xs))
def tLst (t:TA):TE:=fun σ H Q=>t σ H fun xs H1=>xs.length<=sizeLine/\∀ p,H1 p=none->Q (.ref p) (upd H1 p (.lst xs))
theorem pe_tup {x1}(h:PA X es t):PE X (.Tuple es x1 pos) (tTup t):=by
 intro pins s σ H Q I hq;refine wpAny_Tuple_spliced (thn (h pos pins s σ H _ I hq) fun us s1 ⟨xs,H1,I1,r,z,q⟩=>⟨by rw[<- r.length];exact z,?_⟩);have hf:H1 s1.heap.objs.size=none:=I1.hok.fresh (Nat.le_refl _);refine⟨.ref s1.heap.objs.size,upd H1 s1.heap.objs.size (.tup xs),I1.laid (t':=s1.toks) (fun b u e=>Heap.get?_push_of_some _ e) (Nat.le_refl _) ?_,rfl,q _ hf⟩;exact⟨z,us,r,TupN.new _ _⟩
theorem pe_lst (h:PA X es t):PE X (.List es pos) (tLst t):=by
 intro pins s σ H Q I hq;refine wpAny_List_spliced (thn (h pos pins s σ H _ I hq) fun us s1 ⟨xs,H1,I1,r,z,q⟩=>⟨by rw[<- r.length];exact z,?_⟩);have hf:H1 s1.heap.objs.size=none:=I1.hok.fresh (Nat.le_refl _);refine⟨.ref s1.heap.objs.size,upd H1 s1.heap.objs.size (.lst xs),I1.laid (t':=s1.toks) (fun b u e=>Heap.get?_push_of_some _ e) (Nat.le_refl _) ?_,rfl,q _ hf⟩;exact⟨z,us,0,r,Heap.get?_push_size _ rfl⟩
end
abbrev Sp:=List V->Hp->VK->XK->Prop
abbrev CXT:=List Env->Hp->Shared->XK->Value->Shared->Prop
structure Env0 (P:Program) (w:World) (K:PySem.W.Frag) (mg:Str->Option Value) (base:Heap) (A:Around) (outer:List Env) (s:Shared) (H:Hp):Prop where
 frames:A.frames=some outer
 mod:Mod K mg base
 bs:∀ b o,base.get? b=some o->s.heap.get? b=some o/\H b=none
 bsz:base.objs.size<=s.heap.objs.size
 funs:s.heap.FunFrames base outer
 frf:∀ b∈frs outer,H b=none
 hok:HOk P w H s.heap
 bare:AllBare s.gens
def CE (outer:List Env)(P:Program)(w:World)(H:Hp)(s:Shared)(Q:VK)(u:Value)(s':Shared):Prop :=
 ∃ v H',s'.os=s.os/\AllBare s'.gens/\Un (frs outer) [] H H' s.heap s'.heap/\HOk P w H' s'.heap/\RelV v u/\Q v H'
def CR (CX:CXT)(outer:List Env)(P:Program)(w:World)(H:Hp)(s:Shared)(Q:VK)(E:XK)(r:Result)(s':Shared):Prop :=
 match r with
 | .ok (.ret u)=>CE outer P w H s Q u s'
 | .ok _=>False
 | .error e=>CX outer H s E e s'
structure FnOk (P:Program) (w:World) (K:PySem.W.Frag) (mg:Str->Option Value) (base:Heap) (CX:CXT) (k:Nat) (f:Addr) (fd:FuncData) (ps:List Str) (sp:Sp):Prop where
 len:∀ vs H Q E,sp vs H Q E->vs.length=ps.length
 run:∀ (A:Around) (outer:List Env) (s:Shared) (H:Hp) (args:Args) (us:List Value) (vs:List V) (Q:VK) (E:XK),Room k A->Env0 P w K mg base A outer s H->BindsTo s fd args (ps.zip us)->Vals vs us->sp vs H Q E ->
  codeAny (model P w) A (.call (.ref f) args) (CR CX outer P w H s Q E) s
theorem Env0.make {P:Program}{w:World}{K:PySem.W.Frag}{mg:Str->Option Value}{base:Heap}{A:Around}{outer:List Env}{s:Shared}{H:Hp}(e:Env0 P w K mg base A outer s H)(C:Addr)(us:List Value)(kw:List (Str×Value)) :
  Env0 P w K mg base (A.under (.builtin "type.__call__" ⟨.ref C::us,kw⟩)) outer s H:=⟨by first | exact e.frames | (simpa [Around.under,Code.envs,Code.isFrame,pushEnvs] using e.frames),e.mod,e.bs,e.bsz,e.funs,e.frf,e.hok,e.bare⟩
section
variable {X:Cx}{pins:List (Addr×Obj)}{σ:St}{H:Hp}{s s':Shared}
theorem Inv.env0 (I:Inv X pins σ H s):Env0 X.prog X.w X.K X.mg X.base X.A X.stack s H :=
 ⟨I.ok.frames,I.ok.mod,I.bs,Nat.le_trans I.ok.bsz I.sz,I.stack,I.stkFree,I.hok,I.bare⟩
theorem Inv.after {Q:VK}{u:Value}(I:Inv X pins σ H s)(h:CE X.stack X.prog X.w H s Q u s'):EP X pins σ Q u s':=by
 obtain⟨v,H',os,bare,un,hok,r,q⟩:=h;obtain⟨hh,g,d,t,os'⟩:=s';obtain rfl:os'=s.os:=os;exact⟨v,H',I.call (h':=hh) (g':=g) (d':=d) (t':=t) (ch:=[]) un hok bare (fun b z=>absurd z (by simp)),r,q⟩
end
def tCall (sp:Sp)(dvs:List V)(E:XK)(t:TA):TE:=fun σ H Q=>t σ H fun vs H1=>sp (vs++dvs) H1 Q E
def Binds (K:PySem.W.Frag)(fd:FuncData)(ps:List Str)(ds:List Value):Prop :=
 ∀ (s:Shared) (us:List Value),K.In s.heap->(us++ds).length=ps.length->BindsTo s fd ⟨us,[]⟩ (ps.zip (us++ds))
theorem Binds.all {K:PySem.W.Frag}{fd:FuncData}{ps:List Str}(h:∀ us:List Value,us.length=ps.length->bindArgs fd ⟨us,[]⟩=pure (ps.zip us)):Binds K fd ps []:=fun s us _ hl=>by
 rw[List.append_nil]at hl ⊢;exact .of_eq (h us hl)
def Passes (CX:CXT)(X:Cx)(E:XK):Prop:=∀ (pins:List (Addr×Obj)) (σ:St) (H:Hp) (s:Shared) (e:Value) (s':Shared),Inv X pins σ H s->CX X.stack H s E e s'->X.xe e s'
section
variable {X:Cx}{CX:CXT}{k:Nat}{f C:Addr}{fd:FuncData}{ps:List Str}{sp:Sp}{dvs:List V}{ds:List Value}{E:XK}{x m:Str}{p pos apos:Pos}{e o:Expr}{es:List Expr}{ta:TE}{t:TA}
theorem run_fn {pins:List (Addr×Obj)}{σ:St}{H:Hp}{s:Shared}{Q:VK}{us:List Value}{vs:List V}(F:FnOk X.prog X.w X.K X.mg X.base CX k f fd ps sp)(hr:Room k X.A)(hb:Binds X.K fd ps ds)(hd:Vals dvs ds)(hx:Passes CX X E)
  (I:Inv X pins σ H s) (r:Vals vs us) (h:sp (vs++dvs) H Q E):wpAny (model X.prog X.w) X.A (call (.ref f) us) (EP X pins σ Q) X.xe s:=by
 have r2:Vals (vs++dvs) (us++ds):=r.append hd;have hl:(us++ds).length=ps.length:=by rw[<- r2.length];exact F.len _ _ _ _ h
 refine wpAny_call (codeAny_mono (F.run X.A X.stack s H ⟨us,[]⟩ (us++ds) (vs++dvs) Q E hr I.env0 (hb s us I.kIn hl) r2 h) fun r s' hq=>?_);cases r with
 | error e=>exact hx pins σ H s e s' I hq
 | ok fl =>
  cases fl with
  | ret u=>exact I.after hq
  | next=>exact False.elim hq
  | brk=>exact False.elim hq
  | cont=>exact False.elim hq
theorem pe_call (F:FnOk X.prog X.w X.K X.mg X.base CX k f fd ps sp)(hr:Room k X.A)(hg:Gl X x)(hm:X.mg x=some (.ref f))(hk:PySem.W.keepIn X.K (.ref f)=true)(hb:Binds X.K fd ps ds)(hd:Vals dvs ds)(hx:Passes CX X E)
  (ha:PA X (e::es) t) (hdb:(x==("__debug__" : Str))=false:=by decide) (he:starEach (e::es) X.env=(false,eval e X.env)::starEach es X.env:=by rfl) (hpl:(backTo pos (starEach es X.env)).any (·.1)=false:=by rfl) :
  PE X (.Call (.Name x p) (e::es) [] pos) (tCall sp dvs E t):=by
 intro pins s σ H Q I h;refine wpAny_Call_Name_kw (ld_glob I hg hm ?_ hdb);refine PySem.W.callWith_K (h₀:=X.base) I.ok.mod.kin hk (thn (ha pos pins s σ H _ I h) fun us s1 ⟨vs,H1,I1,r,q⟩=>⟨I1.kIn,?_⟩) he hpl;exact run_fn F hr hb hd hx I1 r q
end
section
variable {X:Cx}{CX:CXT}{k:Nat}{f C:Addr}{fd:FuncData}{ps ks:List Str}{sp:Sp}{E:XK}{x m:Str}{p pos apos kpos:Pos}{e o:Expr}{es:List Expr}{kws:List Keyword}{te ta:TE}{t tk:TA}{nm:Option Str}
variable {g:List Value->List Value->List Value}{gV:List V->List V->List V}
end
structure FnScope (N P:List Str) (sc:Scope):Prop where
 kind:sc.kind=.function
 co:sc.isCoroutine=false
 gen:sc.isGenerator=false
 nd:N.Nodup
 pre:N.take P.length=P
 par:∀ x∈P,sc.names.lookup x=some .local\/sc.names.lookup x=some .cell
 nofree:∀ y∈sc.names,y.2≠.free
theorem bindL_out {kindOf:Str->Option NameKind}{x:Str}:∀ {binds:List (Str×Value)} {m:Str->Option Value},(∀ v,(x,v) ∉ binds)->bindL kindOf binds m x=m x
 | [],_,_=>rfl
 | (n,v)::r,m,h=>by
  unfold bindL;rw[bindL_out fun w hw=>h w (List.mem_cons_of_mem _ hw)];split
  ·have:x≠n:=by rintro rfl;exact h v List.mem_cons_self
   simp[this]
  ·rfl
theorem bindC_out {kindOf:Str->Option NameKind}{x:Str}:∀ {binds:List (Str×Value)} {m:Str->Option Value},(∀ v,(x,v) ∉ binds)->bindC kindOf binds m x=m x
 | [],_,_=>rfl
 | (n,v)::r,m,h=>by
  unfold bindC;rw[bindC_out fun w hw=>h w (List.mem_cons_of_mem _ hw)];split
  ·rfl
  ·have:x≠n:=by rintro rfl;exact h v List.mem_cons_self
   simp[this]
theorem bindL_get {kindOf:Str->Option NameKind}{x:Str}{v:Value}:∀ {P:List Str} {vs:List Value} {i:Nat} {m:Str->Option Value},P.Nodup->P[i]?=some x->vs[i]?=some v->kindOf x=some .local ->
  bindL kindOf (P.zip vs) m x=some v
 | [],_,_,_,_,h,_,_=>by simp at h
 | _::_,[],_,_,_,_,h,_=>by simp at h
 | p::P,w::vs,0,m,nd,h1,h2,hk=>by
  simp at h1 h2;subst h1;subst h2;show bindL kindOf ((p,w)::P.zip vs) m p=_;unfold bindL;rw[bindL_out fun v hv=>(List.nodup_cons.mp nd).1 (List.of_mem_zip hv).1,if_pos hk];simp
 | p::P,w::vs,i + 1,m,nd,h1,h2,hk=>by
  show bindL kindOf ((p,w)::P.zip vs) m x=_;unfold bindL;exact bindL_get (i:=i) (List.nodup_cons.mp nd).2 (by simpa using h1) (by simpa using h2) hk
theorem bindC_get {kindOf:Str->Option NameKind}{x:Str}{v:Value}:∀ {P:List Str} {vs:List Value} {i:Nat} {m:Str->Option Value},P.Nodup->P[i]?=some x->vs[i]?=some v->kindOf x≠some .local ->
  bindC kindOf (P.zip vs) m x=some v
 | [],_,_,_,_,h,_,_=>by simp at h
 | _::_,[],_,_,_,_,h,_=>by simp at h
 | p::P,w::vs,0,m,nd,h1,h2,hk=>by
  simp at h1 h2;subst h1;subst h2;show bindC kindOf ((p,w)::P.zip vs) m p=_;unfold bindC;rw[bindC_out fun v hv=>(List.nodup_cons.mp nd).1 (List.of_mem_zip hv).1,if_neg hk];simp
 | p::P,w::vs,i + 1,m,nd,h1,h2,hk=>by
  show bindC kindOf ((p,w)::P.zip vs) m x=_;unfold bindC;exact bindC_get (i:=i) (List.nodup_cons.mp nd).2 (by simpa using h1) (by simpa using h2) hk
def start (N:List Str)(vs:List V):St:=vs.map some++List.replicate (N.length - vs.length) none
def cxOf (CX:CXT)(P:Program)(w:World)(K:PySem.W.Frag)(mg:Str->Option Value)(base:Heap)(N:List Str)(qual:Str)(scope:Scope)(f:Addr)(cd:Value)(A:Around)(outer:List Env)(s:Shared)(H:Hp)(E:XK):Cx where
 prog:=P
 w:=w
 K:=K
 mg:=mg
 base:=base
 A:=A.deeper (envOfC qual scope s.heap.objs.size f cd)
 N:=N
 s₀:=s
 H₀:=H
 env:=envOfC qual scope s.heap.objs.size f cd
 outer:=outer
 stack:=envOfC qual scope s.heap.objs.size f cd::outer
 ex:=[]
 calm:=true
 fn:=fun _=>true
 pn:=[]
 xe:=fun e s'=>wpAny (model P w) (A.deeper (envOfC qual scope s.heap.objs.size f cd)) (leaving (envOfC qual scope s.heap.objs.size f cd) e) (fun _ s''=>CX outer H s E e s'') (fun e' s''=>CX outer H s E e' s'') s'
theorem cell_has {sc:Scope}{n:Nat}{x:Str}(h:sc.names.lookup x=some .cell):∃ c,(cellsFrom n sc.names []).lookup x=some c:=by
 have q:=PySem.W.cellsFrom_some sc.names n [] (.inl h);exact Option.isSome_iff_exists.mp q
theorem inv_start {CX:CXT}{P:Program}{w:World}{K:PySem.W.Frag}{mg:Str->Option Value}{base:Heap}{N ps:List Str}{qual:Str}{scope:Scope}{f:Addr}{cd:Value}{A:Around}{outer:List Env}{s s1:Shared}{H:Hp}{E:XK}{us:List Value}{vs:List V}
  (S:FnScope N ps scope) (hd:A.handled=none) (e0:Env0 P w K mg base A outer s H) (hl:vs.length=ps.length) (r:Vals vs us)
  (x:InCallC s s.heap.objs.size (bindL (envOfC qual scope s.heap.objs.size f cd).kindOf (ps.zip us) fun _=>none) (cellsFrom (s.heap.objs.size + 1) scope.names []) (bindC (envOfC qual scope s.heap.objs.size f cd).kindOf (ps.zip us) fun _=>none) s1) :
  Inv (cxOf CX P w K mg base N qual scope f cd A outer s H E) [] (start N vs) H s1:=by
 have hpl:ps.length<=N.length:=by have:=congrArg List.length S.pre;rw[List.length_take]at this;omega
 obtain⟨h1,tk,rfl,hk⟩:=x.done;have noA:∀ b:Addr,b ∉ (cxOf CX P w K mg base N qual scope f cd A outer s H E).ex:=fun b z=>absurd (show b∈([]:List Addr) from z) (by simp);refine⟨⟨e0.mod,S.kind,rfl,rfl,Nat.le_refl _,fun y z c h1 h2=>?_,fun y hy=>?_,fun y c _ h=>?_,fun _=>hd,Around.frames_deeper e0.frames,.inr ⟨rfl,rfl⟩,fun b z=>absurd z (noA b),e0.bs,e0.bsz,fun b _ _=>noA b,fun b z=>absurd z (noA b),e0.funs,e0.frf⟩,
  rfl,e0.bare,Un.kept hk,⟨_,x.toInCall.ns,fun i y v h1 h2 h3=>?_⟩,fun y c h=>⟨_,x.cell y c h⟩,e0.hok.fresh (Nat.le_refl _),fun y c h=>?_,fun p hp=>absurd (show p∈([]:List (Addr×Obj)) from hp) (by simp),e0.hok.kept hk,?_⟩
 ·exact name_of_addr x.apart (PySem.mem_of_lookup h1) (PySem.mem_of_lookup h2)
 ·have hy:scope.names.lookup y=some .cell\/scope.names.lookup y=some .free:=hy
  rcases hy with hy | hy
  ·exact cell_has hy
  ·exact absurd rfl (S.nofree _ (PySem.mem_of_lookup hy))
 ·exact Nat.le_of_lt (x.above y c (PySem.mem_of_lookup h))
 ·have hi:i < vs.length:=by
   unfold start at h2;by_cases hi:i < vs.length
   ·exact hi
   ·rw[List.getElem?_append_right (by simpa using hi)]at h2
    rw[List.getElem?_replicate]at h2;split at h2 <;> cases h2
  have ha:vs[i]?=some v:=by
   unfold start at h2;rw[List.getElem?_append_left (by simpa using hi),List.getElem?_map]at h2;cases e:vs[i]? with
   | none=>rw[e]at h2;cases h2
   | some a=>rw[e]at h2;cases h2;rfl
  obtain⟨u,hu,rv⟩:=r.get ha;have hp:ps[i]?=some y:=by
   rw[<- S.pre,List.getElem?_take_of_lt (by first | lia | omega)];exact h1
  have ndP:ps.Nodup:=by rw[<- S.pre];exact S.nd.sublist (List.take_sublist _ _)
  refine⟨u,rv,?_⟩;rcases S.par y (List.mem_of_getElem? hp) with k | k
  ·exact .inl ⟨k,bindL_get ndP hp hu k⟩
  ·obtain⟨c,e⟩:=cell_has (n:=s.heap.objs.size + 1) k
   refine .inr ⟨.inl k,c,e,?_⟩;have q:=x.cell y c e;rw[bindC_get ndP hp hu (by show scope.names.lookup y≠_;rw[k];decide)]at q;exact q
 ·exact e0.hok.fresh (Nat.le_of_lt (x.above y c (PySem.mem_of_lookup h)))
 ·unfold start
  show _=N.length;rw[List.length_append,List.length_map,List.length_replicate];first | lia | omega
theorem fn_of {CX:CXT}{P:Program}{w:World}{K:PySem.W.Frag}{mg:Str->Option Value}{base:Heap}{k:Nat}{f:Addr}{name qual:Str}{params:Arguments}{body:List Stmt}{scope:Scope}{dV kV doc pm cdv ct oc:Value}{an od:Option Addr}
  {osl:Array (Option Value)} {N ps:List Str} {sp:Sp} (lk:K.lookup f=some ⟨oc,od,.func (PySem.W.fnOf name qual params body scope dV kV doc pm an cdv ct),osl⟩) (hcd:PySem.W.codeIn K cdv qual=true) (S:FnScope N ps scope)
  (len:∀ vs H Q E,sp vs H Q E->vs.length=ps.length)
  (hbody:∀ (A:Around) (outer:List Env) (s:Shared) (H:Hp) (vs:List V) (Q:VK) (E:XK),Room k (A.deeper (envOfC qual scope s.heap.objs.size f cdv))->sp vs H Q E ->
   ∃ t,PSs (cxOf CX P w K mg base N qual scope f cdv A outer s H E) body t/\t { nx:=fun _ H'=>Q .non H',rt:=Q } (start N vs) H) :
  FnOk P w K mg base CX (k + 1) f (PySem.W.fnOf name qual params body scope dV kV doc pm an cdv ct) ps sp:=by
 refine⟨len,fun A outer s H args us vs Q E hr e0 hb r hsp=>?_⟩;have hl:=len _ _ _ _ hsp;have KX:K.In s.heap:=e0.mod.kin.keeps fun b o e=>(e0.bs b o e).1;have lim:s.heap.NoLimit:=e0.mod.nolimit.keeps fun b o e=>(e0.bs b o e).1;have hkind:∀ y∈ps.zip us,scope.names.lookup y.1=some .local\/(scope.names.lookup y.1=some .cell/\((cellsFrom (s.heap.objs.size + 1) scope.names []).lookup y.1).isSome=true):=fun ⟨n,v⟩ hy=>by
  rcases S.par n (List.of_mem_zip hy).1 with q | q
  ·exact .inl q
  ·exact .inr ⟨q,PySem.W.cellsFrom_some _ _ _ (.inl q)⟩
 refine codeAny_call_function hr.depth (KX _ _ lk) rfl S.co S.gen rfl (PySem.W.codeRec_of KX hcd) (hb _ _ _ _ ?_);refine wpAny_newFunctionEnv_cells S.kind hkind fun env he s1 x=>?_;subst he;refine⟨lim.keeps x.toInCall.keep,codeAny_func ?_⟩;obtain⟨t,ht,hq⟩:=hbody A outer s H vs Q E (hr.deeper _) hsp;have I:Inv (cxOf CX P w K mg base N qual scope f cdv A outer s H E) [] (start N vs) H s1:=inv_start S hr.hd e0 hl r x;refine wpAny_mono (ht [] s1 (start N vs) H _ I hq) (fun fl s' hs=>?_) fun e s' hs=>hs;have fin:∀ {σ':St} {H':Hp} {v:V} {u:Value},Inv (cxOf CX P w K mg base N qual scope f cdv A outer s H E) [] σ' H' s'->RelV v u->Q v H'->CE outer P w H s Q u s' :=
  fun {σ' H' v u} J rv q=>⟨v,H',J.os,J.bare,J.base,J.hok,rv,q⟩
 cases fl with
 | ret u =>
  obtain⟨v,σ',H',J,rv,q⟩:=hs;exact fin J rv q
 | next =>
  obtain⟨σ',H',J,q⟩:=hs;exact fin (v:=V.non) (u:=Value.none) J rfl q
 | brk =>
  obtain⟨_,_,_,q⟩:=hs;exact False.elim q
 | cont =>
  obtain⟨_,_,_,q⟩:=hs;exact False.elim q
end L2
namespace L2
open PySem PySem.Spec PyProof.Rows
section
variable {X:Cx}{x:Str}{p pos:Pos}{e:Expr}{es:List Expr}{t:TA}{id T:String}{r:List V->Hp->VK->Prop}
def tCB (r:List V->Hp->VK->Prop)(t:TA):TE:=fun σ H Q=>t σ H fun vs H1=>r vs H1 Q
theorem pe_callB (hc:CallR X (.builtin id) r)(hg:Gl X x)(hm:X.mg x=none)(hv:bootBuiltins x=some (.builtin id))(ha:PA X (e::es) t)(hn:x≠"__name__":=by decide)(hdb:(x==("__debug__" : Str))=false:=by decide)
  (he:starEach (e::es) X.env=(false,eval e X.env)::starEach es X.env:=by rfl) (hpl:(backTo pos (starEach es X.env)).any (·.1)=false:=by rfl):PE X (.Call (.Name x p) (e::es) [] pos) (tCB r t):=by
 intro pins s σ H Q I h;refine wpAny_Call_Name_kw (ld_blt I hg hm hv ?_ hn hdb);exact PyProof.Rows.callWith_builtin1 (thn (ha pos pins s σ H _ I h) fun us s1 ⟨vs,H1,I1,r1,q1⟩=>hc pins s1 σ H1 vs us Q I1 r1 q1) he hpl
theorem pe_callTy (hc:CallR X (.type T) r)(hg:Gl X x)(hm:X.mg x=none)(hv:bootBuiltins x=some (.type T))(ha:PA X (e::es) t)(hn:x≠"__name__":=by decide)(hdb:(x==("__debug__" : Str))=false:=by decide)
  (he:starEach (e::es) X.env=(false,eval e X.env)::starEach es X.env:=by rfl) (hpl:(backTo pos (starEach es X.env)).any (·.1)=false:=by rfl):PE X (.Call (.Name x p) (e::es) [] pos) (tCB r t):=by
 intro pins s σ H Q I h;refine wpAny_Call_Name_kw (ld_blt I hg hm hv ?_ hn hdb);exact PyProof.Rows.callWith_type1 (thn (ha pos pins s σ H _ I h) fun us s1 ⟨vs,H1,I1,r1,q1⟩=>hc pins s1 σ H1 vs us Q I1 r1 q1) he hpl
end
end L2
namespace HT
open PySem PyProof.Rows
section
open PySem.SeqAt
open PySem.AutoSeq1 (wpAny_loadPart')
open PySem.MeetsSeq PySem.MeetsSeq2 PySem.MeetsSeq3
end
section
variable {prog:Program}{w:World}{A:Around}{E:Value->Shared->Prop}{s:Shared}
theorem cat_tup {t b:Addr}{vs ws:List Value}{Q:Value->Shared->Prop}(ht:IsTup s.heap t vs.toArray)(hb:IsTup s.heap b ws.toArray)(hv:vs≠[])
  (h1:ws=[]->Q (.ref t) s) (h2:ws≠[]->Q (.ref s.heap.objs.size) { s with heap:=s.heap.push { cls:=.type "tuple",data:=.seq (vs++ws).toArray } })
  (hsz:vs.length + ws.length<=sizeLine):wpAny (model prog w) A (binaryOp .Add (.ref t) (.ref b)) Q E s:=by
 obtain⟨⟨cls,dd,data,sl⟩,ho,hc,n,hd⟩:=id ht;obtain⟨⟨cls2,dd2,data2,sl2⟩,ho2,hc2,n2,hd2⟩:=id hb;simp only at hc hd hc2 hd2;subst hc hd hc2 hd2;have e:vs.toArray++ws.toArray=(vs++ws).toArray:=by simp
 by_cases hw:ws=[]
 ·exact concat_meets ⟨_,ho,rfl⟩ ⟨_,ho2,rfl⟩ noFill_tuple_add seq_tuple_add PySem.F.slot_tuple_add PySem.F.entry_tuple_add (PySem.F.args_tuple_add_2 _ _)
   (tuple_addW1 t b vs.toArray ws.toArray n n2 dd dd2 sl sl2 (by simpa using hv) (by simp[hw])) ⟨ho,ho2,h1 hw⟩
 ·refine concat_meets ⟨_,ho,rfl⟩ ⟨_,ho2,rfl⟩ noFill_tuple_add seq_tuple_add PySem.F.slot_tuple_add PySem.F.entry_tuple_add (PySem.F.args_tuple_add_2 _ _)
   (tuple_addW2 t b vs.toArray ws.toArray n n2 dd dd2 sl sl2 (by simpa using hv) (by simpa using hw) (by rw[List.size_toArray,List.size_toArray];exact hsz)) ⟨ho,ho2,?_⟩
  rw[e];exact h2 hw
def sIx (n d:Nat):Option Int->Nat
 | none=>d
 | some v=>if v < 0 then (v + (n:Int)).toNat else min v.toNat n
theorem sIx_le (n d:Nat)(hd:d<=n)(o:Option Int):sIx n d o<=n:=by
 cases o with
 | none=>exact hd
 | some v =>
  show (if v < 0 then (v + (n:Int)).toNat else min v.toNat n)<=n;by_cases hv:v < 0
  ·rw[if_pos hv];omega
  ·rw[if_neg hv];exact Nat.min_le_right _ _
theorem clip_eq (v:Int)(n d:Nat):(if v < 0 then max (v + (n:Int)) 0 else min v (n:Int))=((sIx n d (some v):Nat):Int):=by
 show (if v < 0 then max (v + (n:Int)) 0 else min v (n:Int))=(((if v < 0 then (v + (n:Int)).toNat else min v.toNat n):Nat):Int);by_cases hv:v < 0
 ·simp only[if_pos hv];omega
 ·simp only[if_neg hv];omega
theorem adjust_gen (lo hi:Option Int)(n:Nat):Builtin.Slice.sliceAdjust lo hi 1 (n:Int)=(((sIx n 0 lo:Nat):Int),((sIx n n hi:Nat):Int)):=by
 have h1:¬ ((1:Int) < 0):=by first | lia | omega
 unfold Builtin.Slice.sliceAdjust;simp only[h1,if_false];refine Prod.ext ?_ ?_
 ·cases lo with
  | none=>rfl
  | some v=>exact clip_eq v n 0
 ·cases hi with
  | none=>rfl
  | some v=>exact clip_eq v n n
theorem places_gen (i j:Nat):Builtin.Slice.slicePlaces (i:Int) (j:Int) 1=j - i:=by
 unfold Builtin.Slice.slicePlaces;have h1:(1:Int) > 0:=by first | lia | omega
 simp only[h1,if_true,Int.ediv_one];split <;> omega
theorem slicePart_ {v:Value}{o:Option Int}{Q:Option Int->Shared->Prop}(p:IsPart v o)(h:Q o s):wpAny (model prog w) A (Builtin.Slice.slicePartIndex v) Q E s:=by
 cases p with
 | none=>exact slicePart_none h
 | int i t=>exact slicePart_int h
theorem sliceApplied_gen {sl:Addr}{vl vu:Value}{lo hi:Option Int}{n:Nat}{Q:Int×Int×Nat->Shared->Prop}(hs:s.heap.IsSliceOf sl vl vu .none)(pl:IsPart vl lo)(pu:IsPart vu hi)
  (h:Q (((sIx n 0 lo:Nat):Int),1,sIx n n hi - sIx n 0 lo) s):wpAny (model prog w) A (Builtin.Slice.sliceApplied (.ref sl) (pure (n:Int))) Q E s:=by
 obtain⟨os,hos,hcs,hds⟩:=id hs;unfold Builtin.Slice.sliceApplied Builtin.Slice.sliceFields;refine wpAny_bind (wpAny_bind (wpAny_field hos hds (x:=vl) rfl (wpAny_bind (wpAny_field hos hds (x:=vu) rfl (wpAny_bind (wpAny_field hos hds (x:=.none) rfl (wpAny_pure ?_)))))));refine wpAny_bind (slicePart_none ?_);show wpAny _ _ (if ((1:Int)==0)=true then _ else _) _ _ s;rw[if_neg (by decide)];refine wpAny_bind (slicePart_ pl (wpAny_bind (slicePart_ pu (wpAny_bind (wpAny_pure ?_)))));show wpAny _ _ (match Builtin.Slice.sliceAdjust lo hi 1 (n:Int) with | (lo,hi)=>pure (lo,(1:Int),Builtin.Slice.slicePlaces lo hi 1)) _ _ s;rw[adjust_gen lo hi n];show wpAny _ _ (pure (((sIx n 0 lo:Nat):Int),(1:Int),Builtin.Slice.slicePlaces ((sIx n 0 lo:Nat):Int) ((sIx n n hi:Nat):Int) 1)) _ _ s;rw[places_gen];exact wpAny_pure h
theorem pick_gen (xs:Array Value)(i k:Nat):((List.range k).filterMap fun (m:Nat)=>xs[((i:Int) + (m:Int) * 1).toNat]?).toArray=((xs.toList.drop i).take k).toArray:=by
 have e:(fun (m:Nat)=>xs[((i:Int) + (m:Int) * 1).toNat]?)=fun m=>xs[i + m]?:=by
  funext m
  have:((i:Int) + (m:Int) * 1).toNat=i + m:=by first | lia | omega
  rw[this]
 rw[e]
 have:=pick_run xs i k
 rw[List.filterMap_map]at this;have e2:((fun x=>xs[x]?) ∘ fun x=>i + x)=fun m=>xs[i + m]?:=rfl;rw[e2]at this;rw[this]
theorem getItem_tuple_cut {t sl:Addr}{items:Array Value}{vl vu:Value}{lo hi:Option Int}{Q:Value->Shared->Prop}(ht:IsTup s.heap t items)(hs:s.heap.IsSliceOf sl vl vu .none)(pl:IsPart vl lo)(pu:IsPart vu hi)
  (hw:¬ (sIx items.size 0 lo=0/\sIx items.size items.size hi=items.size))
  (h:Q (.ref s.heap.objs.size) { s with heap:=s.heap.push { cls:=.type "tuple",data:=.seq ((items.toList.drop (sIx items.size 0 lo)).take (sIx items.size items.size hi - sIx items.size 0 lo)).toArray } })
  (hsz:items.size<=sizeLine):wpAny (model prog w) A (getItem (.ref t) (.ref sl)) Q E s:=by
 have htake:sizeOk (.seq ((items.toList.drop (sIx items.size 0 lo)).take (sIx items.size items.size hi - sIx items.size 0 lo)).toArray):=by
  show ((items.toList.drop (sIx items.size 0 lo)).take (sIx items.size items.size hi - sIx items.size 0 lo)).toArray.size<=sizeLine;rw[List.size_toArray,List.length_take,List.length_drop,Array.length_toList];first | lia | omega
 have hj:sIx items.size items.size hi<=items.size:=sIx_le _ _ (Nat.le_refl _) hi;obtain⟨os,hos,hcs,hds⟩:=id hs;have hTs:s.TypeIs (.ref sl) "slice":=⟨os,hos,hcs⟩;unfold getItem
 try with_reducible refine wpAny_holding ?_
 first | refine wpAny_bind (wpAny_pure ?_) | skip
 refine wpAny_bind (wpAny_sequenceKey ht.typeIs (by decide) ?_);refine wpAny_bind (wpAny_callSpecial?_slot (name:=Str.ofString "__getitem__") ht.typeIs PyProof.Rows.slot_tuple_getitem
  (wpAny_call_entry PyProof.Rows.slot_tuple_getitem ht.typeIs entry_tuple_getitem ?_ (args_tuple_getitem _ _)))
 show wpAny _ _ (Builtin.Tuple.tupleItemsOf (.ref t) >>= _) _ _ s;refine wpAny_bind (tupleItemsOf_ ht ?_);refine wpAny_bind (wpAny_typeOf hTs ?_);rw[if_pos (by decide)];refine wpAny_bind (sliceApplied_gen hs pl pu ?_);have hno:¬ ((((sIx items.size 0 lo:Nat):Int)==0&&(1:Int)==1&&(sIx items.size items.size hi - sIx items.size 0 lo)==items.size)=true):=by
  intro q;rw[Bool.and_eq_true,Bool.and_eq_true]at q;have q1:((sIx items.size 0 lo:Nat):Int)=0:=eq_of_beq q.1.1;have q2:sIx items.size items.size hi - sIx items.size 0 lo=items.size:=eq_of_beq q.2;exact hw ⟨by omega,by omega⟩
 show wpAny _ _ (if (((sIx items.size 0 lo:Nat):Int)==0&&(1:Int)==1&&(sIx items.size items.size hi - sIx items.size 0 lo)==items.size)=true then _ else _) _ _ s;rw[if_neg hno,pick_gen]
 first
  | exact wpAny_bind (m:=Builtin.Tuple.tupleExact _) (wpAny_newObj_type (wpAny_pure ⟨_,rfl,wpAny_pure h⟩) htake)
  | exact wpAny_bind (m:=Builtin.Tuple.tupleExact _) (wpAny_newObj_type (wpAny_bind (wpAny_pure (wpAny_pure ⟨_,rfl,wpAny_pure h⟩))) htake)
  | exact wpAny_bind (wpAny_bind (m:=Builtin.Tuple.tupleExact _) (wpAny_newObj_type (wpAny_pure (wpAny_pure ⟨_,rfl,wpAny_pure h⟩)) htake))
  | exact wpAny_bind (wpAny_bind (m:=Builtin.Tuple.tupleExact _) (wpAny_newObj_type (wpAny_pure ⟨_,rfl,wpAny_pure h⟩) htake))
end
end HT
namespace L2
open PySem PySem.Spec PyProof.Rows
abbrev TO:=St->Hp->(Option Int->Hp->Prop)->Prop
def PO (X:Cx)(e:Option Expr)(t:TO):Prop :=
 ∀ (pins:List (Addr×Obj)) (s:Shared) (σ:St) (H:Hp) (Q:Option Int->Hp->Prop),Inv X pins σ H s->t σ H Q ->
  wpAny (model X.prog X.w) X.A (evalPart e X.env) (fun u s'=>∃ o H',Inv X pins σ H' s'/\IsPart u o/\Q o H') X.xe s
def tNoPart:TO:=fun _ H Q=>Q none H
def tPart (t:TE):TO:=fun σ H Q=>t σ H fun x H1=>∃ i,x=.int i/\Q (some i) H1
section
variable {X:Cx}{e:Expr}{te:TE}{lo hi:Option Expr}{tl th:TO}{pos p2:Pos}
theorem po_none:PO X none tNoPart:=by
 intro pins s σ H Q I h;rw[evalPart_none];exact wpAny_pure ⟨none,H,I,.none,h⟩
theorem po_some (h:PE X e te):PO X (some e) (tPart te):=by
 intro pins s σ H Q I hw;rw[evalPart_some];refine thn (h pins s σ H _ I hw) fun u s1 ⟨x,H1,I1,r1,q1⟩=>?_;obtain⟨i,rfl,q⟩:=q1;obtain⟨t,rfl⟩:=r1;exact⟨some i,H1,I1,.int i t,q⟩
def SlR (X:Cx)(r:V->Option Int->Option Int->Hp->VK->Prop):Prop :=
 ∀ (pins:List (Addr×Obj)) (s:Shared) (σ:St) (H:Hp) (x:V) (v vl vu:Value) (lo hi:Option Int) (sl:Addr) (Q:VK),Inv X pins σ H s->RelV x v->s.heap.IsSliceOf sl vl vu .none->IsPart vl lo->IsPart vu hi->r x lo hi H Q ->
  ∃ T id,typeLookup (.type T) "__getitem__" = pure (some (.builtin id))/\s.TypeIs v T/\wpAny (model X.prog X.w) X.A (getItem v (.ref sl)) (EP X pins σ Q) X.xe s
def tSl (r:V->Option Int->Option Int->Hp->VK->Prop)(te:TE)(tl th:TO):TE:=fun σ H Q=>te σ H fun x H1=>tl σ H1 fun l H2=>th σ H2 fun u H3=>r x l u H3 Q
theorem pe_slice {r:V->Option Int->Option Int->Hp->VK->Prop}(hr:SlR X r)(he:PE X e te)(hl:PO X lo tl)(hu:PO X hi th):PE X (.Subscript e (.Slice lo hi none p2) pos) (tSl r te tl th):=by
 intro pins s σ H Q I h;refine Subscript_ (thn (he pins s σ H _ I h) fun v s1 ⟨x,H1,I1,r1,q1⟩=>?_);refine wpAny_Slice (thn (hl pins s1 σ H1 _ I1 q1) fun vl s2 ⟨l,H2,I2,pl,q2⟩=>thn (hu pins s2 σ H2 _ I2 q2) fun vu s3 ⟨u,H3,I3,pu,q3⟩=>?_);rw[evalPart_none];refine wpAny_pure ?_;have I4:Inv X pins σ H3 { s3 with heap:=s3.heap.push { cls:=.type "slice",data:=.fields #[vl,vu,.none] } }:=I3.kept (t':=s3.toks) fun b ob q=>Heap.get?_push_of_some _ q;obtain⟨T,id,hT,ht,hg⟩:=hr pins { s3 with heap:=s3.heap.push { cls:=.type "slice",data:=.fields #[vl,vu,.none] } } σ H3 x v vl vu l u s3.heap.objs.size Q I4 r1 (Heap.IsSliceOf.new ..) pl pu q3;show wpAny (model X.prog X.w) X.A (subscriptTail e (.Slice lo hi none p2) v (.ref s3.heap.objs.size)) (EP X pins σ Q) X.xe { s3 with heap:=s3.heap.push { cls:=.type "slice",data:=.fields #[vl,vu,.none] } };exact tail_any (ops:=[.ref s3.heap.objs.size,v]) ht hT hg (by with_unfolding_all rfl)
def cutV (xs:List V)(lo hi:Option Int):List V:=(xs.drop (HT.sIx xs.length 0 lo)).take (HT.sIx xs.length xs.length hi - HT.sIx xs.length 0 lo)
theorem cutV_length (xs:List V)(lo hi:Option Int):(cutV xs lo hi).length<=xs.length:=by
 unfold cutV;rw[List.length_take,List.length_drop];first | lia | omega
def rSlT (K:PySem.W.Frag):V->Option Int->Option Int->Hp->VK->Prop:=fun x lo hi H Q=>∃ a xs,x=.ref a/\SqT K H a xs /\
 ¬ (HT.sIx xs.length 0 lo=0/\HT.sIx xs.length xs.length hi=xs.length)/\∀ p,H p=none->Q (.ref p) (upd H p (.tup (cutV xs lo hi)))
theorem sl_tup:SlR X (rSlT X.K):=by
 intro pins s σ H x v vl vu lo hi sl Q I rx hs pl pu h;obtain⟨a,xs,rfl,hx,hw,q⟩:=h;cases rx;obtain⟨its,r,ht,hz⟩:=I.tuple hx;have hlen:its.toArray.size=xs.length:=by rw[List.size_toArray];exact r.length.symm
 refine⟨"tuple",_,PyProof.Rows.slot_tuple_getitem.lookup,ht.typeIs,?_⟩;refine HT.getItem_tuple_cut ht hs pl pu (by rw[hlen];exact hw) ?_ (by rw[hlen];exact hz);rw[hlen];refine⟨.ref s.heap.objs.size,_,I.laid (t':=s.toks) (o:=.tup (cutV xs lo hi)) (fun b ob q=>Heap.get?_push_of_some _ q) (Nat.le_refl _) ?_,rfl,q _ (I.hok.fresh (Nat.le_refl _))⟩;exact⟨Nat.le_trans (cutV_length xs lo hi) hz,_,(r.drop (HT.sIx xs.length 0 lo)).take (HT.sIx xs.length xs.length hi - HT.sIx xs.length 0 lo),TupN.new _ _⟩
def rCatT (K:PySem.W.Frag):R2:=fun x y H Q=>∃ a b xs ys,x=.ref a/\y=.ref b/\SqT K H a xs/\SqT K H b ys/\xs≠[]/\xs.length + ys.length<=sizeLine /\
 (ys=[]->Q (.ref a) H)/\(ys≠[]->∀ p,H p=none->Q (.ref p) (upd H p (.tup (xs++ys))))
theorem Vals.nil_iff {xs:List V}{us:List Value}(r:Vals xs us):us=[] ↔ xs=[]:=by
 cases r with
 | nil=>simp
 | cons _ _=>simp
theorem op_catT:OpR X (binaryOp .Add) (rCatT X.K):=by
 intro pins s σ H x y v u Q I rx ry h;obtain⟨a,b,xs,ys,rfl,rfl,ha,hb,hx,hz,q1,q2⟩:=h;cases rx;cases ry;obtain⟨its,r1,p1,_⟩:=I.tuple ha;obtain⟨its2,r2,p2,_⟩:=I.tuple hb;refine HT.cat_tup p1 p2 (fun z=>hx (r1.nil_iff.mp z)) (fun z=>⟨.ref a,H,I,rfl,q1 (r2.nil_iff.mp z)⟩) (fun z=>?_) (by rw[<- r1.length,<- r2.length];exact hz);refine⟨.ref s.heap.objs.size,_,I.laid (t':=s.toks) (o:=.tup (xs++ys)) (fun b ob q=>Heap.get?_push_of_some _ q) (Nat.le_refl _) ?_,rfl,q2 (fun w=>z (r2.nil_iff.mpr w)) _ (I.hok.fresh (Nat.le_refl _))⟩;exact⟨by rw[List.length_append];exact hz,_,r1.append r2,TupN.new _ _⟩
end
end L2
namespace L2
open PySem PySem.Spec PyProof.Rows
def ixN (n:Nat)(i:Int):Option Nat:=if 0<=i then (if i < n then some i.toNat else none) else if -(n:Int)<=i then some (i + n).toNat else none
def atI {α:Type}(xs:List α)(i:Int):Option α:=(ixN xs.length i).bind fun j=>xs[j]?
theorem ixN_seq {n:Nat}{i:Int}{j:Nat}(h:ixN n i=some j):seqIndex? i n=some j/\j < n/\-(n:Int)<=i/\i < n:=by
 unfold ixN at h;by_cases h0:0<=i
 ·rw[if_pos h0]at h
  by_cases h1:i < n
  ·rw[if_pos h1]at h
   have e:i.toNat=j:=Option.some.inj h;exact⟨by rw[seqIndex_of h0 h1,e],by omega,by omega,h1⟩
  ·rw[if_neg h1]at h;cases h
 ·rw[if_neg h0]at h
  by_cases h1:-(n:Int)<=i
  ·rw[if_pos h1]at h
   have e:(i + n).toNat=j:=Option.some.inj h;exact⟨by rw[seqIndex_neg (by first | lia | omega) h1,e],by omega,h1,by omega⟩
  ·rw[if_neg h1]at h;cases h
theorem atI_get {α:Type}{xs:List α}{i:Int}{v:α}(h:atI xs i=some v):∃ j,seqIndex? i xs.length=some j/\xs[j]?=some v/\j < xs.length/\-(xs.length:Int)<=i/\i < xs.length:=by
 unfold atI at h;cases e:ixN xs.length i with
 | none=>rw[e]at h;cases h
 | some j =>
  rw[e]at h;obtain⟨h1,h2,h3,h4⟩:=ixN_seq e;exact⟨j,h1,h,h2,h3,h4⟩
def PlainIx (b:Expr):Prop:=∀ o i,subscripted b false o i=operate [o,i] (getItem o i)
def IxR (X:Cx)(r:R2):Prop :=
 ∀ (value slice:Expr) (pins:List (Addr×Obj)) (s:Shared) (σ:St) (H:Hp) (x y:V) (v u:Value) (Q:VK),Inv X pins σ H s->RelV x v->RelV y u->r x y H Q ->
  subscripted slice false v u=operate [v,u] (getItem v u)->wpAny (model X.prog X.w) X.A (subscriptTail value slice v u) (EP X pins σ Q) X.xe s
def MtR (X:Cx)(id:String)(r:V->List V->Hp->VK->Prop):Prop :=
 ∀ (pins:List (Addr×Obj)) (s:Shared) (σ:St) (H:Hp) (x:V) (xs:List V) (v:Value) (us:List Value) (Q:VK),Inv X pins σ H s->RelV x v->Vals xs us->r x xs H Q ->
  wpAny (model X.prog X.w) X.A (call (.builtin id) (v::us)) (EP X pins σ Q) X.xe s
section
variable {X:Cx}{a b:Expr}{ta tb:TE}{pos:Pos}
theorem pe_ix {r:R2}(hr:IxR X r)(ha:PE X a ta)(hb:PE X b tb)(hs:PlainIx b):PE X (.Subscript a b pos) (tOp r ta tb):=by
 intro pins s σ H Q I h;exact Subscript_ (binT ha hb I h fun v u s2 x y H2 I2 rx ry q=>hr a b pins s2 σ H2 x y v u Q I2 rx ry q (hs _ _))
def rIxL (K:PySem.W.Frag):R2:=fun x y H Q=>∃ p xs i v,x=.ref p/\y=.int i/\SqL K H p xs/\atI xs i=some v/\Q v H
def rIxT (K:PySem.W.Frag):R2:=fun x y H Q=>∃ p xs i v,x=.ref p/\y=.int i/\SqT K H p xs/\atI xs i=some v/\Q v H
def rIxS:R2:=fun x y H Q=>∃ z i c,x=.str z/\y=.int i/\z.length<=sizeLine/\atI z.cps.toList i=some c/\Q (.str ⟨#[c]⟩) H
theorem ix_list:IxR X (rIxL X.K):=by
 intro value slice pins s σ H x y v u Q I rx ry h hs;obtain⟨p,xs,i,z,rfl,rfl,hq,he,q⟩:=h;cases rx;obtain⟨t,rfl⟩:=ry;obtain⟨its,r,pl,hz⟩:=I.list hq;obtain⟨j,h1,h2,h3,h4,h5⟩:=atI_get he;obtain⟨w,ew,rw'⟩:=r.get h2;have hl:=r.length;have hn:=line63;have fin:EP X pins σ Q w s:=⟨z,H,I,rw',q⟩;by_cases h0:0<=i
 ·have hj:i.toNat=j:=by
   rw[seqIndex_of h0 h5]at h1;exact Option.some.inj h1
  exact item_listR pl.isList h0 (by first | lia | omega) (by rw[hj];simpa using ew) fin hs
 ·have hj:(i + (its.toArray.size:Int)).toNat=j:=by
   rw[seqIndex_neg (by first | lia | omega) h4]at h1
   rw[List.size_toArray,<- hl];exact Option.some.inj h1
  exact subscriptTail_builtinR (x:=w) pl.isList.typeIs slot_list_getitem.lookup
   (wpAny_getItem_list_neg (Q:=fun r s'=>r=w/\EP X pins σ Q r s') pl.isList (by first | lia | omega) (by rw[List.size_toArray] <;> omega) (by first | lia | omega) (by rw[hj];simpa using ew) ⟨rfl,fin⟩) hs
theorem ix_tup:IxR X (rIxT X.K):=by
 intro value slice pins s σ H x y v u Q I rx ry h hs;obtain⟨p,xs,i,z,rfl,rfl,hq,he,q⟩:=h;cases rx;obtain⟨t,rfl⟩:=ry;obtain⟨its,r,pl,hz⟩:=I.tuple hq;obtain⟨j,h1,h2,h3,h4,h5⟩:=atI_get he;obtain⟨w,ew,rw'⟩:=r.get h2;have hl:=r.length;have hn:=line63;have fin:EP X pins σ Q w s:=⟨z,H,I,rw',q⟩;exact subscriptTail_builtinR (x:=w) pl.typeIs slot_tuple_getitem.lookup
  (getItem_tuple (j:=j) (Q:=fun r s'=>r=w/\EP X pins σ Q r s') pl (by first | lia | omega) (by first | lia | omega) (by rw[List.size_toArray,<- hl];exact h1) (by simpa using ew) ⟨rfl,fin⟩) hs
theorem ix_str:IxR X rIxS:=by
 intro value slice pins s σ H x y v u Q I rx ry h hs;obtain⟨z,i,c,rfl,rfl,hz,he,q⟩:=h;obtain⟨t,rfl⟩:=rx;obtain⟨t',rfl⟩:=ry;obtain⟨j,h1,h2,h3,h4,h5⟩:=atI_get he;have hl:z.cps.toList.length=z.length:=by simp[Str.length]
 rw[hl]at h1 h4 h5;have hn:=line63;exact tail_any (typeIs_str s z t) slot_str_getitem.lookup (getItem_str (c:=c) (by
  have e1:decide (i < -(2 ^ 63:Int))=false:=decide_eq_false (by first | lia | omega)
  have e2:decide (i ≥ 2 ^ 63)=false:=decide_eq_false (by first | lia | omega)
  rw[e1,e2,Bool.or_false]) (by rw[h1];simpa using h2) ⟨.str ⟨#[c]⟩,H,I.tok _,⟨_,rfl⟩,q⟩) hs
theorem mapSeq_set (its:List Value)(n j:Nat)(u:Value):Obj.mapSeq (·.setIfInBounds j u) { cls:=.type "list",data:=.seq its.toArray n } = { cls:=.type "list",data:=.seq (its.set j u).toArray n }:=by
 simp[Obj.mapSeq]
theorem Inv.lst {pins:List (Addr×Obj)}{σ:St}{H:Hp}{s:Shared}{p:Addr}{xs:List V}(I:Inv X pins σ H s)(h:H p=some (.lst xs)) :
  ∃ (its:List Value) (n:Nat),Vals xs its/\s.heap.get? p=some { cls:=.type "list",data:=.seq its.toArray n }/\xs.length<=sizeLine:=by
 obtain⟨z,its,n,r,e⟩:=I.hok p _ h;exact⟨its,n,r,e,z⟩
theorem Inv.lstUpd {pins:List (Addr×Obj)}{σ:St}{H:Hp}{s:Shared}{p:Addr}{xs ys:List V}{its its':List Value}{n n':Nat}{f:Obj->Obj}(I:Inv X pins σ H s)(h:H p=some (.lst xs))
  (ho:s.heap.get? p=some { cls:=.type "list",data:=.seq its.toArray n }) (hf:f { cls:=.type "list",data:=.seq its.toArray n } = { cls:=.type "list",data:=.seq its'.toArray n' }) (r:Vals ys its') (hz:ys.length<=sizeLine) (t:Nat) :
  Inv X pins σ (upd H p (.lst ys)) { s with heap:=s.heap.update p f,toks:=t }:=by
 have e:(s.heap.update p f).get? p=some { cls:=.type "list",data:=.seq its'.toArray n' }:=by
  rw[Heap.get?_update_self f ho (by rw[hf] <;> rfl),hf]
 refine I.write (x:=p) (e:=p) (by rw[h];trivial) (.inl rfl) (fun b u hb q=>(Heap.get?_update_other _ _ (Ne.symm hb)).trans q) ⟨_,e⟩ ?_;exact⟨hz,its',n',r,e⟩
def rSetL:V->V->V->Hp->(Hp->Prop)->Prop:=fun o i v H Q=>∃ p xs k j,o=.ref p/\i=.int k/\H p=some (.lst xs)/\ixN xs.length k=some j/\Q (upd H p (.lst (xs.set j v)))
theorem set_list:PSet X rSetL:=by
 intro pins s σ H o i v ov iv u Q I ro ri rv h;obtain⟨p,xs,k,j,rfl,rfl,hp,hj,q⟩:=h;cases ro;obtain⟨t,rfl⟩:=ri;obtain⟨its,n,r,ho,hz⟩:=I.lst hp;obtain⟨h1,h2,h3,h4⟩:=ixN_seq hj;have hl:=r.length;have hn:=line63;have I':Inv X pins σ (upd H p (.lst (xs.set j v))) { s with heap:=s.heap.update p (Obj.mapSeq (·.setIfInBounds j u)) } :=
  I.lstUpd hp ho (mapSeq_set its n j u) (r.set rv j) (by rw[List.length_set];exact hz) s.toks
 by_cases h0:0<=k
 ·have hk:k.toNat=j:=by
   rw[seqIndex_of h0 h4]at h1;exact Option.some.inj h1
  exact PySem.W.ki_setAt ho h0 (by first | lia | omega) (by rw[List.size_toArray,<- hl];exact h4) (by rw[hk];exact⟨_,I',q⟩)
 ·have hk:(k + (its.toArray.size:Int)).toNat=j:=by
   rw[seqIndex_neg (by first | lia | omega) h3]at h1
   rw[List.size_toArray,<- hl];exact Option.some.inj h1
  exact PySem.W.ki_setBack ho (by first | lia | omega) (by rw[List.size_toArray,<- hl];exact h3) (by first | lia | omega) (by rw[hk];exact⟨_,I',q⟩)
theorem slice_bounds (lo hi:Option Int)(n:Nat):(sliceBounds lo hi none n).1=((HT.sIx n 0 lo:Nat):Int)/\(sliceBounds lo hi none n).2.1=((HT.sIx n n hi:Nat):Int)/\(sliceBounds lo hi none n).2.2=1:=by
 refine⟨?_,?_,rfl⟩
 ·cases lo with
  | none=>simp[sliceBounds,HT.sIx]
  | some i =>
   simp only[sliceBounds,HT.sIx,Option.getD_none,show (1:Int) > 0 by decide,if_true];by_cases h:i < 0
   ·simp only[h,if_true] <;> omega
   ·simp only[h,if_false] <;> omega
 ·cases hi with
  | none=>simp[sliceBounds,HT.sIx]
  | some i =>
   simp only[sliceBounds,HT.sIx,Option.getD_none,show (1:Int) > 0 by decide,if_true];by_cases h:i < 0
   ·simp only[h,if_true] <;> omega
   ·simp only[h,if_false] <;> omega
theorem slicePick_cut (its:List Value)(lo hi:Option Int):slicePick its.toArray lo hi none=((its.drop (HT.sIx its.length 0 lo)).take (HT.sIx its.length its.length hi - HT.sIx its.length 0 lo)).toArray:=by
 obtain⟨h1,h2,h3⟩:=slice_bounds lo hi its.toArray.size;unfold slicePick;rw[h1,h2,h3];simp only[sliceRange_one,pick_run,List.size_toArray] <;> rfl
def rSlL (K:PySem.W.Frag):V->Option Int->Option Int->Hp->VK->Prop:=fun x lo hi H Q=>∃ a xs,x=.ref a/\SqL K H a xs/\∀ p,H p=none->Q (.ref p) (upd H p (.lst (cutV xs lo hi)))
theorem sl_list:SlR X (rSlL X.K):=by
 intro pins s σ H x v vl vu lo hi sl Q I rx hs pl pu h;obtain⟨a,xs,rfl,hx,q⟩:=h;cases rx;obtain⟨its,r,ht,hz⟩:=I.list hx;have hlen:=r.length;refine⟨"list",_,slot_list_getitem.lookup,ht.isList.typeIs,?_⟩;refine wpAny_getItem_list_slice ht.isList hs pl pu .none (by simp) ?_ (by rw[List.size_toArray] <;> omega);rw[slicePick_cut,<- hlen];refine⟨.ref s.heap.objs.size,_,I.laid (t':=s.toks) (o:=.lst (cutV xs lo hi)) (fun b ob q=>Heap.get?_push_of_some _ q) (Nat.le_refl _) ?_,rfl,q _ (I.hok.fresh (Nat.le_refl _))⟩;exact⟨Nat.le_trans (cutV_length xs lo hi) hz,_,0,(r.drop (HT.sIx xs.length 0 lo)).take (HT.sIx xs.length xs.length hi - HT.sIx xs.length 0 lo),Heap.get?_push_size _ rfl⟩
def flatV:V->Bool
 | .non=>true
 | .bl _=>true
 | .int _=>true
 | .str _=>true
 | _=>false
def eqV:V->V->Bool
 | .non,.non=>true
 | .bl a,.bl b=>a==b
 | .bl a,.int b=>(if a then 1 else 0)==b
 | .int a,.bl b=>a==(if b then 1 else 0)
 | .int a,.int b=>a==b
 | .str a,.str b=>a==b
 | _,_=>false
theorem eqAt_V {A:Around}{s:Shared}{y x:V}{u v:Value}(ry:RelV y u)(rx:RelV x v)(fy:flatV y=true)(fx:flatV x=true):SeqAt.EqAt A s u v (eqV y x):=by
 cases y with
 | non =>
  cases ry;cases x with
  | non=>cases rx;exact SeqAt.EqAt.same _
  | bl b=>cases rx;exact SeqAt.EqAt.none_bool b
  | int b=>obtain⟨t,rfl⟩:=rx;exact SeqAt.EqAt.none_int b t
  | str b=>obtain⟨t,rfl⟩:=rx;exact SeqAt.EqAt.none_str b t
  | _=>exact absurd (show false=true from fx) Bool.false_ne_true
 | bl a =>
  cases ry;cases x with
  | non=>cases rx;exact SeqAt.EqAt.bool_none a
  | bl b=>cases rx;exact SeqAt.EqAt.bool_bool a b
  | int b=>obtain⟨t,rfl⟩:=rx;exact SeqAt.EqAt.bool_int a b t
  | str b=>obtain⟨t,rfl⟩:=rx;exact SeqAt.EqAt.bool_str a b t
  | _=>exact absurd (show false=true from fx) Bool.false_ne_true
 | int a =>
  obtain⟨t',rfl⟩:=ry;cases x with
  | non=>cases rx;exact SeqAt.EqAt.int_none a t'
  | bl b=>cases rx;exact SeqAt.EqAt.int_bool a t' b
  | int b=>obtain⟨t,rfl⟩:=rx;exact SeqAt.EqAt.int_int a t' b t
  | str b=>obtain⟨t,rfl⟩:=rx;exact SeqAt.EqAt.int_str a t' b t
  | _=>exact absurd (show false=true from fx) Bool.false_ne_true
 | str a =>
  obtain⟨t',rfl⟩:=ry;cases x with
  | non=>cases rx;exact SeqAt.EqAt.str_none a t'
  | bl b=>cases rx;exact SeqAt.EqAt.str_bool a t' b
  | int b=>obtain⟨t,rfl⟩:=rx;exact SeqAt.EqAt.str_int a t' b t
  | str b=>obtain⟨t,rfl⟩:=rx;exact SeqAt.EqAt.str_str a t' b t
  | _=>exact absurd (show false=true from fx) Bool.false_ne_true
 | _=>exact absurd (show false=true from fy) Bool.false_ne_true
theorem call_len_seq:CallR X (.builtin "len") (fun xs H Q=>∃ p ys,xs=[.ref p]/\(SqL X.K H p ys\/SqT X.K H p ys)/\Q (.int ys.length) H):=by
 intro pins s σ H xs us Q I r h;obtain⟨p,ys,rfl,hq,q⟩:=h;obtain⟨u,rfl,rx⟩:=vals1 r;cases rx;have hn:=line63;rcases hq with hq | hq
 ·obtain⟨its,r',pl,hz⟩:=I.list hq
  have hlen:=r'.length;exact Calls.call_len_list pl.isList (by simp only[List.size_toArray] <;> omega) ⟨.int ys.length,H,I.tok _,⟨s.toks + 1,by rw[List.size_toArray,hlen]⟩,q⟩
 ·obtain⟨its,r',pl,hz⟩:=I.tuple hq
  have hlen:=r'.length;exact len_tuple pl (by simp only[List.size_toArray] <;> omega) ⟨.int ys.length,H,I.tok _,⟨s.toks + 1,by rw[List.size_toArray,hlen]⟩,q⟩
theorem call_len_str:CallR X (.builtin "len") (fun xs H Q=>∃ z,xs=[.str z]/\z.length<=sizeLine/\Q (.int z.length) H):=by
 intro pins s σ H xs us Q I r h;obtain⟨z,rfl,hz,q⟩:=h;obtain⟨u,rfl,t,rfl⟩:=vals1 r;have hn:=line63;exact len_str (by first | lia | omega) ⟨.int z.length,H,I.tok _,⟨_,rfl⟩,q⟩
theorem call_list_of:CallR X (.type "list") (fun xs H Q=>∃ p ys,xs=[.ref p]/\(SqL X.K H p ys\/SqT X.K H p ys)/\∀ l,H l=none->Q (.ref l) (upd H l (.lst ys))):=by
 intro pins s σ H xs us Q I r h;obtain⟨p,ys,rfl,hq,q⟩:=h;obtain⟨u,rfl,rx⟩:=vals1 r;cases rx;have fin:∀ (its:List Value),Vals ys its->ys.length<=sizeLine->∀ (h':Heap) (c':Nat),(∀ b o',s.heap.get? b=some o'->h'.get? b=some o') ->
   h'.get? s.heap.objs.size=some { cls:=.type "list",dict:=none,data:=.seq its.toArray c',slots:=#[] }->EP X pins σ Q (.ref s.heap.objs.size) { s with heap:=h' }:=fun its r' hz h' c' kp e =>
  ⟨.ref s.heap.objs.size,_,I.laid (t':=s.toks) kp (Nat.le_refl _) (show ObjOk X.prog X.w _ h' _ (.lst ys) from ⟨hz,its,c',r',e⟩),rfl,q _ (I.hok.fresh (Nat.le_refl _))⟩
 rcases hq with hq | hq
 ·obtain⟨its,r',pl,hz⟩:=I.list hq
  have hlen:=r'.length;obtain⟨o,ho,hc,n,hd⟩:=pl.isList;exact call_list_seq p (.inl rfl) ho hc hd (fun h' c' kp e=>fin its r' hz h' c' kp e) (by simp only[List.size_toArray] <;> omega)
 ·obtain⟨its,r',pl,hz⟩:=I.tuple hq
  have hlen:=r'.length;obtain⟨o,ho,hc,n,hd⟩:=pl;exact call_list_seq p (.inr rfl) ho hc hd (fun h' c' kp e=>fin its r' hz h' c' kp e) (by simp only[List.size_toArray] <;> omega)
theorem call_tuple_of:CallR X (.type "tuple") (fun xs H Q=>∃ p ys,xs=[.ref p]/\((SqL X.K H p ys/\∀ l,H l=none->Q (.ref l) (upd H l (.tup ys)))\/(SqT X.K H p ys/\Q (.ref p) H))):=by
 intro pins s σ H xs us Q I r h;obtain⟨p,ys,rfl,h⟩:=h;obtain⟨u,rfl,rx⟩:=vals1 r;cases rx;rcases h with ⟨hq,q⟩|⟨hq,q⟩
 ·obtain⟨its,r',pl,hz⟩:=I.list hq
  have hlen:=r'.length;refine call_tuple_list pl.isList (fun h' kp=>?_) (by simp only[List.size_toArray] <;> omega);have I1:Inv X pins σ H { s with heap:=h' }:=I.kept (t':=s.toks) kp;have I2:Inv X pins σ (upd H h'.objs.size (.tup ys)) { s with heap:=h'.push { cls:=.type "tuple",data:=.seq its.toArray } } :=
   I1.laid (t':=s.toks) (fun b o e=>Heap.get?_push_of_some _ e) (Nat.le_refl _) (show ObjOk X.prog X.w _ _ _ (.tup ys) from ⟨hz,its,r',TupN.new _ _⟩)
  exact⟨.ref h'.objs.size,_,I2,rfl,q _ (I1.hok.fresh (Nat.le_refl _))⟩
 ·obtain⟨its,r',pl,hz⟩:=I.tuple hq
  exact call_tuple_same pl ⟨.ref p,H,I,rfl,q⟩
def tyV (K:PySem.W.Frag)(T:String)(x:V)(H:Hp):Prop:=match x with
 | .str _=>T = "str"
 | .int _=>T = "int"
 | .ref p=>(T = "list"/\∃ xs,SqL K H p xs)\/(T = "tuple"/\∃ o,K.lookup p=some o/\o.cls=.type "tuple"/\o.dict=none) \/
   (T = "dict"/\((∃ kvs,H p=some (.dK kvs))\/∃ kvs,H p=some (.dT kvs)))\/(T = "set"/\∃ S n,H p=some (.set S n))
 | _=>False
theorem tyV_is {pins:List (Addr×Obj)}{σ:St}{H:Hp}{s:Shared}{T:String}{x:V}{v:Value}(I:Inv X pins σ H s)(r:RelV x v)(ty:tyV X.K T x H) :
  s.TypeIs v T/\∀ a,v=.ref a->∃ ob,s.heap.get? a=some ob/\ob.dict=none:=by
 cases x with
 | str z =>
  obtain⟨t,rfl⟩:=r;cases (show T = "str" from ty);exact⟨typeIs_str s z t,fun _ e=>nomatch e⟩
 | int i =>
  obtain⟨t,rfl⟩:=r;cases (show T = "int" from ty);exact⟨typeIs_int s i t,fun _ e=>nomatch e⟩
 | ref p =>
  cases r;rcases ty with ⟨rfl,xs,hq⟩|⟨rfl,o,hk,hc,hd⟩|⟨rfl,hk⟩|⟨rfl,S,n,hk⟩
  ·obtain⟨its,_,pl,_⟩:=I.list hq
   refine⟨pl.isList.typeIs,fun a e=>?_⟩;cases e;obtain⟨o,n,e,c,hd,_⟩:=pl;exact⟨o,e,hd⟩
  ·refine⟨⟨o,I.kIn p o hk,hc⟩,fun a e=>?_⟩
   cases e;exact⟨o,I.kIn _ o hk,hd⟩
  ·have z:∃ o,s.heap.get? p=some o/\o.ExactDict:=by
    rcases hk with ⟨kvs,hk⟩|⟨kvs,hk⟩
    ·obtain⟨_,_,_,_,o,_,_,e,ex,_⟩:=I.hok p _ hk
     exact⟨o,e,ex⟩
    ·obtain⟨_,_,_,_,o,_,_,e,ex,_⟩:=I.hok p _ hk
     exact⟨o,e,ex⟩
   obtain⟨o,e,ex⟩:=z;refine⟨⟨o,e,ex.1⟩,fun a e2=>?_⟩;cases e2;exact⟨o,e,ex.2.1⟩
  ·obtain⟨o,_,_,_,e,ex,_⟩:=I.hok p _ hk
   refine⟨⟨o,e,ex.1⟩,fun a e2=>?_⟩;cases e2;exact⟨o,e,ex.2.1⟩
 | _=>exact False.elim ty
def tBM0 (K:PySem.W.Frag)(T:String)(r:V->List V->Hp->VK->Prop)(to:TE):TE:=fun σ H Q=>to σ H fun x H1=>tyV K T x H1/\r x [] H1 Q
variable {o e:Expr}{es:List Expr}{to:TE}{t:TA}{name:Str}{apos cpos:Pos}{T id:String}{r:V->List V->Hp->VK->Prop}
theorem pe_bm0 (pa:PlainAttrs T)(slot:Slot T name id)(hty:typeOf (.builtin id)=pure (.type "method_descriptor"))(hm:MtR X id r)(ho:PE X o to)
  (hbase:attributeBase o name X.env (eval o X.env)=eval o X.env:=by rfl) (hline:(apos.endLine==cpos.line)=true:=by rfl):PE X (.Call (.Attribute o name apos) [] [] cpos) (tBM0 X.K T r to):=by
 intro pins s σ H Q I h;refine wpAny_Call_method0_late hbase hline (thn (ho pins s σ H _ I h) fun v s1 ⟨x,H1,I1,r1,ty,q1⟩=>?_);obtain⟨h1,h2⟩:=tyV_is I1 r1 ty;exact⟨T,id,pa,slot,hty,h1,h2,Calls.callWith_builtin rfl (PySem.evalArgs_none (hm pins s1 σ H1 x [] v [] Q I1 r1 .nil q1))⟩
/- xs.append(e),list.index on a module's tuple .. are MtR facts of 06m -/
end
end L2
namespace L2
open PySem PySem.Spec PyProof.Rows
def MtM (X:Cx)(id:String)(r:V->List V->Hp->VK->Prop):Prop :=
 ∀ (pins:List (Addr×Obj)) (s:Shared) (σ:St) (H:Hp) (x:V) (xs:List V) (v:Value) (us:List Value) (Q:VK),Inv X pins σ H s->RelV x v->Vals xs us->r x xs H Q ->
  wpAny (model X.prog X.w) X.A (call (.builtin id) (v::us)) (EP X pins σ Q) X.xe s
theorem Vals.one:∀ {x:V} {us:List Value},Vals [x] us->∃ u,us=[u]/\RelV x u
 | _,_,.cons r .nil=>⟨_,rfl,r⟩
section
variable {X:Cx}{pins:List (Addr×Obj)}{σ:St}{H:Hp}{s:Shared}{l b:Addr}{xs ys zs:List V}
theorem Inv.lset {its its':List Value}{n:Nat}{f:Array Value->Array Value}{t':Nat}(I:Inv X pins σ H s)(hH:H l=some (.lst xs))
  (e:s.heap.get? l=some { cls:=.type "list",data:=.seq its.toArray n }) (hf:f its.toArray=its'.toArray) (hv:Vals ys its') (hz:ys.length<=sizeLine) :
  Inv X pins σ (upd H l (.lst ys)) { s with heap:=s.heap.update l (Obj.mapSeq f),toks:=t' }:=by
 have q:=PySem.IsL.update e f;rw[hf]at q;refine I.write (x:=l) (e:=l) (by rw[hH];exact trivial) (.inl rfl) (fun b' u hb hu=>(Heap.get?_update_other s.heap (Obj.mapSeq f) (Ne.symm hb)).trans hu) ⟨_,q⟩ ?_;exact⟨hz,its',_,hv,q⟩
theorem Inv.lnew {its:List Value}{t':Nat}(I:Inv X pins σ H s)(hv:Vals ys its)(hz:ys.length<=sizeLine) :
  Inv X pins σ (upd H s.heap.objs.size (.lst ys)) { s with heap:=s.heap.push { cls:=.type "list",data:=.seq its.toArray },toks:=t' } :=
 I.laid (fun _ _ q=>Heap.get?_push_of_some _ q) (Nat.le_refl _) ⟨hz,its,0,hv,Heap.get?_push_size _ rfl⟩
theorem Inv.fresh (I:Inv X pins σ H s):H s.heap.objs.size=none:=I.hok.fresh (Nat.le_refl _)
theorem Inv.lstM (I:Inv X pins σ H s)(hH:H l=some (.lst xs)):xs.length<=sizeLine/\∃ (its:List Value) (n:Nat),Vals xs its/\xs.length=its.length/\s.heap.get? l=some { cls:=.type "list",data:=.seq its.toArray n }:=by
 obtain⟨z,its,n,r,e⟩:=I.hok l _ hH;exact⟨z,its,n,r,r.length,e⟩
theorem notLongL {n:Nat}(h:n<=sizeLine):Builtin.List.listTooLong n=false:=by
 unfold Builtin.List.listTooLong;exact decide_eq_false (by first | lia | omega)
end
section
variable {X:Cx}
def rAppend:V->List V->Hp->VK->Prop:=fun x vs H Q=>∃ l xs y,x=.ref l/\vs=[y]/\H l=some (.lst xs)/\xs.length < sizeLine/\Q .non (upd H l (.lst (xs++[y])))
theorem mt_append:MtM X "list.append" rAppend:=by
 intro pins s σ H x vs v us Q I rx rv h;obtain⟨l,xs,y,rfl,rfl,hH,hz,q⟩:=h;cases rx;obtain⟨u,rfl,ru⟩:=rv.one;obtain⟨z,its,n,r,hl,e⟩:=I.lstM hH;refine call_meets F.slot_list_append ⟨_,e,rfl⟩ F.entry_list_append (F.args_list_append_2 _ _) (PySem.list_append l its.toArray n u (by rw[List.size_toArray];omega)) ⟨e,?_⟩;refine⟨.non,_,I.lset (its':=its++[u]) hH e (by simp) (r.append (.cons ru .nil)) ?_,rfl,q⟩;rw[List.length_append,List.length_singleton];first | lia | omega
def rExtend:V->List V->Hp->VK->Prop:=fun x vs H Q=>∃ l b xs zs,x=.ref l/\vs=[.ref b]/\H l=some (.lst xs)/\H b=some (.lst zs)/\xs.length + zs.length<=sizeLine/\Q .non (upd H l (.lst (xs++zs)))
theorem mt_extend:MtM X "list.extend" rExtend:=by
 intro pins s σ H x vs v us Q I rx rv h;obtain⟨l,b,xs,zs,rfl,rfl,hH,hB,hz,q⟩:=h;cases rx;obtain⟨u,rfl,ru⟩:=rv.one;cases ru;obtain⟨z,its,n,r,hl,e⟩:=I.lstM hH;obtain⟨z2,its2,n2,r2,hl2,e2⟩:=I.lstM hB;have hsz:its.toArray.size + its2.toArray.size<=sizeLine:=by rw[List.size_toArray,List.size_toArray];omega
 have hlong:¬ (!its.toArray.isEmpty&&Builtin.List.listTooLong (its.toArray.size + its2.toArray.size))=true:=by
  rw[notLongL hsz,Bool.and_false];exact Bool.false_ne_true
 refine call_meets F.slot_list_extend ⟨_,e,rfl⟩ F.entry_list_extend (F.args_list_extend_2 _ _)
  (AutoSeq1.list_extend_list_list_0 l its.toArray n b its2.toArray n2 hlong (by rw[List.size_toArray];omega) (by first | lia | omega)) ⟨e,e2,?_⟩
 refine⟨.non,_,I.lset (its':=its++its2) hH e (by simp) (r.append r2) ?_,rfl,q⟩;rw[List.length_append];first | lia | omega
def rCat:R2:=fun x y H Q=>∃ l b xs zs,x=.ref l/\y=.ref b/\H l=some (.lst xs)/\H b=some (.lst zs)/\xs.length + zs.length<=sizeLine/\∀ p,H p=none->Q (.ref p) (upd H p (.lst (xs++zs)))
theorem op_cat:OpR X (binaryOp .Add) rCat:=by
 intro pins s σ H x y v u Q I rx ry h;obtain⟨l,b,xs,zs,rfl,rfl,hH,hB,hz,q⟩:=h;cases rx;cases ry;obtain⟨z,its,n,r,hl,e⟩:=I.lstM hH;obtain⟨z2,its2,n2,r2,hl2,e2⟩:=I.lstM hB;refine PySem.P.add_list e e2 ?_ (by rw[List.size_toArray,List.size_toArray];omega);have ea:its.toArray++its2.toArray=(its++its2).toArray:=by simp
 rw[ea];exact⟨.ref _,_,I.lnew (t':=s.toks) (r.append r2) (by rw[List.length_append];omega),rfl,q _ I.fresh⟩
end
section
variable {prog:Program}{w:World}{A:Around}{E:Value->Shared->Prop}{s:Shared}
set_option maxRecDepth 100000 in
end
section
variable {X:Cx}
end
end L2
namespace L2
open PySem PySem.Spec PyProof.Rows
section
variable {κ:Type}[DecidableEq κ]
def valV (kvs:List (κ×V))(k:κ):Option V:=(kvs.find? fun kv=>decide (kv.1=k)).map (·.2)
def putK (kvs:List (κ×V))(k:κ)(v:V):List (κ×V) :=
 if (kvs.any fun kv=>decide (kv.1=k))=true then kvs.map (fun kv=>if kv.1=k then (kv.1,v) else kv) else kvs++[(k,v)]
theorem valV_pos {p:κ×V}{r:List (κ×V)}{k:κ}(e:p.1=k):valV (p::r) k=some p.2:=by simp[valV,List.find?_cons,e]
theorem valV_neg {p:κ×V}{r:List (κ×V)}{k:κ}(e:¬ p.1=k):valV (p::r) k=valV r k:=by simp[valV,List.find?_cons,e]
theorem valV_any (k:κ):∀ kvs:List (κ×V),(kvs.any fun kv=>decide (kv.1=k))=(valV kvs k).isSome
 | []=>rfl
 | p::r=>by
  rw[List.any_cons];by_cases e:p.1=k
  ·simp only[valV_pos e,decide_eq_true e,Bool.true_or,Option.isSome_some]
  ·rw[valV_neg e,decide_eq_false e,Bool.false_or];exact valV_any k r
theorem length_putK (kvs:List (κ×V))(k:κ)(v:V):(putK kvs k v).length<=kvs.length + 1:=by
 unfold putK;split
 ·rw[List.length_map];omega
 ·rw[List.length_append,List.length_cons,List.length_nil];omega
theorem RelO.isSome_eq {o:Option V}{u:Option Value}(r:RelO o u):o.isSome=u.isSome:=by
 cases o with
 | none=>cases u with
  | none=>rfl
  | some _=>exact(show False from r).elim
 | some _=>cases u with
  | none=>exact(show False from r).elim
  | some _=>rfl
theorem KV.val {kvs:List (κ×V)}{vs:List (κ×Value)}(r:KV kvs vs)(k:κ):RelO (valV kvs k) (valueAt vs k):=by
 unfold KV at r;induction r with
 | nil=>exact True.intro
 | @cons p q ps qs h t ih =>
  obtain⟨h1,h2⟩:=h;by_cases e:p.1=k
  ·have e':q.1=k:=h1.symm.trans e
   have b:valueAt (q::qs) k=some q.2:=by simp[valueAt,List.find?_cons,e']
   rw[valV_pos e,b];exact h2
  ·have e':¬ q.1=k:=fun z=>e (h1.trans z)
   have b:valueAt (q::qs) k=valueAt qs k:=by simp[valueAt,List.find?_cons,e']
   rw[valV_neg e,b];exact ih
theorem KV.any {kvs:List (κ×V)}{vs:List (κ×Value)}(r:KV kvs vs)(k:κ):(kvs.any fun kv=>decide (kv.1=k))=vs.any fun kv=>decide (kv.1=k):=by
 unfold KV at r;induction r with
 | nil=>rfl
 | cons h t ih=>rw[List.any_cons,List.any_cons,ih,h.1]
theorem KV.repl {kvs:List (κ×V)}{vs:List (κ×Value)}(r:KV kvs vs)(k:κ){y:V}{u:Value}(ry:RelV y u) :
  KV (kvs.map fun kv=>if kv.1=k then (kv.1,y) else kv) (vs.map fun kv=>if kv.1=k then (kv.1,u) else kv):=by
 unfold KV at r ⊢;induction r with
 | nil=>exact .nil
 | @cons p q ps qs h t ih =>
  rw[List.map_cons,List.map_cons];refine .cons ?_ ih;obtain⟨h1,h2⟩:=h;by_cases e:p.1=k
  ·rw[if_pos e,if_pos (h1.symm.trans e)];exact⟨h1,ry⟩
  ·rw[if_neg e,if_neg (fun z=>e (h1.trans z))];exact⟨h1,h2⟩
theorem KV.put {kvs:List (κ×V)}{vs:List (κ×Value)}(r:KV kvs vs)(k:κ){y:V}{u:Value}(ry:RelV y u):KV (putK kvs k y) (stored vs k u):=by
 unfold putK stored;rw[r.any k];by_cases e:(vs.any fun kv=>decide (kv.1=k))=true
 ·rw[if_pos e,if_pos e];exact r.repl k ry
 ·rw[if_neg e,if_neg e];exact Paired.snoc r ⟨rfl,ry⟩
theorem KV.length {kvs:List (κ×V)}{vs:List (κ×Value)}(r:KV kvs vs):kvs.length=vs.length:=Paired.length r
end
theorem kV_is {P:Program}{w:World}{k:Key}{u:Value}(r:RelV (kV k) u):(mixKind P w).is k u=true:=by
 cases k with
 | inl i=>obtain⟨t,e⟩:=(show ∃ t,u=Value.int i t from r);subst e;exact mixKind_int P w i t
 | inr x=>obtain⟨t,e⟩:=(show ∃ t,u=Value.str x t from r);subst e;exact mixKind_str P w x t
theorem items_are {P:Program}{w:World}:∀ {ks:List Key} {us:List Value},Vals (ks.map kV) us->ItemsAre (mixKind P w) ks us
 | [],_,r=>by rw[List.map_nil]at r;cases r;exact .nil
 | k::ks,_,r=>by
  rw[List.map_cons]at r;cases r with
  | cons h t=>exact .cons (kV_is h) (items_are t)
abbrev KT (H:Hp):List (List Key×V)->List (List Key×Addr×Value)->Prop:=Paired fun p q=>p.1=q.1/\H q.2.1=some (.tup (p.1.map kV))/\RelV p.2 q.2.2
theorem KT.val {H:Hp}{kvs:List (List Key×V)}{xs:List (List Key×Addr×Value)}(r:KT H kvs xs)(k:List Key):RelO (valV kvs k) ((atKey xs k).map (·.2)):=by
 induction r with
 | nil=>exact True.intro
 | @cons p q ps qs h t ih =>
  obtain⟨h1,_,h2⟩:=h;by_cases e:p.1=k
  ·have e':q.1=k:=h1.symm.trans e
   have b:atKey (q::qs) k=some q.2:=by simp[atKey,List.find?_cons,e']
   rw[valV_pos e,b];exact h2
  ·have e':¬ q.1=k:=fun z=>e (h1.trans z)
   have b:atKey (q::qs) k=atKey qs k:=by simp[atKey,List.find?_cons,e']
   rw[valV_neg e,b];exact ih
theorem KT.repl {H:Hp}{kvs:List (List Key×V)}{xs:List (List Key×Addr×Value)}(r:KT H kvs xs)(k:List Key){y:V}{u:Value}(ry:RelV y u) :
  KT H (kvs.map fun kv=>if kv.1=k then (kv.1,y) else kv) (xs.map (putAt k u)):=by
 induction r with
 | nil=>exact .nil
 | @cons p q ps qs h t ih =>
  rw[List.map_cons,List.map_cons];refine .cons ?_ ih;obtain⟨h1,h2,h3⟩:=h;unfold putAt;by_cases e:p.1=k
  ·rw[if_pos e,if_pos (h1.symm.trans e)];exact⟨h1,h2,ry⟩
  ·rw[if_neg e,if_neg (fun z=>e (h1.trans z))];exact⟨h1,h2,h3⟩
theorem KT.put {H:Hp}{kvs:List (List Key×V)}{xs:List (List Key×Addr×Value)}(r:KT H kvs xs)(k:List Key){b:Addr}{y:V}{u:Value}(hb:H b=some (.tup (k.map kV)))(ry:RelV y u) :
  KT H (putK kvs k y) (storedH xs k b u):=by
 have e:(kvs.any fun kv=>decide (kv.1=k))=(atKey xs k).isSome:=by
  rw[valV_any,(r.val k).isSome_eq,Option.isSome_map]
 unfold putK storedH;rw[e];by_cases q:(atKey xs k).isSome=true
 ·rw[if_pos q,if_pos q];exact r.repl k ry
 ·rw[if_neg q,if_neg q];exact Paired.snoc r ⟨rfl,hb,ry⟩
theorem KT.keeps {H H':Hp}{kvs:List (List Key×V)}{xs:List (List Key×Addr×Value)}(r:KT H kvs xs)(ht:∀ b ys,H b=some (.tup ys)->H' b=some (.tup ys)):KT H' kvs xs :=
 Paired.mapP r fun _ _ z=>⟨z.1,ht _ _ z.2.1,z.2.2⟩
section
variable {P:Program}{w:World}{H:Hp}{h:Heap}{a:Addr}
theorem rd_of {u:HO}(ok:HOk P w H h)(e:Rd H a u):ObjOk P w H h a u:=e.ok ok
theorem dk_rd {kvs:List (Key×V)}(ok:HOk P w H h)(e:Rd H a (.dK kvs)):kvs.length<=sizeLine/\(a==sysModules)=false/\∃ vs,KV kvs vs/\h.DictOf (mixKind P w) a vs :=
 show ObjOk P w H h a (.dK kvs) from rd_of ok e
theorem dk_of {kvs:List (Key×V)}(ok:HOk P w H h)(e:H a=some (.dK kvs)):kvs.length<=sizeLine/\(a==sysModules)=false/\∃ vs,KV kvs vs/\h.DictOf (mixKind P w) a vs:=dk_rd ok (.inl e)
theorem key_of {ks:List Key}(ok:HOk P w H h)(e:H a=some (.tup (ks.map kV))):(tupleKind (mixKind P w)).is h ks a:=by
 obtain⟨_,its,r,⟨o,h1,h2,n,h3⟩,_⟩:=(show ObjOk P w H h a (.tup (ks.map kV)) from ok a _ e);exact⟨o,its.toArray,n,h1,h2,h3,by simpa using items_are r⟩
theorem dt_rd {kvs:List (List Key×V)}(ok:HOk P w H h)(e:Rd H a (.dT kvs)):kvs.length<=sizeLine/\(a==sysModules)=false /\
  ∃ xs,KT H kvs xs/\h.DictOfH (tupleKind (mixKind P w)) a xs:=by
 obtain⟨z,y,xs,r,o,es,ep,h1,h2,h3,h4,h5⟩:=(show ObjOk P w H h a (.dT kvs) from rd_of ok e);refine⟨z,y,xs,r,o,es,ep,h1,h2,h3,h4,fun x hx=>?_,h5⟩;have all:∀ {l:List (List Key×V)} {m:List (List Key×Addr×Value)},KT H l m->∀ x∈m,(tupleKind (mixKind P w)).is h x.1 x.2.1:=by
  intro l m q;induction q with
  | nil=>intro x hx;exact nomatch hx
  | @cons p q ps qs hq t ih =>
   intro x hx;rcases List.mem_cons.mp hx with e | hx
   ·subst e
    exact key_of ok (by rw[<- hq.1];exact hq.2.1)
   ·exact ih x hx
 exact all r x hx
theorem dt_of {kvs:List (List Key×V)}(ok:HOk P w H h)(e:H a=some (.dT kvs)):kvs.length<=sizeLine/\(a==sysModules)=false /\
  ∃ xs,KT H kvs xs/\h.DictOfH (tupleKind (mixKind P w)) a xs:=dt_rd ok (.inl e)
end
def DGet (H:Hp)(a:Addr)(y:V)(r:Option V):Prop :=
 (∃ kvs k,Rd H a (.dK kvs)/\y=kV k/\r=valV kvs k)\/∃ kvs k b,Rd H a (.dT kvs)/\y=.ref b/\H b=some (.tup (k.map kV))/\r=valV kvs k
def DPut (H:Hp)(a:Addr)(y v:V)(H':Hp):Prop :=
 (∃ kvs k,H a=some (.dK kvs)/\y=kV k/\kvs.length < sizeLine/\H'=upd H a (.dK (putK kvs k v))) \/
 ∃ kvs k b,H a=some (.dT kvs)/\y=.ref b/\H b=some (.tup (k.map kV))/\kvs.length < sizeLine/\H'=upd H a (.dT (putK kvs k v))
theorem DGet.k {H:Hp}{a:Addr}{kvs:List (Key×V)}{k:Key}(e:H a=some (.dK kvs)):DGet H a (kV k) (valV kvs k):=.inl ⟨kvs,k,.inl e,rfl,rfl⟩
theorem DPut.k {H:Hp}{a:Addr}{kvs:List (Key×V)}{k:Key}{v:V}(e:H a=some (.dK kvs))(hl:kvs.length < sizeLine):DPut H a (kV k) v (upd H a (.dK (putK kvs k v))):=.inl ⟨kvs,k,e,rfl,hl,rfl⟩
section
variable {X:Cx}{pins:List (Addr×Obj)}{σ:St}{H:Hp}{s:Shared}{a:Addr}{y v:V}{u r:Value}{o:Option V}{A:Around}{E:Value->Shared->Prop}
theorem Inv.big (I:Inv X pins σ H s):sysModules < s.heap.objs.size:=by
 have h:mainGlobals < s.heap.objs.size:=(I.mod.glob.keeps I.bk).lt;exact Nat.lt_trans (by decide) h
theorem d_getItem {Q:Value->Shared->Prop}(hu:A.units + 1 < cLine)(I:Inv X pins σ H s)(g:DGet H a y (some v))(ry:RelV y u)(h:∀ w' s',Inv X pins σ H s'->RelV v w'->Q w' s') :
  wpAny (model X.prog X.w) A (getItem (.ref a) u) Q E s:=by
 rcases g with ⟨kvs,k,e,ey,l⟩|⟨kvs,k,b,e,ey,eb,l⟩
 ·subst ey
  obtain⟨z,hd,vs,rel,dd⟩:=dk_rd I.hok e;obtain⟨w',hw,rw'⟩:=RelO.some_of (v:=v) (o:=valueAt vs k) (by rw[l];exact rel.val k);exact wpAny_getItem_of (kV_is ry) dd.mapOf hw (h w' _ (I.tok _) rw')
 ·subst ey
  cases (show u=Value.ref b from ry);obtain⟨z,hd,xs,rel,dd⟩:=dt_rd I.hok e;obtain⟨w',hw,rw'⟩:=RelO.some_of (v:=v) (o:=(atKey xs k).map (·.2)) (by rw[l];exact rel.val k);obtain⟨p,hp,hp2⟩:=Option.map_eq_some_iff.mp hw;refine wpAny_getItem_heap (tupleKind_room_in1 hu) (key_of I.hok eb) dd hp ?_;rw[hp2];exact h w' _ (I.tok _) rw'
theorem d_in {Q:Value->Shared->Prop}(hu:A.units + 1 < cLine)(I:Inv X pins σ H s)(g:DGet H a y o)(ry:RelV y u)(h:∀ s',Inv X pins σ H s'->Q (.bool o.isSome) s') :
  wpAny (model X.prog X.w) A (compareOp .In u (.ref a)) Q E s:=by
 rcases g with ⟨kvs,k,e,ey,l⟩|⟨kvs,k,b,e,ey,eb,l⟩
 ·subst ey
  obtain⟨z,hd,vs,rel,dd⟩:=dk_rd I.hok e;refine wpAny_in_of (kV_is ry) hd dd.mapOf ?_;rw[<- (rel.val k).isSome_eq,<- l];exact h _ (I.tok _)
 ·subst ey
  cases (show u=Value.ref b from ry);obtain⟨z,hd,xs,rel,dd⟩:=dt_rd I.hok e;refine wpAny_in_heap (tupleKind_room_in1 hu) (key_of I.hok eb) hd dd ?_;have q:=(rel.val k).isSome_eq;rw[Option.isSome_map]at q;rw[<- q,<- l];exact h _ (I.tok _)
theorem d_notIn {Q:Value->Shared->Prop}(hu:A.units + 1 < cLine)(I:Inv X pins σ H s)(g:DGet H a y o)(ry:RelV y u)(h:∀ s',Inv X pins σ H s'->Q (.bool (!o.isSome)) s') :
  wpAny (model X.prog X.w) A (compareOp .NotIn u (.ref a)) Q E s:=by
 rcases g with ⟨kvs,k,e,ey,l⟩|⟨kvs,k,b,e,ey,eb,l⟩
 ·subst ey
  obtain⟨z,hd,vs,rel,dd⟩:=dk_rd I.hok e;refine wpAny_notIn_of (kV_is ry) hd dd.mapOf ?_;rw[<- (rel.val k).isSome_eq,<- l];exact h _ (I.tok _)
 ·subst ey
  cases (show u=Value.ref b from ry);obtain⟨z,hd,xs,rel,dd⟩:=dt_rd I.hok e;refine wpAny_notIn_heap (tupleKind_room_in1 hu) (key_of I.hok eb) hd dd ?_;have q:=(rel.val k).isSome_eq;rw[Option.isSome_map]at q;rw[<- q,<- l];exact h _ (I.tok _)
theorem d_write {h':Heap}{t':Nat}{ob:HO}(I:Inv X pins σ H s)(mu:Mut (H a))(hs:Heap.SameBut a s.heap h')(he:∃ q,h'.get? a=some q)(new:ObjOk X.prog X.w (upd H a ob) h' a ob) :
  Inv X pins σ (upd H a ob) { s with heap:=h',toks:=t' } :=
 I.write (x:=a) (e:=a) mu (.inl rfl) (fun b q hb z=>(hs.2 b hb).trans z) he new
theorem dk_new {P:Program}{w:World}{H':Hp}{h':Heap}{kvs:List (Key×V)}{vs:List (Key×Value)}(z:kvs.length<=sizeLine)(hd:(a==sysModules)=false)(rel:KV kvs vs)(dd:h'.DictOf (mixKind P w) a vs) :
  ObjOk P w H' h' a (.dK kvs):=⟨z,hd,vs,rel,dd⟩
theorem d_setItem {H':Hp}{Q:Unit->Shared->Prop}(hu:A.units + 1 < cLine)(I:Inv X pins σ H s)(g:DPut H a y v H')(ry:RelV y u)(rv:RelV v r)(h:∀ s',Inv X pins σ H' s'->Q () s') :
  wpAny (model X.prog X.w) A (setItem (.ref a) u r) Q E s:=by
 rcases g with ⟨kvs,k,e,ey,l,eH⟩|⟨kvs,k,b,e,ey,eb,l,eH⟩
 ·subst ey eH
  obtain⟨z,hd,vs,rel,dd⟩:=dk_of I.hok e;have hz:vs.length<=sizeLine:=by rw[<- rel.length];exact z
  have hl:(putK kvs k v).length<=sizeLine:=by have:=length_putK kvs k v;omega
  refine wpAny_setItem_pairs (hsz:=hz) (kV_is ry) dd fun h' dd' hs=>h _ ?_;have he:∃ q,h'.get? a=some q:=let ⟨q,_,_,hq,_⟩:=dd';⟨q,hq⟩;exact d_write I (by rw[e];exact True.intro) hs he (dk_new hl hd (rel.put k rv) dd')
 ·subst ey eH
  cases (show u=Value.ref b from ry);obtain⟨z,hd,xs,rel,dd⟩:=dt_of I.hok e;have hz:xs.length<=sizeLine:=by rw[<- Paired.length rel];exact z
  have hl:(putK kvs k v).length<=sizeLine:=by have:=length_putK kvs k v;omega
  refine wpAny_setItem_heap (hsz:=hz) (tupleKind_room_in1 hu) (key_of I.hok eb) dd fun h' dd' hs=>h _ ?_;obtain⟨q,es,ep,hq,h2,h3,h4,_,h5⟩:=dd';refine d_write I (by rw[e];exact True.intro) hs ⟨q,hq⟩ ⟨hl,hd,_,(rel.put k eb rv).keeps fun c ys ec=>?_,q,es,ep,hq,h2,h3,h4,h5⟩;rw[upd_ne (ne_of ec e (fun z=>nomatch z))];exact ec
end
section
variable {X:Cx}{pins:List (Addr×Obj)}{σ:St}{H:Hp}{s:Shared}{a:Addr}{kvs:List (Key×V)}{k:Key}{u:Value}{A:Around}{E:Value->Shared->Prop}
theorem d_len {Q:Value->Shared->Prop}(I:Inv X pins σ H s)(e:Rd H a (.dK kvs))(h:∀ t s',Inv X pins σ H s'->Q (.int kvs.length t) s'):wpAny (model X.prog X.w) A (call (.builtin "len") [.ref a]) Q E s:=by
 obtain⟨z,hd,vs,rel,dd⟩:=dk_rd I.hok e;refine call_len_dict hd dd (by rw[<- rel.length];rw[sizeLine_eq]at z;omega) ?_;rw[<- rel.length];exact h _ _ (I.tok _)
end
theorem dict_typeIs {X:Cx}{pins:List (Addr×Obj)}{σ:St}{H:Hp}{s:Shared}{a:Addr}{y:V}{o:Option V}(I:Inv X pins σ H s)(g:DGet H a y o):s.TypeIs (.ref a) "dict":=by
 rcases g with ⟨kvs,k,e,_,_⟩|⟨kvs,k,b,e,_,_,_⟩
 ·obtain⟨_,_,vs,_,dd⟩:=dk_rd I.hok e
  exact dd.typeIs
 ·obtain⟨_,_,xs,_,dd⟩:=dt_rd I.hok e
  exact dd.typeIs
section
variable {X:Cx}{o i e value:Expr}{pos pos' tpos:Pos}{td ty tv:TE}
end
theorem dk_empty {P:Program}{w:World}{H:Hp}(h:Heap)(hb:sysModules < h.objs.size):ObjOk P w H (h.push { cls:=.type "dict",data:=.dict #[] }) h.objs.size (.dK []) :=
 ⟨Nat.zero_le _,beq_eq_false_iff_ne.mpr (Ne.symm (Nat.ne_of_lt hb)),[],.nil,Heap.DictOf.new h⟩
def tDNewK:TE:=fun _ H Q=>∀ p,H p=none->Q (.ref p) (upd H p (.dK []))
section
variable {X:Cx}{pos:Pos}
theorem pe_dnewK:PE X (.Dict [] [] pos) tDNewK:=fun pins s σ H Q I h =>
 wpAny_Dict_empty ⟨.ref s.heap.objs.size,_,I.laid (a:=s.heap.objs.size) (o:=.dK []) (t':=s.toks) (fun _ _ q=>Heap.get?_push_of_some _ q) (Nat.le_refl _) (dk_empty s.heap I.big),rfl,h _ (I.hok.fresh (Nat.le_refl _))⟩
end
section
variable {X:Cx}{pins:List (Addr×Obj)}{σ:St}{H:Hp}{s:Shared}{a:Addr}{y d:V}{u r:Value}{o:Option V}{A:Around}{E:Value->Shared->Prop}
end
section
variable {X:Cx}{o e f:Expr}{apos cpos:Pos}{td ty tx:TE}
end
section
variable {X:Cx}{pins:List (Addr×Obj)}{σ:St}{H:Hp}{s:Shared}{a:Addr}{kvs:List (Key×V)}{A:Around}{E:Value->Shared->Prop}
end
section
variable {X:Cx}{pins:List (Addr×Obj)}{σ:St}{H:Hp}{s:Shared}{a:Addr}{y:V}{u:Value}{A:Around}{E:Value->Shared->Prop}
end
end L2
namespace Att
open PySem PySem.W PySem.Calls PyProof.Rows
theorem ints_of_wellAll {P:Params}{h:Heap}:∀ (ns:List Int) (vs:List Value),WellAll P h vs (ns.map WData.int)->IntsAre vs ns:=by
 intro ns;induction ns with
 | nil =>
  intro vs w;rw[List.map_nil]at w;cases w;exact .nil
 | cons n ns ih =>
  intro vs w;rw[List.map_cons]at w;cases w with
  | cons a b =>
   cases a;exact .cons _ _ (ih _ b)
theorem script_of {l:OpenLaw}{n:Nat}(hn:l.most=some n){P:Params}{h:Heap}{args:List WData}{vals:List Value}
  (hpre:l.row.toRowW.claim.pre args=true) (hwl:WellAll P h vals args) :
  ∃ a vs ns,vals=[Value.ref a]/\args=[WData.list (ns.map WData.int)]/\h.get? a=some { cls:=.type "list",data:=.seq vs.toArray }/\IntsAre vs ns/\ns.length<=n:=by
 have hsh:WShape.hasAll [] args [.list .int]=true:=(pre_splitW hpre).1;have hc:l.pre.holds [] { args:=args }=true:=(pre_splitW hpre).2;obtain⟨d,r,rfl,h1,h2⟩:=hasAllW_cons hsh;obtain rfl:=hasAllW_nil h2;obtain⟨xs,rfl,h3⟩:=hasW_list h1;obtain⟨ns,rfl⟩:=items_int h3;have hlen:ns.length<=n:=by
  unfold OpenLaw.pre at hc;have h4:(WTm.not (.lt (.lit (.int (n:Int))) (.len (.arg 0)))).holds [] { args:=[.list (ns.map .int)] }=true:=by
   have h4:=(holds_andW hc).1;rw[hn]at h4;exact h4
  have h5:=condW_of h4 (w_not (w_lt w_lit (w_len_list (w_arg rfl))));rw[List.length_map]at h5;refine Nat.le_of_not_lt fun q=>?_;have q':(n:Int) < ((ns.length:Nat):Int):=by first | lia | omega
  first
   | (rw[decide_eq_true q']at h5;exact absurd h5 (by decide))
   | (simp at h5;omega)
 cases hwl with
 | cons w1 w2 =>
  cases w2;cases w1 with
  | list ho hall=>exact⟨_,_,ns,rfl,rfl,ho,ints_of_wellAll ns _ hall,hlen⟩
theorem post_true (l:OpenLaw)(args:List WData):l.row.toRowW.claim.post args (.bool true) args=true :=
 postW_of (r:=l.row.toRowW) (X:=(true==true))
  (show WShape.has [] (.bool true) .bool=true by first | rfl | decide | simp[WShape.has,WShape.arms,WShape.armsAll])
  (show (WTm.eq .res (.lit (.bool true))).value [] { args:=args,res:=some (.bool true),after:=args }=some (.bool (true==true)) from w_eq_bool (w_res rfl) w_lit) rfl
theorem attach_call {l:OpenLaw}{n:Nat}{q:Program}{loose:List Str}{XP:(Str->Option Value)->Heap->Prop}{YP:World->Heap->Prop}{d:DefRec}
  (hn:l.most=some n) (hdf:d.params.defaults=[])
  (call:∀ (w:World) (s₀ s₁:Shared) (mg mb:Str->Option Value) (fa:Addr) (o:Obj) (pm cd doc:Value) (a:Addr) (vs:List Value) (ns:List Int),
   Ground q loose [] XP w s₀ mg mb s₁.heap->YP w s₁.heap ->
   s₁.heap.get? fa=some o->o.data=.func (docDef d.name d.params d.body d.scope pm cd doc)->s₁.heap.CodeRec cd d.name->mg d.name=some (.ref fa) ->
   s₁.heap.get? a=some { cls:=.type "list",data:=.seq vs.toArray }->IntsAre vs ns->ns.length<=n->s₁.gens = #[] ->
   codeAny (model l.prog w) callerA (.call (.ref fa) ⟨[.ref a],[]⟩) (fun r s'=>r=.ok (.ret (.bool true))/\OldK s₁.heap s'.heap/\s'.os=s₁.os/\AllBare s'.gens) s₁) :
  WalkO q loose XP YP l.row.toRowW d [] (fun f vs=>PySem.call f vs):=by
 intro w s₀ s₁ mg mb G Y fa o pm cd doc dV kV ho hd hcd hD hmg hg args vals as hpre hlay hrd hwl hlo;obtain rfl:dV=.none:=Dflts.none hD hdf;obtain rfl:kV=.none:=Dflts.noKw hD;obtain⟨a,vs,ns,rfl,rfl,hobj,hints,hlen⟩:=script_of hn hpre hwl;refine enter_call (codeAny_mono (call w s₀ s₁ mg mb fa o pm cd doc a vs ns G Y ho (fd_plain hd) hcd hmg hobj hints hlen hg) fun r s' hq=>?_);obtain⟨rfl,h2,h3,h4⟩:=hq;exact⟨.inl ⟨.bool true,.bool true,[],rfl,fun _=>rfl,.bool true,post_true l _,fun _=>⟨List.Pairwise.nil,fun _ hm=>(nomatch hm)⟩⟩,h2,h3,h4⟩
section
variable {prog:Program}{w:World}{A:Around}{E:Value->Shared->Prop}{s:Shared}{K:Frag}
end
end Att
namespace L2
open PySem PySem.Spec PyProof.Rows
theorem vals_ints:∀ {vs:List Value} {ns:List Int},IntsAre vs ns->Vals (ns.map V.int) vs
 | _,_,.nil=>.nil
 | _,_,.cons n t h=>.cons ⟨t,rfl⟩ (vals_ints h)
def Only (H:Hp):Prop:=∀ b,H b=none\/∃ o xs,H b=some (.frz o (.lst xs))
theorem law_call {P:Program}{w:World}{K:PySem.W.Frag}{mg mb:Str->Option Value}{CX:CXT}{k:Nat}{fa a:Addr}{fd:FuncData}{x:Str}{sp:Sp}{s₁:Shared}{vs:List Value}{ns:List Int}
  (KX:K.In s₁.heap) (hns:s₁.heap.Ns mainGlobals mg) (hb:s₁.heap.Ns builtinsNs mb) (hbb:∀ x:Str,x≠"__name__"->mb x=bootBuiltins x) (hlim:s₁.heap.NoLimit) (hg:s₁.gens = #[])
  (ha:s₁.heap.get? a=some { cls:=.type "list",data:=.seq vs.toArray }) (hi:IntsAre vs ns) (hl:ns.length<=sizeLine) (hr:Room k callerA)
  (F:∀ base:Heap,K.In base->base.Ns mainGlobals mg->FnOk P w K mg base CX k fa fd [x] sp) (hbind:∀ (s:Shared) (u:Value),BindsTo s fd ⟨[u],[]⟩ [(x,u)])
  (hsp:∀ H:Hp,Only H->SqL K H a (ns.map V.int)->sp [.ref a] H (fun v _=>v=.bl true) fun _ _ _=>False)
  (hCX:∀ H e s',CX [] H s₁ (fun _ _ _=>False) e s'->False) :
  codeAny (model P w) callerA (.call (.ref fa) ⟨[.ref a],[]⟩) (fun r s'=>r=.ok (.ret (.bool true))/\OldK s₁.heap s'.heap/\s'.os=s₁.os/\AllBare s'.gens) s₁:=by
 have rv:=vals_ints hi;have lenV:=hi.length;have core:∀ H:Hp,Only H->SqL K H a (ns.map V.int)->HOk P w H s₁.heap->(∀ b,H b≠none->b=a)->(H a≠none->K.lookup a=none) ->
   codeAny (model P w) callerA (.call (.ref fa) ⟨[.ref a],[]⟩) (fun r s'=>r=.ok (.ret (.bool true))/\OldK s₁.heap s'.heap/\s'.os=s₁.os/\AllBare s'.gens) s₁:=by
  intro H hO hS hok hA hK;have base_of:∀ {b:Addr} {o:Obj},s₁.heap.get? b=some o->H b=none->(hidT s₁.heap H).get? b=some o:=fun e n=>hidT_get e n;have noA:∀ {b:Addr} {o:Obj} {es:Array DictEntry} {ep:Nat},s₁.heap.get? b=some o->o.data=.dict es ep->H b=none:=fun {b o es ep} e d=>by
   cases q:H b with
   | none=>rfl
   | some u =>
    have e':b=a:=hA b (by rw[q];simp);subst e';rw[ha]at e;cases e;have d':Data.seq vs.toArray _=Data.dict es ep:=d;cases d'
  have nsK:∀ {b:Addr} {m:Str->Option Value},s₁.heap.Ns b m->(hidT s₁.heap H).Ns b m:=fun {b m} ⟨o,es,ep,e,d,r⟩=>⟨o,es,ep,base_of e (noA e d),d,r⟩;have hKb:K.In (hidT s₁.heap H):=fun b o e=>base_of (KX b o e) (by
   cases q:H b with
   | none=>rfl
   | some u =>
    have e':b=a:=hA b (by rw[q];simp);subst e';rw[hK (by rw[q];simp)]at e;cases e)
  have hM:Mod K mg (hidT s₁.heap H):=⟨hKb,nsK hns,⟨mb,nsK hb,hbb⟩,let ⟨mc,h1,h2⟩:=hlim;⟨mc,nsK h1,h2⟩⟩;have e0:Env0 P w K mg (hidT s₁.heap H) callerA [] s₁ H:=⟨rfl,hM,fun b o e=>of_hidT e,Nat.le_of_eq (hidT_size _ _),trivial,fun b hb=>absurd (show b∈([]:List Addr) from hb) (by simp),hok,.of_eq hg⟩;refine codeAny_mono ((F _ hKb (nsK hns)).run callerA [] s₁ H ⟨[.ref a],[]⟩ [.ref a] [.ref a] _ _ hr e0 (hbind s₁ (.ref a)) (.cons rfl .nil) (hsp H hO hS)) fun r s' h=>?_;cases r with
  | error e=>exact(hCX H e s' h).elim
  | ok fl =>
   cases fl with
   | next=>exact False.elim h
   | brk=>exact False.elim h
   | cont=>exact False.elim h
   | ret u =>
    obtain⟨v,H',os,bare,un,hok',r',q⟩:=h;have q':v=.bl true:=q;subst q';obtain rfl:u=Value.bool true:=r';refine⟨rfl,OldK.of_keep fun b o e=>?_,os,bare⟩;cases q:H b with
    | none=>exact un.keep b o e q (by intro z;exact absurd (show b∈([]:List Addr) from z) (by simp)) (by simp)
    | some u =>
     rcases hO b with z | ⟨ob,xs,z⟩
     ·rw[q]at z;cases z
     ·have z2:=un.frzs b ob _ z
      obtain⟨e1,_⟩:=hok b _ z;obtain⟨e2,_⟩:=hok' b _ z2;rw[e]at e1;cases e1;exact e2
 cases hk:K.lookup a with
 | some o =>
  have e:=KX a o hk;rw[ha]at e;cases e;refine core (fun _=>none) (fun _=>.inl rfl) (.inr ⟨_,vs.toArray,_,hk,rfl,rfl,rfl,by rw[List.size_toArray,lenV];exact hl,by simpa using rv⟩) (fun b u z=>by have z':(none:Option HO)=some u:=z;cases z') (fun b z=>absurd rfl z) fun z=>absurd rfl z
 | none =>
  refine core (fun b=>if b=a then some (.frz { cls:=.type "list",data:=.seq vs.toArray } (.lst (ns.map V.int))) else none) (fun b=>?_) (.inl (.inr ⟨{ cls:=.type "list",data:=.seq vs.toArray },if_pos rfl⟩)) (fun b u z=>?_) (fun b z=>?_) fun _=>hk
  ·by_cases hb:b=a
   ·exact .inr ⟨_,_,if_pos hb⟩
   ·exact .inl (if_neg hb)
  ·by_cases hb:b=a
   ·have z':=(if_pos hb).symm.trans z
    cases z';subst hb;exact⟨ha,by rw[List.length_map];exact hl,vs,_,rv,ha⟩
   ·have z':=(if_neg hb).symm.trans z
    cases z'
  ·by_cases hb:b=a
   ·exact hb
   ·exact absurd (if_neg hb) z
end L2
namespace L2
open PySem PySem.Spec PyProof.Rows
end L2
/- THE LAST THEOREM (shape;LID,My.* are yours):
   My.Adr: a structure of the addresses that your layer names (classes,functions);My.Txt K t: a structure (Prop) of the equations over K;
   My.txt_mk:{K} {implicit addresses ..} (e1:nsIn K mainGlobals "law" = some (some (.ref f))) (e2:K.lookup f=some ⟨oc,od,.func (fnOf "law" "law" params body scope dV kV doc pm an cdv ct),sl⟩) (e3:codeIn K cdv "law" = true) .. : ∃ t,My.Txt K t
set_option maxRecDepth 100000 in
set_option maxHeartbeats 0 in
theorem PySem.Challenge.cw_LID_holds:PySem.Challenge.rw_LID.Holds:=by
 w_on;o_law;k_head;(case hw=>w_witness2)
 k_fill
 refine L2.walk_of (l:=PySem.Challenge.rw_LID) (n:=63) (k:=40) (x:="script") (CX:=fun w=>..) (sp:=fun _=>My.sp_law) rfl (by decide) rfl ⟨rfl,by decide,by decide⟩ (fun w h Y=>PySem.W.kIn_of Y) ?F ?S ?C
 case F =>
  intro w mg fa h KX G hmg;have T:∃ t,My.Txt (L2.KOf KX) t:=by
   dsimp only[L2.KOf]                          -- K must stand as «<heap const> w.params» for k_is
   refine' My.txt_mk ?e1 ?e2 ?e3 ..
   (case e1=>PySem.W.k_is)                    -- in the order: a name -> its address -> its object -> its parts
   (case e2=>PySem.W.k_is)
   ..
  obtain⟨t,T⟩:=T;have e0:=hmg.symm.trans (PySem.W.mg_of KX G T.law);cases e0                                       -- fa is the law's own address
  exact⟨_,fun s u=>.of_eq rfl,fun base kb nb=>My.law_fn T kb nb⟩     -- if «.of_eq rfl» comes too early: refine' ⟨_,?b,fun base kb nb=>My.law_fn T kb nb⟩;exact fun s u=>.of_eq rfl
 case S=>exact fun w H a ns hl hO hS=>..
 case C=>exact ..
(the tactic k_is has no namespace: write k_is) -/
namespace L2
open PySem PySem.Spec PyProof.Rows
def defArgs (s:Stmt):Arguments:=match s with
 | .FunctionDef _ a _ _ _ _ _ _ _ _=>a
 | _=>{ posonlyargs:=[],args:=[],vararg:=none,kwonlyargs:=[],kw_defaults:=[],kwarg:=none,defaults:=[] }
def defBody (s:Stmt):List Stmt:=match s with
 | .FunctionDef _ _ b _ _ _ _ _ _ _=>b
 | _=>[]
def defScope (s:Stmt):Scope:=match s with
 | .FunctionDef _ _ _ _ _ _ sc _ _ _=>sc
 | _=>{ kind:=.function,names:=[],isGenerator:=false,isCoroutine:=false }
abbrev CX0:CXT:=fun _ _ _ _ _ _=>False
abbrev E0:XK:=fun _ _ _=>False
theorem pass0 {X:Cx}:Passes CX0 X E0:=fun _ _ _ _ _ _ _ h=>h.elim
structure Fun (K:PySem.W.Frag) (x qual:Str) (st:Stmt) (f:Addr) (fd:FuncData):Prop where
 ex:∃ (oc:Value) (od:Option Addr) (kV doc pm:Value) (an:Option Addr) (cdv ct:Value) (osl:Array (Option Value)),
  fd=PySem.W.fnOf x qual (defArgs st) (defBody st) (defScope st) .none kV doc pm an cdv ct/\K.lookup f=some ⟨oc,od,.func fd,osl⟩/\PySem.W.codeIn K cdv qual=true
 kp:PySem.W.keepIn K (.ref f)=true
section
variable {P:Program}{w:World}{K:PySem.W.Frag}{mg:Str->Option Value}{base:Heap}
theorem Fun.ok {x qual:Str}{st:Stmt}{f:Addr}{fd:FuncData}{N ps:List Str}{k:Nat}{sp:Sp}(F:Fun K x qual st f fd)(S:FnScope N ps (defScope st))(len:∀ vs H Q E,sp vs H Q E->vs.length=ps.length)
  (hbody:∀ (cdv:Value) (A:Around) (outer:List Env) (s:Shared) (H:Hp) (vs:List V) (Q:VK) (E:XK),Room k (A.deeper (envOfC qual (defScope st) s.heap.objs.size f cdv))->sp vs H Q E ->
   ∃ t,PSs (cxOf CX0 P w K mg base N qual (defScope st) f cdv A outer s H E).nox (defBody st) t/\t { nx:=fun _ H'=>Q .non H',rt:=Q } (start N vs) H):FnOk P w K mg base CX0 (k + 1) f fd ps sp:=by
 obtain⟨oc,od,kV,doc,pm,an,cdv,ct,osl,rfl,lk,hcd⟩:=F.ex;refine fn_of lk hcd S len fun A outer s H vs Q E hr hsp=>?_;obtain⟨t,h,q⟩:=hbody cdv A outer s H vs Q E hr hsp;exact⟨t,h.nox,q⟩
theorem Fun.binds {x qual:Str}{st:Stmt}{f:Addr}{fd:FuncData}{ps:List Str}(F:Fun K x qual st f fd)
  (h:∀ (kV doc pm:Value) (an:Option Addr) (cdv ct:Value) (us:List Value),us.length=ps.length->bindArgs (PySem.W.fnOf x qual (defArgs st) (defBody st) (defScope st) .none kV doc pm an cdv ct) ⟨us,[]⟩=pure (ps.zip us)):Binds K fd ps []:=by
 obtain⟨oc,od,kV,doc,pm,an,cdv,ct,osl,rfl,lk,hcd⟩:=F.ex;exact .all (h kV doc pm an cdv ct)
theorem fun_mk {x qual:Str}{st:Stmt}{f:Addr}{oc:Value}{od an:Option Addr}{osl:Array (Option Value)}{kV doc pm cdv ct:Value}(l:K.lookup f=some ⟨oc,od,.func (PySem.W.fnOf x qual (defArgs st) (defBody st) (defScope st) .none kV doc pm an cdv ct),osl⟩)
  (c:PySem.W.codeIn K cdv qual=true) (k:PySem.W.keepIn K (.ref f)=true):Fun K x qual st f (PySem.W.fnOf x qual (defArgs st) (defBody st) (defScope st) .none kV doc pm an cdv ct):=⟨⟨oc,od,kV,doc,pm,an,cdv,ct,osl,rfl,l,c⟩,k⟩
end
section
variable {X:Cx}
end
end L2
set_option maxHeartbeats 4000000
namespace L3
open PySem PySem.Spec PyProof.Rows L2
section
variable {M:Model}{A:Around}{E:Value->Shared->Prop}{s:Shared}
theorem dict_mapF (f:Array Value->Array Value)(o:Obj):(Obj.mapFields f o).dict=o.dict:=by
 obtain⟨c,d,dt,sl⟩:=o;cases dt <;> rfl
noncomputable def FlyT (e T:Addr)(cls:Value)(dd:Option Addr)(h:Heap):Prop:=∃ oe vs oT ts,h.get? e=some oe/\oe.cls=cls/\oe.dict=dd/\oe.data=.fields vs/\vs[1]?=some (.ref T)/\T≠e/\h.get? T=some oT/\oT.data=.fields ts/\ts[3]?=some .none
structure Mv (fs ch:List Addr) (h h':Heap):Prop where
 keep:∀ b o,b ∉ fs->b ∉ ch->h.get? b=some o->h'.get? b=some o
 slot:∀ b o,b ∉ ch->h.get? b=some o->∃ sl,h'.get? b=some { o with slots:=sl }
 there:∀ b o,h.get? b=some o->∃ o',h'.get? b=some o'
theorem note_new {base:Heap}{env:Env}{outer:List Env}{L e:Addr}{oe:Obj}{vs:Array Value}{head:Value}{hadNext:Bool}{Q:Unit->Shared->Prop}
  (hfr:A.frames=some (env::outer)) (hl:s.heap.FunFrames base (env::outer)) (hf:env.frame=some L)
  (he:s.heap.get? e=some oe) (hd:oe.data=.fields vs) (hsz:1 < vs.size)
  (h:∀ h' T,FlyT e T oe.cls oe.dict h'->s.heap.objs.size<=T->Mv (frs (env::outer)) [e] s.heap h'->Q () { s with heap:=h' }) :
  wpAny M A (do let a <- frameOf env;let pl <- entryPlaceOf L hadNext;let b <- EntryCells.newEntry head a .none (rawInt L) .none pl;setField (.ref e) 1 b) (fun _ s'=>wpAny M A (setFlight (.ref e) none) Q E s') E s:=by
 have hene:e ∉ (env::outer).filterMap (·.frame):=fun hm=>by
  obtain⟨_,o,ho,hnf⟩:=hl.mem hm;rw[he]at ho;injection ho with ho;subst ho;exact hnf vs hd
 refine wpAny_bind (wpAny_frameOf_fun hfr hl hf fun h1 hs1=>?_);refine wpAny_bind (wpAny_entryPlaceOf fun pl hpl=>?_);unfold EntryCells.newEntry newFields;refine wpAny_bind (wpAny_newObj_type ?_ (hpl.sizeOk5 _ _ _ _ _));have he1:h1.get? e=some oe:=(hs1.2.1 e hene).trans he;generalize hob:({ cls:=.type "traceback",dict:=none,data:=.fields ([head,.ref L,.none,rawInt L,.none]++(if pl.isEmpty then List.replicate 6 Value.none else pl)).toArray }:Obj)=ob;have hobd:ob.data=.fields ([head,.ref L,.none,rawInt L,.none]++(if pl.isEmpty then List.replicate 6 Value.none else pl)).toArray:=by rw[<- hob]
 have hobf:ob.isFreed=false:=by rw[<- hob];rfl
 have he2:=Heap.get?_push_of_some (h:=h1) ob he1;refine wpAny_setField he2 hd hsz ?_;have hTe:h1.objs.size≠e:=Nat.ne_of_gt (Heap.lt_size he1);have hd3:=Obj.data_mapFields hd (·.setIfInBounds 1 (Value.ref h1.objs.size));have he3:=Heap.get?_update_self (Obj.mapFields (·.setIfInBounds 1 (Value.ref h1.objs.size))) he2 (Obj.isFreed_of_fields hd3);have hT3:=(Heap.get?_update_other (h1.push ob) (Obj.mapFields (·.setIfInBounds 1 (Value.ref h1.objs.size))) (Ne.symm hTe)).trans (Heap.get?_push_size h1 hobf);unfold setFlight;refine wpAny_bind (wpAny_field he3 hd3 (x:=.ref h1.objs.size) (by simp[hsz]) ?_);rw[if_pos (show (Value.ref h1.objs.size != Value.none)=true from by simp)];refine wpAny_setField hT3 hobd (by simp only[List.size_toArray,List.length_append,List.length_cons,List.length_nil] <;> omega) (h _ h1.objs.size ?_ (by rw[hs1.1];exact Nat.le_refl _) ?_)
 ·refine⟨_,_,_,_,?_,Obj.cls_mapFields _ _,dict_mapF _ _,hd3,by simp[hsz],hTe,Heap.get?_update_self _ hT3 (Obj.isFreed_of_fields (Obj.data_mapFields hobd _)),Obj.data_mapFields hobd _,by first | (simp;done) | (rcases hpl with rfl | ⟨_,_,_,_,_,_,_,rfl⟩ <;> simp)⟩
  rw[Heap.get?_update_other _ _ hTe];exact he3
 ·have keep:∀ b o,b≠e->h1.get? b=some o->(((h1.push ob).update e (Obj.mapFields (·.setIfInBounds 1 (Value.ref h1.objs.size)))).update h1.objs.size (Obj.mapFields (·.setIfInBounds 3 ((none:Option Addr).elim Value.none fun f=>rawInt f)))).get? b=some o:=fun b o hbe hb=>by
   have hbT:h1.objs.size≠b:=Nat.ne_of_gt (Heap.lt_size hb);rw[Heap.get?_update_other _ _ hbT,Heap.get?_update_other _ _ (Ne.symm hbe)];exact Heap.get?_push_of_some _ hb
  refine⟨fun b o hf hc hb=>keep b o (by simpa using hc) ((hs1.2.1 b hf).trans hb),fun b o hc hb=>?_,fun b o hb=>?_⟩
  ·obtain⟨sl,hs⟩:=hs1.2.2 b o hb
   exact⟨sl,keep b _ (by simpa using hc) hs⟩
  ·by_cases hbe:b=e
   ·subst hbe
    rw[Heap.get?_update_other _ _ hTe];exact⟨_,he3⟩
   ·obtain⟨sl,hs⟩:=hs1.2.2 b o hb
    exact⟨_,keep b _ hbe hs⟩
theorem leaves_made {base:Heap}{env:Env}{outer:List Env}{L e:Addr}{oe:Obj}{vs:Array Value}{Q:Unit->Shared->Prop}
  (hfr:A.frames=some (env::outer)) (hl:s.heap.FunFrames base (env::outer)) (hf:env.frame=some L) (he:s.heap.get? e=some oe) (hd:oe.data=.fields vs) (h1:vs[1]?=some .none)
  (h:∀ h' T,FlyT e T oe.cls oe.dict h'->s.heap.objs.size<=T->Mv (frs (env::outer)) [e] s.heap h'->Q () { s with heap:=h' }):wpAny M A (leaving env (.ref e)) Q E s:=by
 unfold leaving noteFrame;simp only[hf];refine wpAny_bind (wpAny_bind (wpAny_field he hd h1 ?_));rw[if_neg (by decide)];exact note_new hfr hl hf he hd (Array.getElem?_eq_some_iff.mp h1).1 h
theorem looks_on {base:Heap}{env:Env}{outer:List Env}{L e T:Addr}{cls:Value}{dd:Option Addr}{Q:Unit->Shared->Prop}
  (hfr:A.frames=some (env::outer)) (hl:s.heap.FunFrames base (env::outer)) (hf:env.frame=some L) (ht:FlyT e T cls dd s.heap)
  (h:∀ h' T',FlyT e T' cls dd h'->s.heap.objs.size<=T'->Mv (frs (env::outer)) [e,T] s.heap h'->Q () { s with heap:=h' }):wpAny M A (noteFrame (.ref e) env) (fun _ s2=>wpAny M A (setFlight (.ref e) none) Q E s2) E s:=by
 obtain⟨oe,vs,oT,ts,he,hcls,hdd,hd,h1,hTe,hT,hdT,h3⟩:=ht;subst hcls hdd;unfold noteFrame;simp only[hf];refine wpAny_bind (wpAny_field he hd h1 ?_);rw[if_pos (show (Value.ref T != Value.none)=true from by simp)];refine wpAny_bind (wpAny_field hT hdT h3 ?_);rw[if_neg (show ¬ ((Value.none==rawInt L)=true) from by simp[rawInt])];refine wpAny_bind (wpAny_setField hT hdT (Array.getElem?_eq_some_iff.mp h3).1 ?_);have other:∀ b,b≠T->(s.heap.update T (Obj.mapFields (·.setIfInBounds 3 Value.none))).get? b=s.heap.get? b:=fun b hb=>Heap.get?_update_other _ _ (Ne.symm hb);have noRecord:∀ b o,s.heap.get? b=some o->(∀ vs,o.data≠.fields vs)->b≠T:=fun b o hb hnf q=>by
  rw[q,hT]at hb;injection hb with hb;subst hb;exact hnf ts hdT
 have hTT:∃ o',(s.heap.update T (Obj.mapFields (·.setIfInBounds 3 Value.none))).get? T=some o':=⟨_,Heap.get?_update_self _ hT (Obj.isFreed_of_fields (Obj.data_mapFields hdT _))⟩;refine note_new hfr (hl.of_keeps fun b o hb hnf=>⟨o,(other b (noRecord b o hb hnf)).trans hb,rfl⟩) hf ((other e (Ne.symm hTe)).trans he) hd (Array.getElem?_eq_some_iff.mp h1).1 fun h' T' hF hT' mv=>h h' T' hF (by rw[Heap.size_update]at hT';exact hT') ?_;refine⟨fun b o hf hc hb=>?_,fun b o hc hb=>?_,fun b o hb=>?_⟩
 ·simp only[List.mem_cons,List.not_mem_nil,or_false,not_or]at hc
  exact mv.keep b o hf (by simpa using hc.1) ((other b hc.2).trans hb)
 ·simp only[List.mem_cons,List.not_mem_nil,or_false,not_or]at hc
  exact mv.slot b o (by simpa using hc.1) ((other b hc.2).trans hb)
 ·by_cases hbT:b=T
  ·subst hbT
   obtain⟨o',ho'⟩:=hTT;exact mv.there _ _ ho'
  ·exact mv.there b o ((other b hbT).trans hb)
theorem lands {e T:Addr}{cls:Value}{dd:Option Addr}{Q:Unit->Shared->Prop}(ht:FlyT e T cls dd s.heap)(h:∀ h',FlyT e T cls dd h'->(∀ b o,b≠T->s.heap.get? b=some o->h'.get? b=some o)->Q () { s with heap:=h' }):wpAny M A (setFlight (.ref e) none) Q E s:=by
 obtain⟨oe,vs,oT,ts,he,hcls,hdd,hd,h1,hTe,hT,hdT,h3⟩:=ht;have hsz3:3 < ts.size:=(Array.getElem?_eq_some_iff.mp h3).1;have other:∀ b,b≠T->(s.heap.update T (Obj.mapFields (·.setIfInBounds 3 ((none:Option Addr).elim Value.none fun f=>rawInt f)))).get? b=s.heap.get? b:=fun b hb=>Heap.get?_update_other _ _ (Ne.symm hb);unfold setFlight;refine wpAny_bind (wpAny_field he hd h1 ?_);rw[if_pos (show (Value.ref T != Value.none)=true from by simp)];refine wpAny_setField hT hdT hsz3 (h _ ?_ fun b o hb e=>(other b hb).trans e);exact⟨oe,vs,_,_,(other e (Ne.symm hTe)).trans he,hcls,hdd,hd,h1,hTe,Heap.get?_update_self _ hT (Obj.isFreed_of_fields (Obj.data_mapFields hdT _)),Obj.data_mapFields hdT _,by simp[hsz3]⟩
end
end L3
namespace L3
open PySem PySem.Spec PyProof.Rows L2
noncomputable def bmV:List Value:=[.type "ValueError",.type "Exception",.type "BaseException",.type "object"]
noncomputable def stillC:List Str:=["__class__","__getattribute__","__getattr__","__setattr__","at"]
noncomputable def stillD:List Str:=stillC++quietNames
noncomputable def ZC (h:Heap)(C:Addr)(bm:List Value)(ns:List Str)(hdct:Bool)(ini:Option Value):Prop:=∃ N nm q bs sn sub ab col dd k0 k1 k2 k3 k5 mN,h.get? C=some (excClassObj nm q C N bs bm hdct sn sub ab col dd k0 k1 k2 k3 k5 "ValueError.__new__")/\h.Ns N mN/\(∀ n∈ns,mN n=none)/\mN "__init__" = ini
noncomputable def ZH (h:Heap)(C D fI:Addr):Prop:=ZC h C (.ref D::bmV) stillC true (some (.ref fI))/\(∃ b,ZC h D bmV stillD b none)/\∃ oI,h.get? fI=some oI/\oI.cls=.type "function"
noncomputable def ZB (h:Heap)(B:Addr):Prop:=∃ o cd,h.get? B=some o/\o.cls=.type "type"/\o.data=.cls cd
noncomputable def ZE (h:Heap)(e C:Addr):Prop:=∃ oe,h.get? e=some oe/\oe.cls=.ref C
theorem ZC.keeps {h h':Heap}{C:Addr}{bm:List Value}{ns:List Str}{hdct:Bool}{ini:Option Value}(z:ZC h C bm ns hdct ini)(k:∀ b o,h.get? b=some o->h'.get? b=some o):ZC h' C bm ns hdct ini:=by
 obtain⟨N,nm,q,bs,sn,sub,ab,col,dd,k0,k1,k2,k3,k5,mN,h1,h2,h3⟩:=z;exact⟨N,nm,q,bs,sn,sub,ab,col,dd,k0,k1,k2,k3,k5,mN,k _ _ h1,h2.keeps k,h3⟩
theorem ZH.keeps {h h':Heap}{C D fI:Addr}(z:ZH h C D fI)(k:∀ b o,h.get? b=some o->h'.get? b=some o):ZH h' C D fI:=by
 obtain⟨z1,⟨b,z2⟩,oI,z3,z4⟩:=z;exact⟨z1.keeps k,⟨b,z2.keeps k⟩,oI,k _ _ z3,z4⟩
theorem ZH.tail {h:Heap}{C D fI:Addr}(z:ZH h C D fI):OwnTailQ h bmV (.ref D::bmV):=by
 obtain⟨_,⟨b,N,nm,q,bs,sn,sub,ab,col,dd,k0,k1,k2,k3,k5,mN,h1,h2,h3,_⟩,_⟩:=z;exact .own h1 h2 (fun n hn=>h3 n (List.mem_append_right _ hn)) .base
section
variable {prog:Program}{w:World}{A:Around}{E:Value->Shared->Prop}{h:Heap}{g:Array GenState}{d:Drawn}{t:Nat}{os:OsState}{e C D fI:Addr}
theorem z_type {M:Model}{Q:Value->Shared->Prop}{s:Shared}(x:ZE s.heap e C)(hq:Q (.ref C) s):wpAny M A (typeOf (.ref e)) Q E s:=by
 obtain⟨oe,he,hc⟩:=x;unfold typeOf;exact wpAny_bind (wpAny_loadPart he (wpAny_pure (hc ▸ hq)))
theorem z_sub {M:Model}{base:Value}{b:Bool}{Q:Bool->Shared->Prop}{s:Shared}(z:ZH s.heap C D fI)(hb:(Value.ref C::Value.ref D::bmV).contains base=b)(hq:Q b s):wpAny M A (isSubtype (.ref C) base) Q E s:=by
 obtain⟨⟨N,nm,q,bs,sn,sub,ab,col,dd,k0,k1,k2,k3,k5,mN,h1,_,_,_⟩,_⟩:=z;obtain⟨hh,g,d,t,os⟩:=s;exact wpAny_isSubtype_exc h1 (hb ▸ hq)
theorem z_look {M:Model}{n:Str}{y:Option Value}{Q:Option Value->Shared->Prop}{s:Shared}(z:ZH s.heap C D fI)(hn:n∈stillC)(hB:typeLookup (.type "ValueError") n=pure y)(hq:Q y s):wpAny M A (typeLookup (.ref C) n) Q E s:=by
 obtain⟨⟨N,nm,q,bs,sn,sub,ab,col,dd,k0,k1,k2,k3,k5,mN,h1,h2,h3,_⟩,⟨b',N',nm',q',bs',sn',sub',ab',col',dd',k0',k1',k2',k3',k5',mN',h1',h2',h3',_⟩,_⟩:=z;have hrest:lookupAlong bmV n=pure y:=by rw[typeLookup_eq,F.excBase_ValueError.mroIs]at hB;exact hB
 obtain⟨hh,g,d,t,os⟩:=s;rw[typeLookup_eq];refine wpAny_bind (wpAny_mroOf_exc h1 ?_);rw[lookupAlong_cons];refine wpAny_bind (wpAny_classOwn_exc h1 h2 ?_);rw[h3 n hn];show wpAny M A (lookupAlong (Value.ref D::bmV) n) Q E _;rw[lookupAlong_cons];refine wpAny_bind (wpAny_classOwn_exc h1' h2' ?_);rw[h3' n (List.mem_append_left _ hn)];show wpAny M A (lookupAlong bmV n) Q E _;rw[hrest];exact wpAny_pure hq
theorem z_isType {M:Model}{Q:Bool->Shared->Prop}{s:Shared}{B:Addr}(z:ZB s.heap B)(hq:Q true s):wpAny M A (isType (.ref B)) Q E s:=by
 obtain⟨⟨oc,od,da,sl⟩,cd,h1,h2,h3⟩:=z;cases h3;unfold isType loadHead;exact wpAny_bind (wpAny_loadPart h1 (wpAny_pure hq))
theorem z_typeB {M:Model}{Q:Value->Shared->Prop}{s:Shared}{B:Addr}(z:ZB s.heap B)(hq:Q (.type "type") s):wpAny M A (typeOf (.ref B)) Q E s:=by
 obtain⟨o,cd,h1,h2,h3⟩:=z;unfold typeOf;exact wpAny_bind (wpAny_loadPart h1 (wpAny_pure (h2 ▸ hq)))
theorem ZC.cls {h:Heap}{C:Addr}{bm:List Value}{ns:List Str}{hdct:Bool}{ini:Option Value}(z:ZC h C bm ns hdct ini):ZB h C:=by
 obtain⟨N,nm,q,bs,sn,sub,ab,col,dd,k0,k1,k2,k3,k5,mN,h1,_,_⟩:=z;exact⟨_,_,h1,rfl,rfl⟩
theorem z_lk_class:typeLookup (.type "ValueError") "__class__" = pure (some (.builtin "object.__class__")):=by rw[typeLookup_type,builtinLookup_eq_fast];kernel_rfl
theorem z_class_get {R:Result->Shared->Prop}(x:ZE h e C)(z:ZH h C D fI)(hq:R (.ok (.ret (.ref C))) ⟨h,g,d,t,os⟩) :
  codeAny (model prog w) A (.call (.builtin "getset_descriptor.__get__") ⟨[.builtin "object.__class__",.ref e,.ref C],[]⟩) R ⟨h,g,d,t,os⟩:=by
 obtain⟨oe,hx,hc⟩:=x;have hT5:(⟨h,g,d,t,os⟩:Shared).TypeIs (.builtin "object.__class__") "getset_descriptor":=F.typeOf_object_class;have hcB:(Value.ref C::Value.ref D::bmV).contains (.type (".".intercalate ("object.__class__".cutAt '.').dropLast))=true:=by
  rw[F.owner_object_class];rfl
 refine codeAny_call_builtin F.slot_gs_get.plain F.entry_gs_get (F.slot_gs_get.check _ _ _ _ _ _ _ _ hT5 (F.args_gs_get _ _ _) ?_)
 repeat (any_goals (first | assumption | (with_reducible refine wpAny_loadPart_at hx ?_;rw[hc]) | with_reducible refine z_sub z hcB ?_ | wp_step))
 refine⟨Code.quiet_builtin _ (by decide +kernel),codeAny_builtin F.entry_object_class ?_⟩
 repeat (any_goals (first | assumption | (with_reducible refine wpAny_loadPart_at hx ?_;rw[hc]) | wp_step))
theorem z_class_entry {tk:Tok}{Q:Fin->Shared->Prop}(x:ZE h e C)(z:ZH h C D fI)(hq:Q (.done (.ret (.ref C))) ⟨h,g,d,t,os⟩) :
  wpAny (model prog w) A (Builtin.«object.__getattribute__» ⟨[.ref e,.str "__class__" tk],[]⟩) Q E ⟨h,g,d,t,os⟩:=by
 have x0:=x;obtain⟨oe,hx,hc⟩:=x;have hT5:(⟨h,g,d,t,os⟩:Shared).TypeIs (.builtin "object.__class__") "getset_descriptor":=F.typeOf_object_class;have f5:=F.typeOf_object_class;have f6:=F.slot_gs_get.lookup;have f7:=F.slot_gs_set.lookup;have hm:("__class__" : Str)∈stillC:=.head _
 repeat (any_goals (first | assumption | (with_reducible refine wpAny_loadPart_at hx ?_;rw[hc]) | with_reducible refine z_look z hm z_lk_class ?_ | wp_step))
 refine z_class_get x0 z ?_
 repeat (any_goals (first | assumption | wp_step))
theorem z_class_call {tk:Tok}{R:Result->Shared->Prop}(x:ZE h e C)(z:ZH h C D fI)(hq:R (.ok (.ret (.ref C))) ⟨h,g,d,t,os⟩) :
  codeAny (model prog w) A (.call (.builtin "BaseException.__getattribute__") ⟨[.ref e,.str "__class__" tk],[]⟩) R ⟨h,g,d,t,os⟩:=by
 obtain⟨oe,hx,hc⟩:=id x;obtain⟨N,nm,q,bs,sn,sub,ab,col,dd,k0,k1,k2,k3,k5,mN,h1,_,_⟩:=z.1;exact codeAny_call_builtin F.attrBase_ValueError.ga.plain F.entry_bexc_ga (wpAny_check_ga_own F.attrBase_ValueError h1 z.tail hx hc (z_class_entry x z hq))
theorem z_class_by {tk:Tok}{fill expr:Bool}{Q:Value->Shared->Prop}(x:ZE h e C)(z:ZH h C D fI)(hq:Q (.ref C) ⟨h,g,d,t,os⟩) :
  wpAny (model prog w) A (getAttrBy (.ref e) (.str "__class__" tk) fill expr) Q E ⟨h,g,d,t,os⟩:=by
 have x0:=x;obtain⟨oe,hx,hc⟩:=x;have f3:=F.attrBase_ValueError.ga.bind (.ref e);have hx0:(expr&&onTheHeap (Value.builtin "BaseException.__getattribute__"))=false:=by cases expr <;> rfl
 have hx2:(Value.builtin "BaseException.__getattribute__"==Value.builtin "object.__getattribute__")=false:=by decide +kernel
 have hx1:(onTheHeap (Value.ref C)&&Value.builtin "BaseException.__getattribute__"==Value.builtin "object.__getattribute__")=false:=by rw[hx2];rfl
 have hm1:("__getattribute__" : Str)∈stillC:=.tail _ (.head _);have hm2:("__getattr__" : Str)∈stillC:=.tail _ (.tail _ (.head _))
 repeat (any_goals (first | assumption | (with_reducible refine wpAny_loadPart_at hx ?_;rw[hc]) | with_reducible refine z_look z hm1 F.attrBase_ValueError.ga.lookup ?_ | with_reducible refine z_look z hm2 F.attrBase_ValueError.noGetattr ?_ | wp_step))
 refine z_class_call x0 z ?_
 repeat (any_goals (first | assumption | wp_step))
theorem z_class_attr {Q:Option Value->Shared->Prop}(x:ZE h e C)(z:ZH h C D fI)(hq:Q (some (.ref C)) ⟨h,g,d,t + 1,os⟩):wpAny (model prog w) A (getAttr? (.ref e) "__class__") Q E ⟨h,g,d,t,os⟩:=by
 unfold getAttr? getAttrBy?
 repeat (any_goals (first | assumption | with_reducible apply z_class_by x z | wp_step))
theorem z_isi_self {dep:Int}{tk:Tok}{Q:Fin->Shared->Prop}{s:Shared}(x:ZE s.heap e C)(hq:Q (.done (.ret (.bool true))) s):wpAny (model prog w) A (Builtin.«isinstance.nested» ⟨[.ref e,.ref C,.int dep tk],[]⟩) Q E s:=by
 unfold Builtin.«isinstance.nested»;refine wpAny_bind (z_type x ?_);rw[if_pos (beq_self_eq_true _)];exact wpAny_bind (wpAny_rule (wpAny_bind (wpAny_pure (wpAny_pure hq))))
theorem z_isi_base {dep:Int}{tk:Tok}{Q:Fin->Shared->Prop}{s:Shared}(x:ZE s.heap e C)(z:ZH s.heap C D fI)(hq:Q (.done (.ret (.bool true))) s):wpAny (model prog w) A (Builtin.«isinstance.nested» ⟨[.ref e,.type "ValueError",.int dep tk],[]⟩) Q E s:=by
 unfold Builtin.«isinstance.nested»;refine wpAny_bind (z_type x ?_);rw[if_neg (by intro q;cases beq_iff_eq.mp q)];refine wpAny_bind (wpAny_of_eq (show typeOf (.type "ValueError")=pure (.type "type") from by kernel_rfl) ?_);rw[if_pos (by decide)]
 k_delta "plainIsInstance"
 refine wpAny_bind (wpAny_bind (wpAny_of_eq (show isType (.type "ValueError")=pure true from rfl) ?_));simp only[Bool.not_true,Bool.false_eq_true,if_false];unfold isInstance;refine wpAny_bind (wpAny_bind (z_type x (z_sub z (b:=true) rfl ?_)));simp only[if_true];exact wpAny_pure (wpAny_bind (wpAny_pure (wpAny_pure hq)))
theorem z_isi_not {B:Addr}{dep:Int}{tk:Tok}{Q:Fin->Shared->Prop}{s:Shared}(x:ZE s.heap e C)(z:ZH s.heap C D fI)(y:ZB s.heap B)(n1:B≠C)(n2:B≠D)(hq:Q (.done (.ret (.bool false))) { s with toks:=s.toks + 1 }) :
  wpAny (model prog w) A (Builtin.«isinstance.nested» ⟨[.ref e,.ref B,.int dep tk],[]⟩) Q E s:=by
 have hb:(Value.ref C::Value.ref D::bmV).contains (.ref B)=false:=by
  rw[<- Bool.not_eq_true,List.contains_iff_mem];intro hm;rcases List.mem_cons.mp hm with q | hm
  ·exact n1 (Value.ref.inj q)
  rcases List.mem_cons.mp hm with q | hm
  ·exact n2 (Value.ref.inj q)
  ·unfold bmV at hm
   simp at hm
 unfold Builtin.«isinstance.nested»;refine wpAny_bind (z_type x ?_);rw[if_neg (fun q=>n1 (Value.ref.inj (beq_iff_eq.mp q)).symm)];refine wpAny_bind (z_typeB y ?_);rw[if_pos (by decide)]
 k_delta "plainIsInstance"
 refine wpAny_bind (wpAny_bind (z_isType y ?_));simp only[Bool.not_true,Bool.false_eq_true,if_false];unfold isInstance;refine wpAny_bind (wpAny_bind (z_type x (z_sub z hb ?_)));simp only[Bool.false_eq_true,if_false];obtain⟨hh,g,d,t,os⟩:=s;refine wpAny_bind (z_class_attr x z ?_);refine wpAny_bind (z_isType z.1.cls ?_);simp only[Bool.not_true,Bool.false_eq_true,if_false];refine wpAny_bind (wpAny_rule ?_);refine z_sub z hb ?_;exact wpAny_bind (wpAny_pure (wpAny_pure hq))
end
end L3
namespace L3
open PySem PySem.Spec PyProof.Rows L2
open Builtin Builtin.ObjectAttr
section
variable {prog:Program}{w:World}{A:Around}{E:Value->Shared->Prop}{h:Heap}{g:Array GenState}{d:Drawn}{t:Nat}{os:OsState}{e C D fI:Addr}
theorem z_type_call {rest:List Value}{Q:Fin->Shared->Prop}(z:ZH h C D fI)
  (hq:∀ h' e,Heap.MadeExcOf h h' e (.ref C) rest->h.objs.size<=e->wpAny (model prog w) A (call (.ref fI) (.ref e::rest)) (fun r s'=>r=.none/\Q (.done (.ret (.ref e))) s') E ⟨h',g,d,t,os⟩) (hrest:rest.length<=sizeLine) :
  wpAny (model prog w) A (Builtin.«type.__call__» ⟨.ref C::rest,[]⟩) Q E ⟨h,g,d,t,os⟩:=by
 have F:=F.excBase_ValueError;have T:=z.tail.tail;obtain⟨⟨N,nm,q,bs,sn,sub,ab,col,dd,k0,k1,k2,k3,k5,mN,hC,hn,_,hi⟩,_,oI,hfI,hfc⟩:=z
 repeat (first | with_reducible refine wpAny_loadPart_at hC ?_ | with_reducible refine wpAny_madeBy_exc hC ?_ | wp_step)
 refine codeAny_call_builtin_code (Code.quiet_builtin _ F.quiet) (wpAny_check_new_subT F T hC ?_);refine codeAny_exc_new_subT F T hC ?_ hrest;show wpAny _ _ _ _ _ _;have hC₁:=Heap.get?_push_of_some { cls:=.ref C,data:=.fields #[.ref h.objs.size,.none,.none,.none,.bool false,.none] }
  (Heap.get?_push_of_some { cls:=.type "tuple",data:=.seq rest.toArray } hC)
 have hfI₁:=Heap.get?_push_of_some { cls:=.ref C,data:=.fields #[.ref h.objs.size,.none,.none,.none,.bool false,.none] }
  (Heap.get?_push_of_some { cls:=.type "tuple",data:=.seq rest.toArray } hfI)
 have hn₁:((h.push { cls:=.type "tuple",data:=.seq rest.toArray }).push { cls:=.ref C,data:=.fields #[.ref h.objs.size,.none,.none,.none,.bool false,.none] }).Ns N mN :=
  let ⟨o,es,ep,e,r⟩:=hn;⟨o,es,ep,Heap.get?_push_of_some _ (Heap.get?_push_of_some _ e),r⟩
 have hget:((h.push { cls:=.type "tuple",data:=.seq rest.toArray }).push
   { cls:=.ref C,data:=.fields #[.ref h.objs.size,.none,.none,.none,.bool false,.none] }).get? (h.objs.size + 1)=some
   { cls:=.ref C,data:=.fields #[.ref h.objs.size,.none,.none,.none,.bool false,.none] }:=by heap_get
 have hcC:(Value.ref C::Value.ref D::bmV).contains (.ref C)=true:=by simp
 have T₁:=T.keeps (h':=(h.push { cls:=.type "tuple",data:=.seq rest.toArray }).push { cls:=.ref C,data:=.fields #[.ref h.objs.size,.none,.none,.none,.bool false,.none] })
  fun b o e=>Heap.get?_push_of_some _ (Heap.get?_push_of_some _ e)
 unfold isInstance
 repeat (first | with_reducible refine wpAny_loadPart_at hget ?_ | (with_reducible refine wpAny_isSubtype_exc hC₁ ?_;rw[hcC]) | wp_step)
 show wpAny _ _ (typeLookup (.ref C) _) _ _ _;refine wpAny_typeLookup_tail hC₁ hn₁ T₁ F.mroIs F.init.lookup ?_;rw[hi];refine wpAny_holding (wpAny_bind ?_);unfold bindSpecial;refine wpAny_bind (wpAny_typeOf (T:="function") ⟨_,hfI₁,hfc⟩ ?_);rw[if_pos (by decide)];refine wpAny_pure (wpAny_bind (wpAny_mono (hq _ (h.objs.size + 1) ⟨fun b o hb=>Heap.get?_push_of_some _ (Heap.get?_push_of_some _ hb),Heap.get?_none_of_le (Nat.le_succ _),h.objs.size,hget,Heap.get?_none_of_le (Nat.le_refl _),?_⟩ (Nat.le_succ _)) (fun r s' hr=>?_) fun _ _ x=>x))
 ·exact Heap.get?_push_of_some _ (Heap.get?_push_at rfl rfl)
 ·obtain⟨rfl,hQ⟩:=hr
  wp_walk;exact hQ
theorem z_call_cls {rest:List Value}{Q:Value->Shared->Prop}(z:ZH h C D fI)
  (hq:∀ h' e,Heap.MadeExcOf h h' e (.ref C) rest->h.objs.size<=e->wpAny (model prog w) (A.under (.builtin "type.__call__" ⟨.ref C::rest,[]⟩)) (call (.ref fI) (.ref e::rest)) (fun r s'=>r=.none/\Q (.ref e) s') E ⟨h',g,d,t,os⟩) (hrest:rest.length<=sizeLine) :
  wpAny (model prog w) A (call (.ref C) rest) Q E ⟨h,g,d,t,os⟩:=by
 have z0:=z;obtain⟨⟨N,nm,q,bs,sn,sub,ab,col,dd,k0,k1,k2,k3,k5,mN,hC,hn,_,hi⟩,_,oI,hfI,hfc⟩:=z;have f1:=tc_lookup;have f2:=tc_bind (.ref C);have hT:(⟨h,g,d,t,os⟩:Shared).TypeIs (.ref C) "type":=⟨_,hC,rfl⟩;refine wpAny_call (codeAny_of_tree ?_);show wpAny _ _ (callAny (.ref C) _) _ _ _
 repeat (any_goals (first | assumption | with_reducible refine wpAny_loadPart_at hC ?_ | wp_step))
 refine⟨rfl,?_⟩;refine codeAny_call_builtin_at (Code.quiet_builtin _ (by decide +kernel)) entry_typeCall (wpAny_check_type_call_sub hC (z_type_call z0 (fun h' e hm hl=>?_) hrest));exact hq h' e hm hl
theorem z_lk_at:typeLookup (.type "ValueError") "at" = pure none:=by rw[typeLookup_type,builtinLookup_eq_fast];kernel_rfl
theorem z_store_entry {tk:Tok}{v:Value}{o:Obj}{Q:Fin->Shared->Prop}(z:ZH h C D fI)(hx:h.get? e=some o)(hc:o.cls=.ref C)(hdn:o.dict=none)(hnc:∀ c,o.data≠.cls c)
  (hq:∀ h' tk' dx,h'.Ns1 dx (fun y=>if y = "at" then some v else none)->h.objs.size<=dx->dx≠e->h'.get? e=some { o with dict:=some dx }->(∀ b ob,b≠e->h.get? b=some ob->h'.get? b=some ob)->Q (.done (.ret .none)) ⟨h',g,d,tk',os⟩) :
  wpAny (model prog w) A (Builtin.«object.__setattr__» ⟨[.ref e,.str "at" tk,v],[]⟩) Q E ⟨h,g,d,t,os⟩:=by
 have hpass:=F.store_ValueError.passes (.ref e);have hm:("at" : Str)∈stillC:=.tail _ (.tail _ (.tail _ (.tail _ (.head _))));obtain⟨⟨N,nm,q,bs,sn,sub,ab,col,dd,k0,k1,k2,k3,k5,mN,hC,hn,_,hi⟩,_⟩:=id z;unfold Builtin.«object.__setattr__»
 repeat (first | rw[refuse_eq] | (rw[refuseLoop_ref,refuseLoop_ref];unfold bmV;rw[hpass]) | (with_reducible refine wpAny_loadPart_at hx ?_;rw[hc]) | with_reducible refine wpAny_mroOf_exc hC ?_ | with_reducible refine z_look z hm z_lk_at ?_ | wp_step)
 rw[hdn,if_neg (by simp[typeHasDict])];split
 ·rename_i hcd
  cases hcd
 split
 ·rename_i c hcd
  exact absurd hcd (hnc c)
 ·have hx₁:(h.push { cls:=.type "dict",data:=.dict #[] }).get? e=some o:=Heap.get?_push_of_some _ hx
  have hxs:e≠h.objs.size:=Nat.ne_of_lt (Heap.lt_size hx);refine wpAny_bind (wpAny_alloc' ?_);refine wpAny_bind (wpAny_update' hx₁ ?_);refine wpAny_pure ?_;have hgd:((h.push { cls:=.type "dict",data:=.dict #[] }).update e fun o=>{ cls:=o.cls,dict:=some h.objs.size,data:=o.data,slots:=o.slots }).get? h.objs.size
    = some { cls:=.type "dict",data:=.dict #[] } :=
   (Heap.get?_update_ne _ _ _ _ hxs.symm).trans (Heap.get?_push_at rfl rfl)
  have hnd:((h.push { cls:=.type "dict",data:=.dict #[] }).update e fun o=>{ cls:=o.cls,dict:=some h.objs.size,data:=o.data,slots:=o.slots }).Ns h.objs.size (fun _=>none) :=
   ⟨_,#[],_,hgd,rfl,fun e he=>absurd he (by simp),fun _=>rfl⟩
  show wpAny _ _ (storeInDict h.objs.size (.str "at" tk) "at" v) _ _ _;unfold storeInDict newKeyGuard;refine wpAny_bind (wpAny_pure (wpAny_bind (wpAny_nsSet1 (Heap.Ns1.of_empty hnd) fun h' hn' hs=>?_)));obtain⟨oD,esD,epD,hoD,hdD,hcD⟩:=hn'.count (Within.cons "at" v Within.nil);refine wpAny_bind (wpAny_lookBehind hoD (by rw[hdD];exact pastItsLine_dict (Nat.le_trans hcD (by rw[List.length_cons,List.length_nil,sizeLine_eq];omega))) ?_);wp_walk;refine hq h' _ h.objs.size hn' (Nat.le_refl _) hxs.symm ?_ (fun b ob hbx hb=>?_)
  ·refine(hs.2 e hxs).trans (Heap.get?_update_self _ hx₁ ?_)
   have hfr:=(Heap.get?_some_iff.mp hx).2;obtain⟨oc,od,odt,osl⟩:=o;cases odt <;> first | rfl | exact hfr
  ·exact(hs.2 b (Nat.ne_of_lt (Heap.lt_size hb))).trans ((Heap.get?_update_ne _ _ _ _ hbx).trans (Heap.get?_push_of_some _ hb))
end
end L3
namespace L3
open PySem PySem.Spec PyProof.Rows L2
open Builtin Builtin.ObjectAttr
section
variable {prog:Program}{w:World}{A:Around}{E:Value->Shared->Prop}{h:Heap}{g:Array GenState}{d:Drawn}{t:Nat}{os:OsState}{e C D fI:Addr}
theorem z_check_sa {M:Model}{o:Obj}{nameV v:Value}{Q:Unit->Shared->Prop}(z:ZH h C D fI)(hx:h.get? e=some o)(hc:o.cls=.ref C)(hq:Q () ⟨h,g,d,t,os⟩) :
  wpAny M A (checkBuiltinCall "object.__setattr__" ⟨[.ref e,nameV,v],[]⟩) Q E ⟨h,g,d,t,os⟩:=by
 have SF:=F.store_ValueError;have ha:=SF.args (.ref e) nameV v;have hcB:(Value.ref C::Value.ref D::bmV).contains (.type "object")=true:=rfl;obtain⟨⟨N,nm,q,bs,sn,sub,ab,col,dd,k0,k1,k2,k3,k5,mN,hC,hn,_,hi⟩,_⟩:=id z;simp only[checkBuiltinCall,SF.kind,SF.split];refine wpAny_bind ?_;unfold isInstance
 repeat (first | (with_reducible refine wpAny_loadPart_at hx ?_;rw[hc]) | (with_reducible refine wpAny_isSubtype_exc hC ?_;rw[hcB]) | wp_step)
 exact hq
theorem z_store {v:Value}{o:Obj}{Q:Unit->Shared->Prop}(z:ZH h C D fI)(hx:h.get? e=some o)(hc:o.cls=.ref C)(hdn:o.dict=none)(hnc:∀ c,o.data≠.cls c)
  (hq:∀ h' tk' dx,h'.Ns1 dx (fun y=>if y = "at" then some v else none)->h.objs.size<=dx->dx≠e->h'.get? e=some { o with dict:=some dx }->(∀ b ob,b≠e->h.get? b=some ob->h'.get? b=some ob)->Q () ⟨h',g,d,tk',os⟩) :
  wpAny (model prog w) A (setAttr (.ref e) "at" v) Q E ⟨h,g,d,t,os⟩:=by
 have SF:=F.store_ValueError;have f3:=SF.slot.bind (.ref e);have hm:("__setattr__" : Str)∈stillC:=.tail _ (.tail _ (.tail _ (.head _)));unfold setAttr callSpecial? specialOf
 repeat (any_goals (first | assumption | (with_reducible refine wpAny_loadPart_at hx ?_;rw[hc]) | with_reducible refine z_look z hm SF.slot.lookup ?_ | wp_step))
 refine codeAny_call_builtin SF.slot.plain SF.entry (z_check_sa z hx hc (z_store_entry z hx hc hdn hnc fun h' tk' dx h1 h2 h3 h4 h5=>?_))
 repeat (any_goals (first | assumption | wp_step))
 exact hq h' tk' dx h1 h2 h3 h4 h5
theorem z_at_entry {tk:Tok}{v:Value}{o:Obj}{dx:Addr}{mA:Str->Option Value}{Q:Fin->Shared->Prop}(z:ZH h C D fI)(hx:h.get? e=some o)(hc:o.cls=.ref C)(hdx:o.dict=some dx)(hnc:∀ c,o.data≠.cls c)
  (hns:h.Ns1 dx mA) (hv:mA "at" = some v) (hq:Q (.done (.ret v)) ⟨h,g,d,t,os⟩):wpAny (model prog w) A (Builtin.«object.__getattribute__» ⟨[.ref e,.str "at" tk],[]⟩) Q E ⟨h,g,d,t,os⟩:=by
 have hm:("at" : Str)∈stillC:=.tail _ (.tail _ (.tail _ (.tail _ (.head _))));obtain⟨⟨N,nm,q,bs,sn,sub,ab,col,dd,k0,k1,k2,k3,k5,mN,hC,hn,_,hi⟩,_⟩:=id z
 repeat (first | (with_reducible refine wpAny_loadPart_at hx ?_;rw[hc]) | with_reducible refine z_look z hm z_lk_at ?_ | wp_step)
 split
 ·rename_i c hcd
  exact absurd hcd (hnc c)
 unfold instanceDict
 repeat (first | (with_reducible refine wpAny_loadPart_at hx ?_;rw[hc]) | with_reducible refine wpAny_loadPart_at hC ?_ | wp_step)
 rw[hdx]
 repeat (first | (with_reducible refine wpAny_nsGet hns.ns ?_;rw[hv]) | wp_step)
 exact hq
theorem z_at_call {tk:Tok}{v:Value}{o:Obj}{dx:Addr}{mA:Str->Option Value}{R:Result->Shared->Prop}(z:ZH h C D fI)(hx:h.get? e=some o)(hc:o.cls=.ref C)(hdx:o.dict=some dx)(hnc:∀ c,o.data≠.cls c)
  (hns:h.Ns1 dx mA) (hv:mA "at" = some v) (hq:R (.ok (.ret v)) ⟨h,g,d,t,os⟩) :
  codeAny (model prog w) A (.call (.builtin "BaseException.__getattribute__") ⟨[.ref e,.str "at" tk],[]⟩) R ⟨h,g,d,t,os⟩:=by
 obtain⟨N,nm,q,bs,sn,sub,ab,col,dd,k0,k1,k2,k3,k5,mN,h1,_,_⟩:=z.1;exact codeAny_call_builtin F.attrBase_ValueError.ga.plain F.entry_bexc_ga (wpAny_check_ga_own F.attrBase_ValueError h1 z.tail hx hc (z_at_entry z hx hc hdx hnc hns hv hq))
theorem z_at_by {tk:Tok}{v:Value}{o:Obj}{dx:Addr}{mA:Str->Option Value}{fill expr:Bool}{Q:Value->Shared->Prop}(z:ZH h C D fI)(hx:h.get? e=some o)(hc:o.cls=.ref C)(hdx:o.dict=some dx)(hnc:∀ c,o.data≠.cls c)
  (hns:h.Ns1 dx mA) (hv:mA "at" = some v) (hh:handedOut v=pure v) (hq:Q v ⟨h,g,d,t,os⟩) :
  wpAny (model prog w) A (getAttrBy (.ref e) (.str "at" tk) fill expr) Q E ⟨h,g,d,t,os⟩:=by
 have f3:=F.attrBase_ValueError.ga.bind (.ref e);have hx0:(expr&&onTheHeap (Value.builtin "BaseException.__getattribute__"))=false:=by cases expr <;> rfl
 have hx2:(Value.builtin "BaseException.__getattribute__"==Value.builtin "object.__getattribute__")=false:=by decide +kernel
 have hx1:(onTheHeap (Value.ref C)&&Value.builtin "BaseException.__getattribute__"==Value.builtin "object.__getattribute__")=false:=by rw[hx2];rfl
 have hm1:("__getattribute__" : Str)∈stillC:=.tail _ (.head _);have hm2:("__getattr__" : Str)∈stillC:=.tail _ (.tail _ (.head _))
 repeat (any_goals (first | assumption | (with_reducible refine wpAny_loadPart_at hx ?_;rw[hc]) | with_reducible refine z_look z hm1 F.attrBase_ValueError.ga.lookup ?_ | with_reducible refine z_look z hm2 F.attrBase_ValueError.noGetattr ?_ | wp_step))
 refine z_at_call z hx hc hdx hnc hns hv ?_
 repeat (any_goals (first | assumption | wp_step))
theorem z_at_attr {v:Value}{o:Obj}{dx:Addr}{mA:Str->Option Value}{expr:Bool}{Q:Value->Shared->Prop}(z:ZH h C D fI)(hx:h.get? e=some o)(hc:o.cls=.ref C)(hdx:o.dict=some dx)(hnc:∀ c,o.data≠.cls c)
  (hns:h.Ns1 dx mA) (hv:mA "at" = some v) (hh:handedOut v=pure v) (hq:Q v ⟨h,g,d,t + 1,os⟩) :
  wpAny (model prog w) A (getAttr (.ref e) "at" expr) Q E ⟨h,g,d,t,os⟩:=by
 unfold getAttr
 repeat (any_goals (first | assumption | with_reducible apply z_at_by z hx hc hdx hnc hns hv hh | wp_step))
end
end L3
namespace L3
open PySem PySem.Spec PyProof.Rows L2
theorem obj_there {P:Program}{w:World}{H:Hp}{h:Heap}{a:Addr}{o:HO}(x:ObjOk P w H h a o):∃ o,h.get? a=some o:=by
 cases o with
 | lst xs=>obtain⟨_,_,_,_,e⟩:=x;exact⟨_,e⟩
 | tup xs=>obtain⟨_,_,_,⟨_,e,_⟩,_⟩:=x;exact⟨_,e⟩
 | dK kvs=>obtain⟨_,_,_,_,o,_,_,e,_⟩:=x;exact⟨_,e⟩
 | dT kvs=>obtain⟨_,_,_,_,o,_,_,e,_⟩:=x;exact⟨_,e⟩
 | set S n=>obtain⟨o,_,_,_,e,_⟩:=x;exact⟨_,e⟩
 | ins C dx fs=>obtain⟨_,_,_,e,_⟩:=x;exact⟨_,e⟩
 | own y=>exact x
 | xd fs=>obtain⟨_,⟨_,_,_,e,_⟩,_⟩:=x;exact⟨_,e⟩
 | rng lo hi=>obtain⟨_,_,_,e⟩:=x;exact⟨_,e⟩
 | frz ob u=>exact⟨_,x.1⟩
 | tbl ps=>exact⟨_,show h.get? a=some _ from x⟩
 | met f y=>exact⟨_,show h.get? a=some _ from x⟩
 | ext φ=>exact x.2.1
noncomputable def excO (C t:Addr)(dd:Option Addr):Obj:={ cls:=.ref C,dict:=dd,data:=.fields #[.ref t,.none,.none,.none,.bool false,.none] }
noncomputable def ExcT (C t e:Addr)(dd:Option Addr):HO:=.ext fun h=>h.get? e=some (excO C t dd)
noncomputable def spI (C:Addr):Sp:=fun vs H Q _=>∃ e t v,vs=[.ref e,v]/\H e=some (ExcT C t e none)/\∀ dx,H dx=none->dx≠e->Q .non (upd (upd H e (ExcT C t e (some dx))) dx (.xd [("at",v)]))
noncomputable def zOthers:List Str:=["BadLine","BadTree","Late","NoPlace","NoStretch","Twice","Unknown"]
structure ZK (K:PySem.W.Frag) (mg:Str->Option Value) (C D fI:Addr):Prop where
 np:mg "BadWord" = some (.ref C)
 he:mg "HouseError" = some (.ref D)
 zh:∀ h:Heap,K.In h->ZH h C D fI
 ot:∀ x∈zOthers,∃ B,mg x=some (.ref B)/\B≠C/\B≠D/\∀ h:Heap,K.In h->ZB h B
noncomputable def BwR (X:Cx):Prop:=∃ (k:Nat) (C D fI:Addr) (fd:FuncData),ZK X.K X.mg C D fI/\Binds X.K fd ["self","at"] []/\FnOk X.prog X.w X.K X.mg X.base CX0 k fI fd ["self","at"] (spI C)/\Room (k + 1) X.A
end L3
namespace L3
open PySem
noncomputable abbrev Ky:=Sum Int Str
inductive D where
 | non | bl (b:Bool) | int (i:Int) | str (x:Str) | tup (ds:List D) | fl (ds:List D) | ob (i:Nat)
inductive MO where
 | lst (ds:List D)
 | dic (kvs:List (Ky×D))
noncomputable abbrev MH:=List MO
inductive Out (α:Type) where
 | ok (a:α)
 | ex (c:Str) (ds:List D)
noncomputable def Mo (α:Type):=MH->Option (Out α×MH)
noncomputable def Mo.ret {α:Type}(a:α):Mo α:=fun M=>some (.ok a,M)
noncomputable def Mo.bind {α β:Type}(m:Mo α)(k:α->Mo β):Mo β:=fun M=>match m M with
 | none=>none
 | some (.ok a,M')=>k a M'
 | some (.ex c ds,M')=>some (.ex c ds,M')
noncomputable def Mo.stop {α:Type}:Mo α:=fun _=>none
noncomputable instance:Monad Mo where
 pure:=Mo.ret
 bind:=Mo.bind
theorem run_ret {α:Type}(a:α)(M:MH):(pure a:Mo α) M=some (.ok a,M):=rfl
theorem run_bind {α β:Type}(m:Mo α)(k:α->Mo β)(M:MH):(m >>= k) M=match m M with
 | none=>none
 | some (.ok a,M')=>k a M'
 | some (.ex c ds,M')=>some (.ex c ds,M'):=rfl
theorem bind_ok {α β:Type}{m:Mo α}{k:α->Mo β}{M M':MH}{b:β}(h:(m >>= k) M=some (.ok b,M')):∃ a M1,m M=some (.ok a,M1)/\k a M1=some (.ok b,M'):=by
 rw[run_bind]at h;split at h
 ·cases h
 ·rename_i a M1 e
  exact⟨a,M1,e,h⟩
 ·cases h
theorem ok_bind {α β:Type}{m:Mo α}{k:α->Mo β}{M M1:MH}{a:α}(h:m M=some (.ok a,M1)):(m >>= k) M=k a M1:=by
 rw[run_bind,h]
noncomputable abbrev Ev:=List (Option D)
noncomputable def getM (i:Nat):Mo MO:=fun M=>match M[i]? with
 | some o=>some (.ok o,M)
 | none=>none
noncomputable def newM (o:MO):Mo D:=fun M=>some (.ok (.ob M.length),M++[o])
noncomputable def putM (i:Nat)(o:MO):Mo Unit:=fun M=>if i < M.length then some (.ok (),M.set i o) else none
noncomputable def need (p:Prop)[Decidable p]:Mo Unit:=if p then pure () else Mo.stop
noncomputable def lift {α:Type}(o:Option α):Mo α:=match o with
 | some a=>pure a
 | none=>Mo.stop
noncomputable def getL (i:Nat):Mo (List D):=fun M=>match M[i]? with
 | some (.lst ds)=>some (.ok ds,M)
 | _=>none
noncomputable def getD (i:Nat):Mo (List (Ky×D)):=fun M=>match M[i]? with
 | some (.dic ds)=>some (.ok ds,M)
 | _=>none
noncomputable def kyD:D->Option Ky
 | .int i=>some (.inl i)
 | .str x=>some (.inr x)
 | _=>none
noncomputable def flatD:D->Bool
 | .non=>true | .bl _=>true | .int _=>true | .str _=>true | _=>false
noncomputable def eqF:D->D->Bool
 | .non,.non=>true
 | .bl a,.bl b=>a==b
 | .bl a,.int b=>(if a then 1 else 0)==b
 | .int a,.bl b=>a==(if b then 1 else 0)
 | .int a,.int b=>a==b
 | .str a,.str b=>a==b
 | _,_=>false
noncomputable def eqL (f:D->D->Option Bool):List D->List D->Option Bool
 | [],[]=>some true
 | [],_::_=>some false
 | _::_,[]=>some false
 | x::xs,y::ys=>match f x y with
  | none=>none
  | some b=>match eqL f xs ys with
   | none=>none
   | some c=>some (b&&c)
noncomputable def eqO (M:MH):Nat->D->D->Option Bool
 | 0,_,_=>none
 | n + 1,x,y=>match x,y with
  | .tup xs,.tup ys=>eqL (eqO M n) xs ys
  | .ob i,.ob j=>(match M[i]?,M[j]? with
   | some (.lst xs),some (.lst ys)=>if xs.length=ys.length then eqL (eqO M n) xs ys else some false
   | _,_=>none)
  | .tup _,y=>if flatD y=true then some false else none
  | x,.tup _=>if flatD x=true then some false else none
  | x,y=>if (flatD x&&flatD y)=true then some (eqF x y) else none
noncomputable def eqMo (x y:D):Mo Bool:=fun M=>match eqO M 20 x y with
 | some b=>some (.ok b,M)
 | none=>none
noncomputable def inL (M:MH)(x:D):List D->Option Bool
 | []=>some false
 | d::ds=>match eqO M 8 d x with
  | none=>none
  | some b=>match inL M x ds with
   | none=>none
   | some c=>some (b||c)
noncomputable def inMo (x:D)(ds:List D):Mo Bool:=fun M=>match inL M x ds with
 | some b=>some (.ok b,M)
 | none=>none
noncomputable def kvGet (kvs:List (Ky×D))(k:Ky):Option D:=(kvs.find? fun kv=>decide (kv.1=k)).map (·.2)
noncomputable def kvPut (kvs:List (Ky×D))(k:Ky)(v:D):List (Ky×D) :=
 if (kvs.any fun kv=>decide (kv.1=k))=true then kvs.map (fun kv=>if kv.1=k then (kv.1,v) else kv) else kvs++[(k,v)]
noncomputable def dK:Ky->D
 | .inl i=>.int i
 | .inr x=>.str x
noncomputable def sgn (c:Nat):D:=.str ⟨#[c]⟩
noncomputable def ixD (n:Nat)(i:Int):Option Nat:=if 0<=i then (if i < n then some i.toNat else none) else if -(n:Int)<=i then some (i + n).toNat else none
noncomputable def atD {α:Type}(xs:List α)(i:Int):Option α:=(ixD xs.length i).bind fun j=>xs[j]?
noncomputable def cutIx (n d:Nat):Option Int->Nat
 | none=>d
 | some v=>if v < 0 then (v + (n:Int)).toNat else min v.toNat n
noncomputable def cutD {α:Type}(xs:List α)(lo hi:Option Int):List α:=(xs.drop (cutIx xs.length 0 lo)).take (cutIx xs.length xs.length hi - cutIx xs.length 0 lo)
noncomputable def strOcc (j i:Str):Bool:=!(Builtin.Str.occurrences j i 0 j.length 1).isEmpty
noncomputable def repS (a:Str)(n:Nat):Str:=⟨(List.replicate n a.cps).foldl (·++·) #[]⟩
noncomputable def opD (op:Operator)(x y:D):Mo D:=match op,x,y with
 | .Add,.int i,.int j=>pure (.int (i + j))
 | .Add,.str a,.str b=>do need (a.length + b.length<=sizeLine);pure (.str (a++b))
 | .Add,.ob i,.ob j=>do
  let xs <- getL i
  let ys <- getL j
  need (xs.length + ys.length<=sizeLine)
  newM (.lst (xs++ys))
 | .Add,.tup xs,.tup ys=>do need (xs.length + ys.length<=sizeLine);pure (.tup (xs++ys))
 | .Sub,.int i,.int j=>pure (.int (i - j))
 | .Mult,.int i,.int j=>do need ((-(2 ^ 64) < i/\i < 2 ^ 64)\/(-(2 ^ 64) < j/\j < 2 ^ 64));pure (.int (i * j))
 | .FloorDiv,.int i,.int j=>do need (0 < j/\j < 1073741824);pure (.int (i / j))
 | .Mod,.int i,.int j=>do need (0 < j);pure (.int (i % j))
 | .Pow,.int i,.int j=>do need (0<=j/\j<=1000000/\i.natAbs < 2 ^ 64);pure (.int (i ^ j.toNat))
 | .Mult,.str a,.int j=>do need (2<=j/\j < 1000/\0 < a.length/\a.length < 1000);pure (.str (repS a j.toNat))
 | _,_,_=>Mo.stop
noncomputable def inD (x y:D):Mo Bool:=match y with
 | .str j=>(match x with
  | .str i=>pure (strOcc j i)
  | _=>Mo.stop)
 | .tup ds=>inMo x ds
 | .fl ds=>inMo x ds
 | .ob i=>do
  let o <- getM i
  (match o with
  | .lst ds=>inMo x ds
  | .dic kvs=>do let k <- lift (kyD x);pure (kvGet kvs k).isSome
  )
 | _=>Mo.stop
noncomputable def ltD (x y:D):Option Bool:=match x,y with
 | .int i,.int j=>some (decide (i < j))
 | .str a,.str b=>some (decide (a.cps.toList < b.cps.toList))
 | _,_=>none
noncomputable def leD (x y:D):Option Bool:=match x,y with
 | .int i,.int j=>some (decide (i<=j))
 | .str a,.str b=>some (!decide (b.cps.toList < a.cps.toList))
 | _,_=>none
noncomputable def isN:D->Bool
 | .non=>true
 | _=>false
noncomputable def cmpD (op:CmpOp)(x y:D):Mo Bool:=match op with
 | .Eq=>eqMo x y
 | .NotEq=>do let b <- eqMo x y;pure (!b)
 | .Lt=>lift (ltD x y)
 | .LtE=>lift (leD x y)
 | .Gt=>(match x,y with
  | .int i,.int j=>pure (decide (j < i))
  | _,_=>Mo.stop)
 | .GtE=>(match x,y with
  | .int i,.int j=>pure (decide (j<=i))
  | _,_=>Mo.stop)
 | .In=>inD x y
 | .NotIn=>do let b <- inD x y;pure (!b)
 | .Is=>do need (isN y=true);pure (isN x)
 | .IsNot=>do need (isN y=true);pure (!isN x)
noncomputable def getIx (x y:D):Mo D:=match x,y with
 | .tup ds,.int i=>lift (atD ds i)
 | .fl ds,.int i=>lift (atD ds i)
 | .str s,.int i=>do need (s.length<=sizeLine);let c <- lift (atD s.cps.toList i);pure (sgn c)
 | .ob k,y=>do
  let o <- getM k
  (match o with
  | .lst ds=>(match y with
   | .int i=>lift (atD ds i)
   | _=>Mo.stop)
  | .dic kvs=>do let q <- lift (kyD y);lift (kvGet kvs q)
  )
 | _,_=>Mo.stop
noncomputable def setIx (x y v:D):Mo Unit:=match x with
 | .ob k=>do
  let o <- getM k
  (match o with
  | .lst ds=>(match y with
   | .int i=>do let j <- lift (ixD ds.length i);putM k (.lst (ds.set j v))
   | _=>Mo.stop)
  | .dic kvs=>do let q <- lift (kyD y);need (kvs.length < sizeLine);putM k (.dic (kvPut kvs q v))
  )
 | _=>Mo.stop
noncomputable def sliceD (x:D)(lo hi:Option Int):Mo D:=match x with
 | .str s=>do need (s.length<=sizeLine);pure (.str ⟨(cutD s.cps.toList lo hi).toArray⟩)
 | .tup ds=>pure (.tup (cutD ds lo hi))
 | .ob k=>do let ds <- getL k;newM (.lst (cutD ds lo hi))
 | .fl ds=>newM (.lst (cutD ds lo hi))
 | _=>Mo.stop
noncomputable def truD (x:D):Mo Bool:=match x with
 | .non=>pure false
 | .bl b=>pure b
 | .int i=>pure (i != 0)
 | .str s=>do need (s.length<=sizeLine);pure ((s.length:Int) != 0)
 | .tup ds=>pure (!ds.isEmpty)
 | .fl ds=>pure (!ds.isEmpty)
 | .ob k=>do
  let o <- getM k
  (match o with
  | .lst ds=>pure (!ds.isEmpty)
  | .dic kvs=>pure (!kvs.isEmpty)
  )
noncomputable def itemsD (x:D):Mo (List D):=match x with
 | .tup ds=>pure ds
 | .fl ds=>pure ds
 | .ob k=>getL k
 | _=>Mo.stop
noncomputable def lstD (x:D):Mo (List D):=match x with
 | .fl ds=>pure ds
 | .ob k=>getL k
 | _=>Mo.stop
noncomputable def boolD:D->Option Bool
 | .bl b=>some b
 | _=>none
noncomputable def strO:D->Option Str
 | .str x=>some x
 | _=>none
noncomputable def intD:D->Option Int
 | .int i=>some i
 | _=>none
noncomputable def allS:List D->Option (List Str)
 | []=>some []
 | d::ds=>match strO d,allS ds with
  | some x,some xs=>some (x::xs)
  | _,_=>none
noncomputable def allI:List D->Option (List Int)
 | []=>some []
 | d::ds=>match intD d,allI ds with
  | some x,some xs=>some (x::xs)
  | _,_=>none
inductive Bl where
 | len | tuple | list | repr | all | any | min2 | max2 | abs | dict1 | minL
 deriving DecidableEq
noncomputable def blD (b:Bl)(xs:List D):Mo D:=match b,xs with
 | .len,[.str s]=>do need (s.length<=sizeLine);pure (.int s.length)
 | .len,[.ob k]=>do
  let o <- getM k
  (match o with
  | .lst ds=>pure (.int ds.length)
  | .dic kvs=>pure (.int kvs.length)
  )
 | .len,[.tup ds]=>pure (.int ds.length)
 | .len,[.fl ds]=>pure (.int ds.length)
 | .tuple,[.tup ds]=>pure (.tup ds)
 | .tuple,[.fl ds]=>pure (.tup ds)
 | .tuple,[.ob k]=>do let ds <- getL k;pure (.tup ds)
 | .list,[x]=>do let ds <- itemsD x;newM (.lst ds)
 | .all,[.ob k]=>do let ds <- getL k;let bs <- lift (ds.mapM boolD);pure (.bl (bs.all id))
 | .any,[.ob k]=>do let ds <- getL k;let bs <- lift (ds.mapM boolD);pure (.bl (bs.any id))
 | _,_=>Mo.stop
inductive Ty where
 | int | str | bool | list | tuple | dict
 deriving DecidableEq
noncomputable def tyD (t:Ty)(x:D):Mo Bool:=match x with
 | .non=>pure false
 | .bl _=>pure (t==.bool||t==.int)
 | .int _=>pure (t==.int)
 | .str _=>pure (t==.str)
 | .tup _=>pure (t==.tuple)
 | .fl _=>pure (t==.list)
 | .ob k=>do
  let o <- getM k
  (match o with
  | .lst _=>pure (t==.list)
  | .dic _=>pure (t==.dict)
  )
inductive Mt where
 | append | insert | join | get
 | split | partition
 deriving DecidableEq
noncomputable def rcvD (m:Mt)(x:D):Mo Unit:=match m,x with
 | .append,.ob k=>do let _ <- getL k;pure ()
 | .insert,.ob k=>do let _ <- getL k;pure ()
 | .join,.str _=>pure ()
 | .split,.str _=>pure ()
 | .partition,.str _=>pure ()
 | .get,.ob k=>do let _ <- getD k;pure ()
 | _,_=>Mo.stop
noncomputable def isOb:D->Nat->Bool
 | .ob j,k=>j==k
 | _,_=>false
noncomputable def strD:D->Option Str
 | .str x=>some x
 | _=>none
noncomputable def glue (sep:List Nat):List (List Nat)->List Nat
 | []=>[]
 | [x]=>x
 | x::y::r=>x++sep++glue sep (y::r)
noncomputable def joinS (sep:Str)(ys:List Str):Str:=⟨(glue sep.cps.toList (ys.map (·.cps.toList))).toArray⟩
noncomputable def extD (x:D):Mo (List D):=match x with
 | .tup ds=>pure ds
 | .ob k=>getL k
 | _=>Mo.stop
noncomputable def splitS (s t:Str):List Str:=if (decide (s.length < t.length)||decide (Builtin.Str.strKind s < Builtin.Str.strKind t))=true then [s]
 else if (Builtin.Str.occurrences s t 0 s.length (s.length + 1)).isEmpty=true then [s] else Builtin.Str.partsBetween s (Builtin.Str.occurrences s t 0 s.length (s.length + 1)) t.length
noncomputable def partS (s t:Str):List Str:=match Builtin.Str.occurrences s t 0 s.length 1 with
 | i::_=>[Builtin.Str.strSub s 0 i,t,Builtin.Str.strSub s (i + t.length) s.length]
 | []=>[s,Str.empty,Str.empty]
noncomputable def mtD (m:Mt)(x:D)(xs:List D):Mo D:=match m,x,xs with
 | .append,.ob k,[v]=>do let ds <- getL k;need (ds.length < sizeLine);putM k (.lst (ds++[v]));pure .non
 | .join,.str t,[.tup ds]=>do let ys <- lift (ds.mapM strD);need ((ys.map (·.length)).sum + ys.length * t.length<=16777216);pure (.str (joinS t ys))
 | .join,.str t,[.ob k]=>do let ds <- getL k;let ys <- lift (ds.mapM strD);need ((ys.map (·.length)).sum + ys.length * t.length<=16777216);pure (.str (joinS t ys))
 | .split,.str s,[.str t]=>do need (0 < t.length/\s.length<=sizeLine/\(splitS s t).length<=sizeLine);newM (.lst ((splitS s t).map .str))
 | .partition,.str s,[.str t]=>do need (0 < t.length/\s.length<=sizeLine);pure (.tup ((partS s t).map .str))
 | _,_,_=>Mo.stop
mutual
noncomputable def toPy (M:MH):Nat->D->Option PyData
 | 0,_=>none
 | _ + 1,.non=>some .none
 | _ + 1,.bl b=>some (.bool b)
 | _ + 1,.int i=>some (.int i)
 | _ + 1,.str x=>some (.str x)
 | n + 1,.tup ds=>(toPys M n ds).map .tuple
 | n + 1,.fl ds=>(toPys M n ds).map .list
 | n + 1,.ob k=>match M[k]? with
  | some (.lst ds)=>(toPys M n ds).map .list
  | _=>none
termination_by n _=>(n,0)
noncomputable def toPys (M:MH)(n:Nat):List D->Option (List PyData)
 | []=>some []
 | x::xs=>match toPy M n x,toPys M n xs with
  | some d,some ds=>some (d::ds)
  | _,_=>none
termination_by xs=>(n,xs.length + 1)
end
noncomputable def isRefD:D->Bool
 | .ob _=>true
 | .tup _=>true
 | .fl _=>true
 | _=>false
noncomputable def reprT (M:MH)(x:D):Option Str:=if isRefD x=true then (match toPy M 20 x with
 | some d=>if (d.showable&&decide (d.shown.length<=sizeLine)&&decide (d.depth<=40))=true then some d.shown else none
 | none=>none) else none
noncomputable def reprO (x:D):Mo D:=fun M=>match reprT M x with
 | some t=>some (.ok (.str t),M)
 | none=>none
noncomputable def gdP:D->Option (Str×Str)
 | .tup [.str a,.str b]=>some (a,b)
 | _=>none
noncomputable def gdKs:D->Option (List (Str×Str))
 | .tup ds=>ds.mapM gdP
 | _=>none
noncomputable def gixD (g:Option D)(y:D):Mo D:=do let ks <- lift (g.bind gdKs);let k <- lift (strD y);let v <- lift (ks.lookup k);pure (.str v)
noncomputable def gdDs (ks:List (Str×Str)):List D:=ks.map fun p=>.tup [.str p.1,.str p.2]
set_option genSizeOf false
set_option genInjectivity false
mutual
inductive IE where
 | var (i:Nat) | cint (i:Int) | cbl (b:Bool) | cnon | cstr (x:Str)
 | glb (x:Str)
 | bin (op:Operator) (a b:IE)
 | cmp (op:CmpOp) (a b:IE)
 | cmp2 (op op':CmpOp) (a b c:IE)
 | and (a b:IE) | or (a b:IE) | not (a:IE)
 | ifE (c:IC) (a b:IE)
 | tup (es:IEs) | lst (es:IEs) | dic0
 | idx (a b:IE) | slc (a:IE) (lo hi:IEo)
 | call (f:Str) (es:IEs) | blt (b:Bl) (es:IEs)
 | sortItems (a:IE)
 | sortL (a:IE)
 | lset (a:IE)
 | rfs (es:IEs)
 | bwc
 | rep (a:IE)
 | intB (a:IE)
 | gix (x:Str) (a:IE)
 | neg (a:IE)
 | isI (a:IE) (t:Ty)
 | mth (m:Mt) (a:IE) (es:IEs)
 | comp (j:Nat) (it:IT) (c:ICo) (e:IE)
inductive IEs where
 | nil | cons (e:IE) (es:IEs)
inductive IEo where
 | none | some (e:IE)
inductive IT where
 | seq (e:IE) | rng1 (a:IE) | rng2 (a b:IE)
inductive IC where
 | cmp (e:IE) | tru (e:IE) | not (c:IC) | and (a b:IC) | or (a b:IC)
inductive ICo where
 | none | some (c:IC)
end
inductive IP where
 | seq (e:IE) | enum (e:IE)
 | gitems (x:Str)
mutual
inductive IS where
 | set (i:Nat) (e:IE) | setIx (o i e:IE) | expr (e:IE) | ret (e:IE) | retN | pass | brk | cnt
 | halt
 | rz (e:IE)
 | ifS (c:IC) (a b:ISs) | forS (i:Nat) (it:IT) (b:ISs) | forP (i j:Nat) (it:IP) (b:ISs) | whileS (c:IC) (b:ISs)
inductive ISs where
 | nil | cons (s:IS) (r:ISs)
end
set_option genSizeOf true
set_option genInjectivity true
noncomputable def leS (a b:Str):Bool:=!decide (b.cps.toList < a.cps.toList)
noncomputable def leI (a b:Int):Bool:=decide (a<=b)
noncomputable def sortS (xs:List Str):List Str:=xs.mergeSort leS
noncomputable def sortI (xs:List Int):List Int:=xs.mergeSort leI
theorem leS_trans (a b c:Str)(h1:leS a b=true)(h2:leS b c=true):leS a c=true:=by
 simp only[leS,Bool.not_eq_true',decide_eq_false_iff_not,List.not_lt]at *;exact List.le_trans h1 h2
theorem leS_total (a b:Str):(leS a b||leS b a)=true:=by
 simp only[leS,Bool.or_eq_true,Bool.not_eq_true',decide_eq_false_iff_not,List.not_lt];exact List.le_total _ _
theorem leS_anti {a b:Str}(h1:leS a b=true)(h2:leS b a=true):a=b:=by
 simp only[leS,Bool.not_eq_true',decide_eq_false_iff_not,List.not_lt]at *;have e:=List.le_antisymm h1 h2;cases a;cases b;congr 1;exact Array.toList_inj.mp e
theorem sortS_perm (xs:List Str):(sortS xs).Perm xs:=List.mergeSort_perm _ _
theorem sortS_pw (xs:List Str):(sortS xs).Pairwise fun a b=>leS a b=true:=List.pairwise_mergeSort leS_trans leS_total xs
theorem sortS_uniq {xs ys:List Str}(p:ys.Perm xs)(h:ys.Pairwise fun a b=>leS a b=true):ys=sortS xs :=
 List.Perm.eq_of_pairwise (fun _ _ _ _=>leS_anti) h (sortS_pw xs) (p.trans (sortS_perm xs).symm)
theorem sortI_perm (xs:List Int):(sortI xs).Perm xs:=List.mergeSort_perm _ _
theorem sortI_pw (xs:List Int):(sortI xs).Pairwise fun a b=>a<=b:=by
 have:=List.pairwise_mergeSort (le:=leI) (fun a b c h1 h2=>by simp only[leI,decide_eq_true_eq]at *;omega) (fun a b=>by simp only[leI,Bool.or_eq_true,decide_eq_true_eq];omega) xs
 exact this.imp fun h=>by simpa [leI] using h
theorem sortI_uniq {xs ys:List Int}(p:ys.Perm xs)(h:ys.Pairwise fun a b=>a<=b):ys=sortI xs :=
 List.Perm.eq_of_pairwise (fun _ _ _ _=>Int.le_antisymm) h (sortI_pw xs) (p.trans (sortI_perm xs).symm)
theorem allS_map (xs:List Str):allS (xs.map .str)=some xs:=by
 induction xs with
 | nil=>rfl
 | cons x r ih=>simp only[List.map_cons,allS,strO,ih]
theorem allS_eq:∀ {ds:List D} {xs:List Str},allS ds=some xs->ds=xs.map .str
 | [],xs,h=>by cases h;rfl
 | d::ds,xs,h=>by
  simp only[allS]at h;cases d <;> simp only[strO,reduceCtorEq]at h;cases e:allS ds with
  | none=>rw[e]at h;cases h
  | some ys=>rw[e]at h;cases h;rw[allS_eq e];rfl
theorem allI_eq:∀ {ds:List D} {xs:List Int},allI ds=some xs->ds=xs.map .int
 | [],xs,h=>by cases h;rfl
 | d::ds,xs,h=>by
  simp only[allI]at h;cases d <;> simp only[intD,reduceCtorEq]at h;cases e:allI ds with
  | none=>rw[e]at h;cases h
  | some ys=>rw[e]at h;cases h;rw[allI_eq e];rfl
noncomputable def addS (xs:List Str)(x:Str):List Str:=if x∈xs then xs else xs++[x]
noncomputable def addAll (xs:List Str):List Str->List Str
 | []=>xs
 | x::r=>addAll (addS xs x) r
noncomputable def lenSet (x:D):Mo D:=match x with
 | .tup ds=>do
  let xs <- lift (allS ds)
  need ((addAll [] xs).length < 64)
  pure (.int (addAll [] xs).length)
 | _=>Mo.stop
noncomputable def sortF (ds:List D):Option (List D):=match allS ds with
 | some xs=>some ((sortS xs).map .str)
 | none=>match allI ds with
  | some xs=>some ((sortI xs).map .int)
  | none=>none
end L3
namespace L3
open PySem
structure Ctx where
 fn:Str->List D->Mo D
 gl:Str->Option D
 srt:List D->Option (List D)
 wh:Nat
 rz:Str->List D->MH->Option (Int×MH)
 rf:List D->MH->Option MH
inductive Fl where
 | nx (ρ:Ev) | rt (d:D) | bk (ρ:Ev) | ct (ρ:Ev)
structure Src where
 ck:Option (Nat×List D)
 ds:List D
noncomputable def okM (ck:Option (Nat×List D))(M:MH):Prop:=match ck with
 | none=>True
 | some (i,all)=>M[i]?=some (.lst all)
noncomputable def srcD (x:D):Mo Src:=match x with
 | .tup ds=>pure ⟨none,ds⟩
 | .fl ds=>pure ⟨none,ds⟩
 | .str s=>do need (s.length<=sizeLine);pure ⟨none,s.cps.toList.map sgn⟩
 | .ob k=>do let ds <- getL k;pure ⟨some (k,ds),ds⟩
 | _=>Mo.stop
noncomputable def small (i:Int):Prop:=-(2 ^ 62)<=i/\i < 2 ^ 62
noncomputable instance (i:Int):Decidable (small i):=by unfold small;infer_instance
noncomputable def rngD (lo hi:Int):List D:=(List.range (hi - lo).toNat).map fun (k:Nat)=>D.int (lo + k)
open Classical in
noncomputable def stand (ck:Option (Nat×List D)):Mo Unit:=fun M=>if okM ck M then some (.ok (),M) else none
noncomputable def loopD (ck:Option (Nat×List D))(i:Nat)(body:Ev->Mo Fl):List D->Ev->Mo Fl
 | [],ρ=>do stand ck;pure (.nx ρ)
 | d::ds,ρ=>do
  stand ck
  let f <- body (ρ.set i (some d))
  (match f with
  | .nx ρ'=>loopD ck i body ds ρ'
  | .ct ρ'=>loopD ck i body ds ρ'
  | .bk ρ'=>pure (.nx ρ')
  | .rt v=>pure (.rt v))
noncomputable def enumD (ds:List D):List D:=ds.mapIdx fun n d=>.tup [.int n,d]
noncomputable def enumS (x:D):Mo Src:=match x with
 | .fl ds=>pure ⟨none,enumD ds⟩
 | .ob k=>do let ds <- getL k;pure ⟨some (k,ds),enumD ds⟩
 | _=>Mo.stop
noncomputable def pairD:D->Option (D×D)
 | .tup [x,y]=>some (x,y)
 | _=>none
noncomputable def loopP (ck:Option (Nat×List D))(i j:Nat)(body:Ev->Mo Fl):List D->Ev->Mo Fl
 | [],ρ=>do stand ck;pure (.nx ρ)
 | d::ds,ρ=>do
  stand ck
  let p <- lift (pairD d)
  let f <- body ((ρ.set i (some p.1)).set j (some p.2))
  (match f with
  | .nx ρ'=>loopP ck i j body ds ρ'
  | .ct ρ'=>loopP ck i j body ds ρ'
  | .bk ρ'=>pure (.nx ρ')
  | .rt v=>pure (.rt v))
noncomputable def whileD (c:Ev->Mo Bool)(body:Ev->Mo Fl):Nat->Ev->Mo Fl
 | 0,_=>Mo.stop
 | n + 1,ρ=>do
  let b <- c ρ
  if b=true then do
   let f <- body ρ
   (match f with
   | .nx ρ'=>whileD c body n ρ'
   | .ct ρ'=>whileD c body n ρ'
   | .bk ρ'=>pure (.nx ρ')
   | .rt v=>pure (.rt v))
  else pure (.nx ρ)
noncomputable def compD (ck:Option (Nat×List D))(c:Ev->Mo Bool)(e:Ev->Mo D)(ρ:Ev):List D->Mo (List D)
 | []=>do stand ck;pure []
 | d::ds=>do
  stand ck
  let b <- c (some d::ρ)
  if b=true then do
   let y <- e (some d::ρ)
   let ys <- compD ck c e ρ ds
   pure (y::ys)
  else compD ck c e ρ ds
noncomputable def varD (ρ:Ev)(i:Nat):Mo D:=match ρ[i]? with
 | some (some d)=>pure d
 | _=>Mo.stop
noncomputable def dicItems (kvs:List (Ky×D)):List D:=kvs.map fun kv=>.tup [dK kv.1,kv.2]
noncomputable def rfD (Γ:Ctx)(xs:List D):Mo D:=fun M=>match Γ.rf xs M with
 | some M'=>some (.ok (.bl true),M')
 | none=>none
mutual
noncomputable def semE (Γ:Ctx):IE->Ev->Mo D
 | .var i,ρ=>varD ρ i
 | .cint i,_=>pure (.int i)
 | .cbl b,_=>pure (.bl b)
 | .cnon,_=>pure .non
 | .cstr x,_=>pure (.str x)
 | .glb x,_=>lift (Γ.gl x)
 | .bin op a b,ρ=>do let x <- semE Γ a ρ;let y <- semE Γ b ρ;opD op x y
 | .cmp op a b,ρ=>do let x <- semE Γ a ρ;let y <- semE Γ b ρ;let k <- cmpD op x y;pure (.bl k)
 | .cmp2 op op' a b c,ρ=>do
  let x <- semE Γ a ρ
  let y <- semE Γ b ρ
  let k <- cmpD op x y
  if k=true then do let z <- semE Γ c ρ;let k' <- cmpD op' y z;pure (.bl k') else pure (.bl false)
 | .and a b,ρ=>do let x <- semE Γ a ρ;let k <- lift (boolD x);if k=true then semE Γ b ρ else pure (.bl false)
 | .or a b,ρ=>do let x <- semE Γ a ρ;let k <- lift (boolD x);if k=true then pure (.bl true) else semE Γ b ρ
 | .not a,ρ=>do let x <- semE Γ a ρ;let k <- lift (boolD x);pure (.bl (!k))
 | .ifE c a b,ρ=>do let k <- semC Γ c ρ;if k=true then semE Γ a ρ else semE Γ b ρ
 | .tup es,ρ=>do let xs <- semEs Γ es ρ;need (xs.length<=sizeLine);pure (.tup xs)
 | .lst es,ρ=>do let xs <- semEs Γ es ρ;need (xs.length<=sizeLine);newM (.lst xs)
 | .dic0,_=>newM (.dic [])
 | .idx a b,ρ=>do let x <- semE Γ a ρ;let y <- semE Γ b ρ;getIx x y
 | .slc a lo hi,ρ=>do let x <- semE Γ a ρ;let l <- semO Γ lo ρ;let h <- semO Γ hi ρ;sliceD x l h
 | .call f es,ρ=>do let xs <- semEs Γ es ρ;Γ.fn f xs
 | .blt b es,ρ=>do let xs <- semEs Γ es ρ;blD b xs
 | .sortItems a,ρ=>do
  let x <- semE Γ a ρ
  (match x with
  | .ob k=>do let kvs <- getD k;let ys <- lift (Γ.srt (dicItems kvs));newM (.lst ys)
  | _=>Mo.stop)
 | .comp j it c e,ρ=>do
  let s <- semT Γ it ρ
  need (s.ds.length<=sizeLine)
  let ys <- compD s.ck (semCo Γ c) (semE Γ e) (ρ.set j none) s.ds
  newM (.lst ys)
 | .lset a,ρ=>do let x <- semE Γ a ρ;lenSet x
 | .rfs es,ρ=>do let xs <- semEs Γ es ρ;rfD Γ xs
 | .bwc,_=>pure (.bl true)
 | .sortL a,ρ=>do
  let x <- semE Γ a ρ
  let ds <- lstD x
  let ys <- lift (Γ.srt ds)
  newM (.lst ys)
 | .intB a,ρ=>do let x <- semE Γ a ρ;let b <- lift (boolD x);pure (.int (if b then 1 else 0))
 | .rep a,ρ=>do let x <- semE Γ a ρ;reprO x
 | .gix x a,ρ=>do let y <- semE Γ a ρ;gixD (Γ.gl x) y
 | .neg a,ρ=>do
  let x <- semE Γ a ρ
  (match x with
  | .int i=>pure (.int (-i))
  | _=>Mo.stop)
 | .isI a t,ρ=>do let x <- semE Γ a ρ;let k <- tyD t x;pure (.bl k)
 | .mth m a es,ρ=>do let x <- semE Γ a ρ;rcvD m x;let xs <- semEs Γ es ρ;mtD m x xs
noncomputable def semEs (Γ:Ctx):IEs->Ev->Mo (List D)
 | .nil,_=>pure []
 | .cons e es,ρ=>do let x <- semE Γ e ρ;let xs <- semEs Γ es ρ;pure (x::xs)
noncomputable def semO (Γ:Ctx):IEo->Ev->Mo (Option Int)
 | .none,_=>pure none
 | .some e,ρ=>do
  let x <- semE Γ e ρ
  (match x with
  | .int i=>pure (some i)
  | _=>Mo.stop)
noncomputable def semT (Γ:Ctx):IT->Ev->Mo Src
 | .seq e,ρ=>do let x <- semE Γ e ρ;srcD x
 | .rng1 a,ρ=>do
  let x <- semE Γ a ρ
  (match x with
  | .int i=>do need (small i);pure ⟨none,rngD 0 i⟩
  | _=>Mo.stop)
 | .rng2 a b,ρ=>do
  let x <- semE Γ a ρ
  let y <- semE Γ b ρ
  (match x,y with
  | .int i,.int j=>do need (small i/\small j);pure ⟨none,rngD i j⟩
  | _,_=>Mo.stop)
noncomputable def semC (Γ:Ctx):IC->Ev->Mo Bool
 | .cmp e,ρ=>do let x <- semE Γ e ρ;lift (boolD x)
 | .tru e,ρ=>do let x <- semE Γ e ρ;truD x
 | .not c,ρ=>do let k <- semC Γ c ρ;pure (!k)
 | .and a b,ρ=>do let k <- semC Γ a ρ;if k=true then semC Γ b ρ else pure false
 | .or a b,ρ=>do let k <- semC Γ a ρ;if k=true then pure true else semC Γ b ρ
noncomputable def semCo (Γ:Ctx):ICo->Ev->Mo Bool
 | .none,_=>pure true
 | .some c,ρ=>semC Γ c ρ
end
noncomputable def semP (Γ:Ctx):IP->Ev->Mo Src
 | .seq e,ρ=>do let x <- semE Γ e ρ;srcD x
 | .enum e,ρ=>do let x <- semE Γ e ρ;enumS x
 | .gitems x,_=>do let ks <- lift ((Γ.gl x).bind gdKs);pure ⟨none,gdDs ks⟩
mutual
noncomputable def semS (Γ:Ctx):IS->Ev->Mo Fl
 | .set i e,ρ=>do let x <- semE Γ e ρ;pure (.nx (ρ.set i (some x)))
 | .setIx o i e,ρ=>do let v <- semE Γ e ρ;let x <- semE Γ o ρ;let y <- semE Γ i ρ;setIx x y v;pure (.nx ρ)
 | .expr e,ρ=>do let _ <- semE Γ e ρ;pure (.nx ρ)
 | .ret e,ρ=>do let x <- semE Γ e ρ;pure (.rt x)
 | .retN,_=>pure (.rt .non)
 | .pass,ρ=>pure (.nx ρ)
 | .brk,ρ=>pure (.bk ρ)
 | .cnt,ρ=>pure (.ct ρ)
 | .halt,_=>Mo.stop
 | .rz _,_=>Mo.stop
 | .ifS c a b,ρ=>do let k <- semC Γ c ρ;if k=true then semSs Γ a ρ else semSs Γ b ρ
 | .forS i it b,ρ=>do let s <- semT Γ it ρ;loopD s.ck i (semSs Γ b) s.ds ρ
 | .forP i j it b,ρ=>do let s <- semP Γ it ρ;loopP s.ck i j (semSs Γ b) s.ds ρ
 | .whileS c b,ρ=>whileD (semC Γ c) (semSs Γ b) Γ.wh ρ
noncomputable def semSs (Γ:Ctx):ISs->Ev->Mo Fl
 | .nil,ρ=>pure (.nx ρ)
 | .cons s r,ρ=>do
  let f <- semS Γ s ρ
  (match f with
  | .nx ρ'=>semSs Γ r ρ'
  | .rt v=>pure (.rt v)
  | .bk ρ'=>pure (.bk ρ')
  | .ct ρ'=>pure (.ct ρ'))
end
noncomputable def nx1:Option (Out Fl×MH)->Option (Ev×MH)
 | some (.ok (.nx ρ),M)=>some (ρ,M)
 | _=>none
noncomputable def nx2:Option (Out Fl×MH)->Option (Ev×MH)
 | some (.ok (.nx ρ),M)=>some (ρ,M)
 | some (.ok (.ct ρ),M)=>some (ρ,M)
 | _=>none
noncomputable def rzLP (ck:Option (Nat×List D))(i j:Nat)(fb:Ev->Mo Fl)(zb:Ev->MH->Option (Int×MH)):List D->Ev->MH->Option (Int×MH)
 | [],_,_=>none
 | d::ds,ρ,M=>match stand ck M with
  | none=>none
  | some _=>match pairD d with
   | none=>none
   | some p=>match nx2 (fb ((ρ.set i (some p.1)).set j (some p.2)) M) with
    | some (ρ',M1)=>rzLP ck i j fb zb ds ρ' M1
    | none=>zb ((ρ.set i (some p.1)).set j (some p.2)) M
mutual
noncomputable def rzS (Γ:Ctx):IS->Ev->MH->Option (Int×MH)
 | .rz e,ρ,M=>match semE Γ e ρ M with
  | some (.ok (.int i),M1)=>some (i,M1)
  | _=>none
 | .ifS c a b,ρ,M=>match semC Γ c ρ M with
  | some (.ok k,M1)=>if k=true then rzSs Γ a ρ M1 else rzSs Γ b ρ M1
  | _=>none
 | .forP i j it b,ρ,M=>match semP Γ it ρ M with
  | some (.ok s,M1)=>rzLP s.ck i j (semSs Γ b) (rzSs Γ b) s.ds ρ M1
  | _=>none
 | _,_,_=>none
noncomputable def rzSs (Γ:Ctx):ISs->Ev->MH->Option (Int×MH)
 | .nil,_,_=>none
 | .cons s r,ρ,M=>match nx1 (semS Γ s ρ M) with
  | some (ρ',M1)=>rzSs Γ r ρ' M1
  | none=>rzS Γ s ρ M
end
noncomputable def rf2 (rz:Str->List D->MH->Option (Int×MH))(xs:List D)(M:MH):Option MH:=match xs with
 | [.int n,t,.int j]=>(match rz (if n=0 then "read_marks" else "read_askings") [t] M with
  | some (i,M')=>if i=j/\i.natAbs < 2 ^ 64 then some M' else none
  | none=>none)
 | _=>none
noncomputable def semF (Γ:Ctx)(n:Nat)(b:ISs)(xs:List D):Mo D:=do
 let f <- semSs Γ b (xs.map some++List.replicate (n - xs.length) none)
 (match f with
 | .nx _=>pure .non
 | .rt v=>pure v
 | .bk _=>Mo.stop
 | .ct _=>Mo.stop)
structure Fd where
 n:Nat
 p:Nat
 b:ISs
noncomputable def CtxN (tab:List (Str×Fd))(gl:Str->Option D)(srt:List D->Option (List D))(wh:Nat):Nat->Ctx
 | 0=>⟨fun _ _=>Mo.stop,gl,srt,wh,fun _ _ _=>none,fun _ _=>none⟩
 | k + 1=>⟨fun f xs=>match tab.lookup f with
  | some d=>do need (xs.length=d.p);semF (CtxN tab gl srt wh k) d.n d.b xs
  | none=>Mo.stop,gl,srt,wh,fun f xs M=>match tab.lookup f with
  | some d=>if xs.length=d.p then rzSs (CtxN tab gl srt wh k) d.b (xs.map some++List.replicate (d.n - xs.length) none) M else none
  | none=>none,rf2 (CtxN tab gl srt wh k).rz⟩
structure Sc where
 sc:Scope
 N:List Str
 fns:List Str
 gls:List Str
 bls:List Str
noncomputable def Sc.kind (S:Sc)(x:Str):Option NameKind:=S.sc.names.lookup x
noncomputable def Sc.vis (S:Sc)(x:Str):Bool:=S.kind x==some .local||S.kind x==some .cell||S.kind x==some .free
noncomputable def Sc.loc (S:Sc)(x:Str):Bool:=S.kind x==some .local||S.kind x==some .cell
noncomputable def Sc.glo (S:Sc)(x:Str):Bool:=S.kind x==some .globalImplicit
noncomputable def slot (N:List Str)(x:Str):Option Nat:=N.findIdx? (·==x)
noncomputable def blOf (x:Str)(n:Nat):Option Bl :=
 if x==("len" : Str)&&n==1 then some .len else if x==("tuple" : Str)&&n==1 then some .tuple else if x==("list" : Str)&&n==1 then some .list
 else if x==("repr" : Str)&&n==1 then some .repr else if x==("all" : Str)&&n==1 then some .all else if x==("any" : Str)&&n==1 then some .any
 else if x==("min" : Str)&&n==2 then some .min2 else if x==("max" : Str)&&n==2 then some .max2 else if x==("abs" : Str)&&n==1 then some .abs else if x==("dict" : Str)&&n==1 then some .dict1 else if x==("min" : Str)&&n==1 then some .minL else none
noncomputable def plainE:Expr->Bool
 | .Starred _ _=>false
 | _=>true
noncomputable def okName (x:Str):Bool:=x != ("__debug__" : Str)&&x != ("__classdict__" : Str)&&x != ("__name__" : Str)
noncomputable def ixE:Expr->Bool
 | .Name _ _=>true | .Constant _ _ _=>true | .BinOp _ _ _ _=>true | .Compare _ _ _ _=>true | .BoolOp _ _ _=>true | .UnaryOp _ _ _=>true | .IfExp _ _ _ _=>true
 | .List _ _=>true | .Subscript _ _ _=>true | .Call _ _ _ _=>true | _=>false
noncomputable def bsE:Expr->Bool
 | .Name _ _=>true | .Constant _ _ _=>true | .BinOp _ _ _ _=>true | .Subscript _ _ _=>true | .List _ _=>true | .Tuple _ _ _=>true | .Call _ (_::_) _ _=>true | _=>false
noncomputable def noComp:Expr->Bool
 | .ListComp _ _ _ _=>false
 | .SetComp _ _ _ _=>false
 | .DictComp _ _ _ _ _=>false
 | _=>true
noncomputable def blank (N:List Str)(xs:List Str):List Str:=N.map fun y=>if xs.contains y then "" else y
noncomputable def compOk (S:Sc)(sc:Scope)(xs:List Str):Bool :=
 sc.kind==.function&&(xs.all fun x=>sc.names.lookup x==some .local&&(x != (".0" : Str))&&(x != ("" : Str))) &&
 sc.names.all (fun p=>p.2 != .cell&&(p.2 != .local||(xs.contains p.1||p.1==(".0" : Str)))) &&
 sc.names.all (fun p=>p.2 != .free||(S.kind p.1==some .cell||S.kind p.1==some .free)) &&
 sc.names.all (fun p=>sc.names.lookup p.1==some p.2&&p.1 != ("" : Str))&&(S.N.all fun y=>y != (".0" : Str))&&decide (xs++blank S.N xs).Nodup
noncomputable def Sc.comp (S:Sc)(sc:Scope)(xs:List Str):Sc:={ S with sc:=sc,N:=xs++blank S.N xs }
noncomputable def inDomOp (op:Operator):Bool:=op==.Add||op==.Sub||op==.Mult||op==.FloorDiv||op==.Mod||op==.Pow
noncomputable def callK (S:Sc)(f:Str)(len:Nat)(xs:Option IEs):Option IE:=if okName f&&S.glo f then
 (if S.fns.contains f then xs.map (.call f)
 else if S.bls.contains f then (match blOf f len with
  | some b=>xs.map (.blt b)
  | none=>none)
 else none) else none
noncomputable def tyOf (t:Str):Option Ty :=
 if t==("int" : Str) then some .int else if t==("str" : Str) then some .str else if t==("bool" : Str) then some .bool
 else if t==("list" : Str) then some .list else if t==("tuple" : Str) then some .tuple else if t==("dict" : Str) then some .dict else none
noncomputable def mtOf (m:Str)(n:Nat):Option Mt :=
 if m==("append" : Str)&&n==1 then some .append else if m==("insert" : Str)&&n==2 then some .insert else
 if m==("split" : Str)&&n==1 then some .split else if m==("partition" : Str)&&n==1 then some .partition else
 if m==("join" : Str)&&n==1 then some .join else if m==("get" : Str)&&n==2 then some .get else none
noncomputable def isiOk (S:Sc)(f t:Str):Bool:=f==("isinstance" : Str)&&okName f&&S.glo f&&S.bls.contains f&&okName t&&S.glo t&&S.bls.contains t
noncomputable def nameK (S:Sc)(x:Str):Option IE:=if okName x then (if S.vis x then (slot S.N x).map .var else if S.glo x&&S.gls.contains x then some (.glb x) else none) else none
noncomputable def constK:Const->Option IE
 | .int i=>some (.cint i)
 | .bool b=>some (.cbl b)
 | .none=>some .cnon
 | .str x=>some (.cstr x)
 | _=>none
noncomputable def isRng:Expr->Bool
 | .Call (.Name f _) _ _ _=>f==("range" : Str)
 | _=>false
noncomputable def cmpK (r:Expr->Option IE)(a:Expr)(ops:List CmpOp)(bs:List Expr):Option IE:=match ops,bs with
 | [op],[b]=>if behindInMarks op b then none else do let x <- r a;let y <- r b;some (.cmp op x y)
 | [op,op'],[b,c]=>if behindInMarks op' c then none else do let x <- r a;let y <- r b;let z <- r c;some (.cmp2 op op' x y z)
 | _,_=>none
noncomputable def andor:BoolOp->IE->IE->IE
 | .And=>.and
 | .Or=>.or
noncomputable def boolK (r:Expr->Option IE)(op:BoolOp)(es:List Expr)(p:Pos):Option IE:=match es with
 | [a,b]=>do let x <- r a;let y <- r b;some (andor op x y)
 | a::b::c::l=>do let x <- r a;let y <- r (.BoolOp op (b::c::l) p);some (andor op x y)
 | _=>none
noncomputable def unK (r:Expr->Option IE)(op:UnaryOp)(a:Expr):Option IE:=match op with
 | .Not=>do let x <- r a;some (.not x)
 | .USub=>do let x <- r a;some (.neg x)
 | _=>none
noncomputable def dictK (_:Expr->Option IE)(ks:List (Option Expr))(vs:List Expr):Option IE:=match ks,vs with
 | [],[]=>some .dic0
 | _,_=>none
noncomputable def subK (r:Expr->Option IE)(ro:Option Expr->Option IEo)(a b:Expr):Option IE:=match b with
 | .Slice lo hi none _=>do let x <- r a;let l <- ro lo;let h <- ro hi;some (.slc x l h)
 | b=>if ixE b then do let x <- r a;let y <- r b;some (.idx x y) else none
noncomputable def itemsE:Expr->Option (Expr×Str×Pos×Pos)
 | .Call (.Attribute o m p2) [] [] p3=>some (o,m,p2,p3)
 | _=>none
noncomputable def nmE:Expr->Option (Str×Pos)
 | .Name t p=>some (t,p)
 | _=>none
noncomputable def setE:Expr->Option (Pos×Expr×Pos)
 | .Call (.Name g p) [b] [] q=>if g==("set" : Str) then some (p,b,q) else none
 | _=>none
noncomputable def gdName (x:Str):Bool:=x==("SIGN_OF" : Str)
noncomputable def gixK (S:Sc)(r:Expr->Option IE)(a b:Expr)(k:Option IE):Option IE:=match nmE a with
 | some (x,_)=>if gdName x&&(okName x&&S.glo x&&ixE b) then (r b).map (.gix x) else k
 | none=>k
noncomputable def gitK (S:Sc)(e:Expr)(k:Option IP):Option IP:=match itemsE e with
 | some (o,m,p2,p3)=>(match nmE o with
  | some (x,_)=>if gdName x&&(okName x&&S.glo x&&m==("items" : Str)&&p2.endLine==p3.line) then some (.gitems x) else k
  | none=>k)
 | none=>k
noncomputable def sortK (S:Sc)(r:Expr->Option IE)(f:Str)(as:List Expr):Option IE:=match as with
 | [a]=>(match itemsE a with
  | some (o,m,p2,p3)=>if bsE o&&(f==("sorted" : Str)&&m==("items" : Str)&&p2.endLine==p3.line&&okName f&&S.glo f&&S.bls.contains f) then do let x <- r o;some (.sortItems x) else none
  | none=>(
    if plainE a&&(f==("sorted" : Str)&&okName f&&S.glo f&&S.bls.contains f) then do let x <- r a;some (.sortL x) else none))
 | _=>none
noncomputable def rngE:Expr->Option (Str×Pos×List Expr×Pos)
 | .Call (.Name f p) as [] q=>some (f,p,as,q)
 | _=>none
noncomputable def rngOk (S:Sc)(f:Str)(as:List Expr):Bool:=f==("range" : Str)&&okName f&&S.glo f&&S.bls.contains f&&as.all plainE
noncomputable def intK (S:Sc)(r:Expr->Option IE)(f:Str)(as:List Expr)(k:Option IE):Option IE:=match as with
 | [a]=>if (f==("int" : Str)&&okName f&&S.glo f&&S.bls.contains f) then (if plainE a then do let x <- r a;some (.intB x) else none) else k
 | _=>k
noncomputable def repK (S:Sc)(r:Expr->Option IE)(f:Str)(as:List Expr)(k:Option IE):Option IE:=match as with
 | [a]=>if (f==("repr" : Str)&&okName f&&S.glo f&&S.bls.contains f) then (if plainE a then do let x <- r a;some (.rep x) else none) else k
 | _=>k
noncomputable def lsetOk (S:Sc)(f:Str):Bool:=f==("len" : Str)&&okName f&&S.glo f&&S.bls.contains f&&(S.glo ("set" : Str)&&S.bls.contains ("set" : Str))
noncomputable def lsetK (S:Sc)(r:Expr->Option IE)(f:Str)(as:List Expr)(k:Option IE):Option IE:=match as with
 | [a]=>(match setE a with
  | some (_,b,_)=>if lsetOk S f then (if plainE b then do let x <- r b;some (.lset x) else none) else k
  | none=>k)
 | _=>k
noncomputable def rfsOk (S:Sc)(f:Str):Bool:=f==("_law_refused" : Str)&&okName f&&S.glo f
noncomputable def rfsK (S:Sc)(f:Str)(xs:Option IEs)(k:Option IE):Option IE:=if rfsOk S f then xs.map .rfs else k
noncomputable def isiK (S:Sc)(r:Expr->Option IE)(f:Str)(as:List Expr):Option IE:=match as with
 | [a,t]=>(match nmE t with
  | some (t',_)=>if isiOk S f t'&&plainE a then (match tyOf t' with
   | some k=>do let x <- r a;some (.isI x k)
   | none=>none) else none
  | none=>none)
 | _=>none
noncomputable def attrK (r:Expr->Option IE)(rs:List Expr->Option IEs)(o:Expr)(m:Str)(p2 p3:Pos)(as:List Expr):Option IE:=match as with
 | e::es=>if bsE o&&(p2.endLine==p3.line&&decide ((e::es).length < 29)) then (match mtOf m (e::es).length with
   | some k=>do let x <- r o;let xs <- rs (e::es);some (.mth k x xs)
   | none=>none) else none
 | _=>none
noncomputable def fnK (S:Sc)(r:Expr->Option IE)(rs:List Expr->Option IEs)(f:Str)(as:List Expr):Option IE:=match as with
 | e::es=>if f==("sorted" : Str) then sortK S r f (e::es) else if f==("isinstance" : Str) then isiK S r f (e::es) else
  repK S r f (e::es) <|
  intK S r f (e::es) <|
  lsetK S r f (e::es) <|
  rfsK S f (rs (e::es)) <|
  callK S f (e::es).length (rs (e::es))
 | _=>none
noncomputable def callE (S:Sc)(r:Expr->Option IE)(rs:List Expr->Option IEs)(f:Expr)(as:List Expr)(p:Pos):Option IE:=match f with
 | .Name g _=>fnK S r rs g as
 | .Attribute o m p2=>attrK r rs o m p2 p as
 | _=>none
noncomputable def rngK (S:Sc)(r:Expr->Option IE)(f:Str)(as:List Expr):Option IT:=if rngOk S f as then (match as with
 | [a]=>do let x <- r a;some (.rng1 x)
 | [a,b]=>do let x <- r a;let y <- r b;some (.rng2 x y)
 | _=>none) else none
noncomputable def itE:Expr->Bool
 | .Name _ _=>true | .Subscript _ _ _=>true | .BinOp _ _ _ _=>true | .Call _ _ _ _=>true | .List _ _=>true | .ListComp _ _ _ _=>true | _=>false
noncomputable def andorC:BoolOp->IC->IC->IC
 | .And=>.and
 | .Or=>.or
noncomputable def condK (r:Expr->Option IC)(op:BoolOp)(es:List Expr):Option IC:=match es with
 | [a,b]=>do let k <- r a;let j <- r b;some (andorC op k j)
 | [a,b,c]=>do let k <- r a;let j <- r b;let l <- r c;some (andorC op k (andorC op j l))
 | _=>none
noncomputable def cmpR (S:Sc)(r:Expr->Option IE)(a:Expr)(ops:List CmpOp)(bs:List Expr):Option IE:=match ops,bs with
 | [op],[b]=>if isRng b then
  none
  else cmpK r a [op] [b]
 | ops,bs=>cmpK r a ops bs
noncomputable def gensK:List Comprehension->Option (Str×Pos×Expr×List Expr)
 | [⟨.Name x p,iter,ifs,0⟩]=>some (x,p,iter,ifs)
 | _=>none
noncomputable def bwA (a:Expr):Option (Pos×Pos×Nat×Pos×Pos×Pos×Pos):=match a with
 | .Call (.Name r p1) [.Attribute (.Call (.Name b p2) [.Constant (.int 7) k p3] [] p4) t p5] [] p6=>if r==("repr" : Str)&&(b==("BadWord" : Str)&&t==("at" : Str)) then some (p1,p2,k,p3,p4,p5,p6) else none
 | _=>none
noncomputable def bwB (bs:List Expr):Option (Nat×Pos):=match bs with
 | [.Constant (.str x) k p]=>if x==("7" : Str) then some (k,p) else none
 | _=>none
noncomputable def bwK (S:Sc)(a:Expr)(ops:List CmpOp)(bs:List Expr)(k:Option IE):Option IE:=match bwA a,bwB bs with
 | some _,some _=>(match ops with
  | [.Eq]=>if S.glo "BadWord"&&(S.glo "repr"&&S.bls.contains "repr") then some .bwc else none
  | _=>none)
 | _,_=>k
mutual
noncomputable def cE (S:Sc):Nat->Expr->Option IE
 | 0,_=>none
 | n + 1,e=>match e with
  | .Name x _=>nameK S x
  | .Constant c _ _=>constK c
  | .BinOp a op b _=>if inDomOp op then do let x <- cE S n a;let y <- cE S n b;some (.bin op x y) else none
  | .Compare a ops bs _=>bwK S a ops bs (cmpR S (cE S n) a ops bs)
  | .BoolOp op es p=>boolK (cE S n) op es p
  | .UnaryOp op a _=>unK (cE S n) op a
  | .IfExp c a b _=>do let k <- cC S n c;let x <- cE S n a;let y <- cE S n b;some (.ifE k x y)
  | .Tuple es _ _=>do let xs <- cEs S n es;some (.tup xs)
  | .List es _=>do let xs <- cEs S n es;some (.lst xs)
  | .Dict ks vs _=>dictK (cE S n) ks vs
  | .Subscript a b _=>gixK S (cE S n) a b (subK (cE S n) (cO S n) a b)
  | .Call f as ks p=>if ks.isEmpty then callE S (cE S n) (cEs S n) f as p else none
  | .ListComp elt gs sc _=>(match gensK gs with
   | some (x,_,iter,ifs)=>if compOk S sc [x] then do
     let it <- cT S n iter
     let c <- cCo (S.comp sc [x]) n ifs
     let e <- cE (S.comp sc [x]) n elt
     some (.comp ((slot S.N x).getD S.N.length) it c e) else none
   | none=>none)
  | _=>none
noncomputable def cEs (S:Sc):Nat->List Expr->Option IEs
 | 0,_=>none
 | _ + 1,[]=>some .nil
 | n + 1,e::es=>if plainE e then do let x <- cE S n e;let xs <- cEs S n es;some (.cons x xs) else none
noncomputable def cO (S:Sc):Nat->Option Expr->Option IEo
 | 0,_=>none
 | _ + 1,none=>some .none
 | n + 1,some e=>do let x <- cE S n e;some (.some x)
noncomputable def cT (S:Sc):Nat->Expr->Option IT
 | 0,_=>none
 | n + 1,e=>match rngE e with
  | some (f,_,as,_)=>if f==("range" : Str) then rngK S (cE S n) f as else (cE S n e).map .seq
  | none=>if itE e then (cE S n e).map .seq else none
noncomputable def cC (S:Sc):Nat->Expr->Option IC
 | 0,_=>none
 | n + 1,e=>match e with
  | .UnaryOp op a _=>if op==.Not then (cC S n a).map .not else none
  | .BoolOp op es _=>condK (cC S n) op es
  | .Compare a ops bs _=>(cmpR S (cE S n) a ops bs).map .cmp
  | .Name x p=>(cE S n (.Name x p)).map .tru
  | .Call f as ks p=>(cE S n (.Call f as ks p)).map .tru
  | .Subscript a b p=>(cE S n (.Subscript a b p)).map .tru
  | _=>none
noncomputable def cCo (S:Sc):Nat->List Expr->Option ICo
 | 0,_=>none
 | _ + 1,[]=>some .none
 | n + 1,[c]=>do let k <- cC S n c;some (.some k)
 | _,_=>none
end
noncomputable def compP:Expr->Option (Expr×List Comprehension×Scope)
 | .ListComp elt gs sc _=>some (elt,gs,sc)
 | _=>none
noncomputable def asgN (S:Sc)(n:Nat)(x:Str)(v:Expr):Option IS:=match compP v with
 | some (elt,gs,sc)=>(match gensK gs with
  | some (y,_,iter,ifs)=>if S.loc x&&compOk S sc [y] then do
   let i <- slot S.N x
   let it <- cT S n iter
   let c <- cCo (S.comp sc [y]) n ifs
   let e <- cE (S.comp sc [y]) n elt
   some (.set i (.comp ((slot S.N y).getD S.N.length) it c e)) else none
  | none=>none)
 | none=>if S.loc x&&noComp v then do let i <- slot S.N x;let y <- cE S n v;some (.set i y) else none
noncomputable def asgT (S:Sc)(n:Nat)(t:Expr)(v:Expr):Option IS:=match t with
 | .Name x _=>asgN S n x v
 | .Subscript o i _=>if ixE i then do let y <- cE S n v;let a <- cE S n o;let b <- cE S n i;some (.setIx a b y) else none
 | _=>none
noncomputable def asgK (S:Sc)(n:Nat)(ts:List Expr)(v:Expr):Option IS:=match ts with
 | []=>none
 | t::r=>(match r with
  | []=>asgT S n t v
  | _::_=>none)
noncomputable def enumK (S:Sc)(r:Expr->Option IE)(f:Str)(as:List Expr):Option IP:=match as with
 | []=>none
 | a::l=>(match l with
  | []=>if okName f&&S.glo f&&S.bls.contains f&&plainE a then (r a).map .enum else none
  | _::_=>none)
noncomputable def cP (S:Sc)(n:Nat)(e:Expr):Option IP:=match rngE e with
 | some (f,_,as,_)=>if f==("enumerate" : Str) then enumK S (cE S n) f as else (cE S n e).map .seq
 | none=>gitK S e (if itE e then (cE S n e).map .seq else none)
noncomputable def pair2 (S:Sc)(n:Nat)(a b iter:Expr)(r:Option ISs):Option IS:=match nmE a with
 | none=>none
 | some (x,_)=>(match nmE b with
  | none=>none
  | some (y,_)=>if S.loc x&&S.loc y then do let i <- slot S.N x;let j <- slot S.N y;let it <- cP S n iter;let z <- r;some (.forP i j it z) else none)
noncomputable def pairT (S:Sc)(n:Nat)(ts:List Expr)(iter:Expr)(r:Option ISs):Option IS:=match ts with
 | []=>none
 | a::l=>(match l with
  | []=>none
  | b::l2=>(match l2 with
   | []=>pair2 S n a b iter r
   | _::_=>none))
noncomputable def forT (S:Sc)(n:Nat)(t iter:Expr)(r:Option ISs):Option IS:=match t with
 | .Name x _=>if S.loc x then do let i <- slot S.N x;let it <- cT S n iter;let y <- r;some (.forS i it y) else none
 | .Tuple ts _ _=>pairT S n ts iter r
 | _=>none
noncomputable def noneK (o:List Stmt)(r:Option IS):Option IS:=match o with
 | []=>r
 | _::_=>none
noncomputable def rzX (e:Expr):Option (Expr×Pos×Pos):=match rngE e with
 | some (f,p,as,q)=>if f==("BadWord" : Str) then (match as with
  | [x]=>if plainE x then some (x,p,q) else none
  | _=>none) else none
 | none=>none
noncomputable def rzK (S:Sc)(r:Expr->Option IE)(a b:Option Expr):IS:=match a with
 | some e=>(match b with
  | none=>(match rzX e with
   | some (x,_,_)=>if S.glo "BadWord" then (match r x with
    | some i=>.rz i
    | none=>.halt) else .halt
   | none=>.halt)
  | some _=>.halt)
 | none=>.halt
mutual
noncomputable def cS (S:Sc):Nat->Stmt->Option IS
 | 0,_=>none
 | n + 1,s=>match s with
  | .Assign ts v _=>asgK S n ts v
  | .Expr e _=>if noComp e then do let y <- cE S n e;some (.expr y) else none
  | .Return o _=>(match o with
   | some e=>do let y <- cE S n e;some (.ret y)
   | none=>some .retN)
  | .Raise a b _=>some (rzK S (cE S n) a b)
  | .Pass _=>some .pass
  | .Break _=>some .brk
  | .Continue _=>some .cnt
  | .If c a b _=>do let k <- cC S n c;let x <- cSs S n a;let y <- cSs S n b;some (.ifS k x y)
  | .For t iter b o _=>noneK o (forT S n t iter (cSs S n b))
  | .While c b o _=>noneK o (do let k <- cC S n c;let y <- cSs S n b;some (.whileS k y))
  | _=>none
noncomputable def cSs (S:Sc):Nat->List Stmt->Option ISs
 | 0,_=>none
 | _ + 1,[]=>some .nil
 | n + 1,s::r=>do let x <- cS S n s;let y <- cSs S n r;some (.cons x y)
end
end L3
namespace L2
open PySem PySem.Spec PyProof.Rows
theorem codeAny_compLoop_own {prog:Program}{w:World}{A:Around}{R:Result->Shared->Prop}{s:Shared}{elt target iter:Expr}{ifs:List Expr}{scope:Scope}{pos:Pos}{it acc:Value}{env:Env}(I:Nat->Shared->Prop)
  (turn:∀ n s,I n s->wpAny (model prog w) A (pyNext it) (fun r s₁=>match r with
   | none=>R (.ok .next) s₁
   | some v=>wpAny (model prog w) A (letOwnedTupleGo target it v) (fun _ s₁'=>wpAny (model prog w) A (assign target env v) (fun _ s₂ =>
     wpAny (model prog w) A (forIn ifs true fun c r=>if r=true then do let ok <- isTrue c env (eval c env);pure (ForInStep.yield ok) else pure (ForInStep.yield r)) (fun ok s₃ =>
      if ok=true then wpAny (model prog w) A (eval elt env) (fun x s₄ =>
       wpAny (model prog w) A (call (.builtin "list.append") [acc,x]) (fun _ s₅=>∃ m,m < n/\I m s₅) (fun _ _=>False) s₄) (fun _ _=>False) s₃
      else ∃ m,m < n/\I m s₃) (fun _ _=>False) s₂) (fun _ _=>False) s₁') (fun _ _=>False) s₁) (fun _ _=>False) s)
  (n:Nat) (h:I n s) :
  codeAny (model prog w) A (.compLoop (.ListComp elt [⟨target,iter,ifs,0⟩] scope pos) 0 it acc env) R s:=by
 refine codeAny_loop rfl I (fun n s hI=>?_) n h;show wpAny _ A ((compTurn (.ListComp elt [⟨target,iter,ifs,0⟩] scope pos) 0 it acc env).onRaise (fun x=>do noteFrame x env;theTreesLotGoes x)) _ _ s;refine wpAny_noted ?_;rw[compTurn_list];refine wpAny_bind (wpAny_standAt (wpAny_bind (wpAny_mono (turn n s hI) (fun r s₁ h₁=>?_) fun _ _ h'=>h'.elim)));cases r with
 | none=>exact wpAny_pure h₁
 | some v =>
  refine wpAny_bind (wpAny_mono h₁ (fun _ s₁' h₁'=>?_) fun _ _ h'=>h'.elim);refine wpAny_bind (wpAny_mono h₁' (fun _ s₂ h₂=>wpAny_bind (wpAny_mono h₂ (fun ok s₃ h₃=>?_) fun _ _ h'=>h'.elim)) fun _ _ h'=>h'.elim);cases ok with
  | false=>exact wpAny_pure ⟨rfl,h₃⟩
  | true =>
   exact wpAny_bind (wpAny_bind (wpAny_mono h₃ (fun x s₄ h₄=>wpAny_bind (wpAny_mono h₄ (fun _ s₅ h₅=>wpAny_pure (wpAny_pure ⟨rfl,h₅⟩)) fun _ _ h'=>h'.elim)) fun _ _ h'=>h'.elim))
theorem lookup_relabel {env:Env}{y:Str}:∀ {names:List (Str×NameKind)},
  (names.map fun (n,k)=>if (k==NameKind.free&&env.scope.kind==.function&&env.kindOf n==some .cell) then (n,NameKind.cell) else (n,k)).lookup y =
   (names.lookup y).map fun k=>if (k==NameKind.free&&env.scope.kind==.function&&env.kindOf y==some .cell) then NameKind.cell else k
 | []=>rfl
 | (n,k)::r=>by
  have ih:=@lookup_relabel env y r;rw[List.map_cons];by_cases hx:y=n
  ·subst hx
   dsimp only;split <;> simp_all [List.lookup_cons]
  ·have hb:(y==n)=false:=beq_eq_false_iff_ne.mpr hx
   dsimp only;split <;> simp only[List.lookup_cons,hb] <;> exact ih
noncomputable def cxComp (X:Cx)(scope:Scope)(cl:List (Str×Addr))(C:Addr)(N':List Str)(s:Shared)(H:Hp)(fp:List Addr):Cx where
 prog:=X.prog
 w:=X.w
 K:=X.K
 mg:=X.mg
 base:=X.base
 A:=X.A
 N:=N'
 s₀:=s
 H₀:=H
 env:=compEnvC scope cl C X.env
 outer:=X.stack
 stack:=X.stack
 ex:=fp
 fn:=fun _=>false
 calm:=X.calm
 pn:=[]
 xe:=fun _ _=>False
structure CompSc (X:Cx) (scope:Scope) (cl:List (Str×Addr)) (xs:List Str) (N':List Str):Prop where
 kind:scope.kind=.function
 nocell:∀ y∈scope.names,y.2≠.cell
 loc:∀ x∈xs,scope.names.lookup x=some .local
 names:∀ y∈scope.names,y.2=.local->scope.names.lookup y.1=some .local
 only:∀ y,scope.names.lookup y=some .local->y∈xs\/y=(".0" : Str)
 clos:closureFor scope X.env=pure cl
 cls:∀ y c,cl.lookup y=some c->X.env.cells.lookup y=some c
 has:∀ y,scope.names.lookup y=some .free->∃ c,cl.lookup y=some c
 out:∀ y,scope.names.lookup y=some .free->X.env.kindOf y=some .cell\/X.env.kindOf y=some .free
 nd:N'.Nodup
 n0:∀ (i:Nat) (y:Str),xs[i]?=some y->N'[i]?=some y
 ns:∀ (i:Nat) (y:Str),N'[i + xs.length]?=some y->y ∉ xs/\y≠(".0" : Str)/\(X.N[i]?=some y\/¬ Vis scope y)
 len:N'.length=X.N.length + xs.length
theorem kind_relabel {scope:Scope}{env:Env}{y:Str}:(relabel scope env).names.lookup y=(scope.names.lookup y).map fun k=>if (k==NameKind.free&&env.scope.kind==.function&&env.kindOf y==some .cell) then NameKind.cell else k:=lookup_relabel
theorem lookup_mem {y:Str}{k:NameKind}:∀ {names:List (Str×NameKind)},names.lookup y=some k->(y,k)∈names:=fun h=>PySem.mem_of_lookup h
section
variable {X:Cx}{scope:Scope}{cl:List (Str×Addr)}{xs:List Str}{N':List Str}{pins:List (Addr×Obj)}{σ:St}{H:Hp}{s:Shared}{fp:List Addr}
theorem CompSc.cellAt (S:CompSc X scope cl xs N'){C:Addr}{y:Str}(h:(compEnvC scope cl C X.env).kindOf y=some .cell\/(compEnvC scope cl C X.env).kindOf y=some .free):scope.names.lookup y=some .free:=by
 have e:(compEnvC scope cl C X.env).kindOf y=(scope.names.lookup y).map fun k=>if (k==NameKind.free&&X.env.scope.kind==.function&&X.env.kindOf y==some .cell) then NameKind.cell else k:=kind_relabel;rw[e]at h;cases q:scope.names.lookup y with
 | none=>rw[q]at h;simp at h
 | some k =>
  rw[q]at h;cases k with
  | free=>rfl
  | cell=>exact absurd rfl (S.nocell _ (lookup_mem q))
  | _=>simp at h
theorem comp_ok (I:Inv X pins σ H s)(S:CompSc X scope cl xs N')(hf:∀ b∈fp,FpOk X pins H b){C:Addr}(hC:s.heap.objs.size<=C)(hfs:∀ b∈fp,b < s.heap.objs.size) :
  (cxComp X scope cl C N' s H fp).Ok where
 mod:=I.ok.mod
 kind:=S.kind
 glob:=I.ok.glob
 blt:=I.ok.blt
 above:=hC
 inj:=fun y z c h1 h2=>I.ok.inj y z c (S.cls _ _ h1) (S.cls _ _ h2)
 has:=fun y h=>S.has y (S.cellAt h)
 cab:=fun y c h=>by cases h
 hd:=I.ok.hd
 frames:=I.ok.frames
 stk:=.inl rfl
 exf:=fun b hb=>⟨Nat.ne_of_lt (Nat.lt_of_lt_of_le (hfs b hb) hC),fun y c e=>(hf b hb).2.2.2.2.1 y c (S.cls _ _ e)⟩
 bs:=I.bs
 bsz:=Nat.le_trans I.ok.bsz I.sz
 noex:=fun b o e hb=>by
  rcases (hf b hb).2.2.2.1 with z | z
  ·exact I.ok.noex b o e z
  ·exact absurd (Nat.lt_of_lt_of_le (Heap.lt_size e) (Nat.le_trans I.ok.bsz z)) (Nat.lt_irrefl _)
 exfs:=fun b hb z=>by
  rcases List.mem_cons.mp (I.stkSub b z) with e | e
  ·exact(hf b hb).2.1 e
  ·exact(hf b hb).2.2.1 e
 funs:=I.stack
 frf:=I.stkFree
theorem comp_enter (I:Inv X pins σ H s)(S:CompSc X scope cl xs N')(hf:∀ b∈fp,FpOk X pins H b){C:Addr}{h₁:Heap}{tk:Nat}{m:Str->Option Value}(hC:s.heap.objs.size<=C)(hfs:∀ b∈fp,b < s.heap.objs.size)
  (old:∀ b o,s.heap.get? b=some o->h₁.get? b=some o) (hns:h₁.Ns C m):Inv (cxComp X scope cl C N' s H fp) (X.pn++pins) (List.replicate xs.length none++σ) H { s with heap:=h₁,toks:=tk }:=by
 refine⟨comp_ok I S hf hC hfs,rfl,I.bare,Un.kept old,⟨m,hns,fun i y v e1 e2 e3=>?_⟩,fun y c e=>?_,I.hok.fresh hC,fun y c e=>I.freeC y c (S.cls _ _ e),fun p hp=>?_,I.hok.kept old,?_⟩
 ·by_cases hi:i < xs.length
  ·rw[List.getElem?_append_left (by rw[List.length_replicate];exact hi),List.getElem?_replicate,if_pos hi]at e2
   cases e2
  ·obtain⟨j,rfl⟩:∃ j,i=j + xs.length:=⟨i - xs.length,by omega⟩
   obtain⟨n1,n2,n3⟩:=S.ns j y e1;have e2':σ[j]?=some (some v):=by
    rw[List.getElem?_append_right (by rw[List.length_replicate];omega),List.length_replicate,Nat.add_sub_cancel]at e2;exact e2
   have e:(relabel scope X.env).names.lookup y=(scope.names.lookup y).map fun k=>if (k==NameKind.free&&X.env.scope.kind==.function&&X.env.kindOf y==some .cell) then NameKind.cell else k:=kind_relabel;have e3':(relabel scope X.env).names.lookup y=some .local\/(relabel scope X.env).names.lookup y=some .cell\/(relabel scope X.env).names.lookup y=some .free:=e3;have q:scope.names.lookup y=some .free:=by
    cases q:scope.names.lookup y with
    | none=>rw[e,q]at e3';simp at e3'
    | some k =>
     rw[e,q]at e3';cases k with
     | free=>rfl
     | cell=>exact absurd rfl (S.nocell _ (lookup_mem q))
     | «local» =>
      rcases S.only y q with z | z
      ·exact absurd z n1
      ·exact absurd z n2
     | _=>simp at e3'
   have hN:X.N[j]?=some y:=by
    rcases n3 with z | z
    ·exact z
    ·exact absurd (Or.inr (Or.inr q)) z
   obtain⟨m',hn',hl'⟩:=I.loc;have vx:Vis X.env.scope y:=by
    rcases S.out y q with z | z
    ·exact .inr (.inl z)
    ·exact .inr (.inr z)
   obtain⟨u,ru,lk⟩:=hl' j y v hN e2' vx;refine⟨u,ru,?_⟩;rcases lk with ⟨k1,_⟩|⟨_,c,hc,o,ho,hd⟩
   ·rcases S.out y q with z | z
    ·rw[z]at k1;cases k1
    ·rw[z]at k1;cases k1
   ·obtain⟨c',hc'⟩:=S.has y q
    have:=S.cls y c' hc'
    rw[hc]at this;cases this;refine .inr ⟨?_,c,hc',o,old _ _ ho,hd⟩;rw[e,q]at e3';show (relabel scope X.env).names.lookup y=some .cell\/(relabel scope X.env).names.lookup y=some .free;rw[e,q];rcases e3' with z | z
    ·simp only[Option.map_some,Option.some.injEq]at z
     split at z <;> cases z
    ·exact z
 ·obtain⟨v,o,ho,hd⟩:=I.cell y c (S.cls _ _ e)
  exact⟨v,o,old _ _ ho,hd⟩
 ·have hp':p∈X.pn++pins:=hp
  obtain⟨e,n,ne,nf,d⟩:=I.pin p hp';refine⟨old _ _ e,n,Nat.ne_of_lt (Nat.lt_of_lt_of_le (Heap.lt_size e) hC),fun z=>?_,d⟩;rcases List.mem_cons.mp (I.stkSub _ z) with q | q
  ·exact ne q
  ·exact nf q
 ·show (List.replicate xs.length none++σ).length=N'.length
  rw[S.len,List.length_append,List.length_replicate,I.len,Nat.add_comm]
end
theorem Un.adopt {fs ex:List Addr}{H H':Hp}{h h':Heap}{D:Addr}{o:HO}(u:Un fs ex H H' h h')(hD:h.get? D=none)(hn:H' D=none):Un fs ex H (upd H' D o) h h' where
 keep:=u.keep
 slot:=u.slot
 free:=fun b ob q n hx=>by
  have:b≠D:=fun z=>by rw[z,hD]at q;cases q
  rw[upd_ne this];exact u.free b ob q n hx
 there:=u.there
 tups:=fun b xs q=>by
  have q':=u.tups b xs q;rw[upd_ne (ne_of_none q' hn)];exact q'
 frzs:=fun b ob v q=>by
  have q':=u.frzs b ob v q;rw[upd_ne (ne_of_none q' hn)];exact q'
 tbls:=fun b ps q=>by
  obtain⟨more,q'⟩:=u.tbls b ps q;exact⟨more,by rw[upd_ne (ne_of_none q' hn)];exact q'⟩
theorem HOk.adopt {P:Program}{w:World}{H:Hp}{h:Heap}{D:Addr}{o:HO}(x:HOk P w H h)(hn:H D=none)(new:ObjOk P w (upd H D o) h D o):HOk P w (upd H D o) h:=fun b u e=>by
 by_cases hb:b=D
 ·subst hb;rw[upd_same]at e;cases e;exact new
 ·rw[upd_ne hb]at e
  exact(x b u e).stay (fun _ _ _ q=>q) (fun c q=>by rw[upd_ne (ne_of_none q hn)];exact q) fun c xs q=>by rw[upd_ne (ne_of_none q hn)];exact q
noncomputable def PTs (X:Cx)(ifs:List Expr)(tc:TT):Prop :=
 ∀ (pins:List (Addr×Obj)) (s:Shared) (σ:St) (H:Hp) (Q:Bool->Hp->Prop),Inv X pins σ H s->tc σ H Q ->
  wpAny (model X.prog X.w) X.A (forIn ifs true fun c r=>if r=true then do let ok <- isTrue c X.env (eval c X.env);pure (ForInStep.yield ok) else pure (ForInStep.yield r)) (TP X pins σ Q) X.xe s
noncomputable def tYes:TT:=fun _ H Q=>Q true H
theorem pts_nil {X:Cx}:PTs X [] tYes:=fun _ _ _ H _ I h=>wpAny_tests_nil ⟨H,I,h⟩
theorem pts_one {X:Cx}{c:Expr}{tc:TT}(hc:PT X c tc):PTs X [c] tc:=fun pins s σ H Q I h=>wpAny_tests_one (hc pins s σ H Q I h)
noncomputable abbrev lobj (its:List Value) (n:Nat):Obj:={ cls:=.type "list",data:=.seq its.toArray n }
noncomputable def CompW (J:It)(g:TG)(kk:Nat)(tc:TT)(te:TE)(σ:St)(Fin:List V->Hp->Prop)(W:Nat->Nat->List V->Hp->Prop):Prop:=∀ i m ys H,W i m ys H ->
 (J.stop i H/\ys.length<=sizeLine/\Fin ys H) \/
 (J.go i H/\ys.length < sizeLine/\∀ v H' (os:St),os.length=kk->J.yld i H v H'->g v (os++σ) H' fun σ1 H1=>∃ os1:St,os1.length=kk/\σ1=os1++σ/\tc σ1 H1 fun b H2=>if b=true then te σ1 H2 fun y H3=>∃ m',m' < m/\W (i + 1) m' (ys++[y]) H3 else ∃ m',m' < m/\W (i + 1) m' ys H2)
section
variable {X:Cx}{scope:Scope}{cl:List (Str×Addr)}{xs:List Str}{tg:Expr}{g:TG}{N':List Str}{pins:List (Addr×Obj)}{σ:St}{H:Hp}{s:Shared}{fp:List Addr}{it:Addr}{J:It}{tn:Nat->Heap->Prop}
 {elt iter:Expr} {ifs:List Expr} {pos:Pos} {tc:TT} {te:TE}
theorem comp_block (hc:X.calm=true)(S:CompSc X scope cl xs N')(hg:∀ C s H fp,PG (cxComp X scope cl C N' s H fp) tg g)(htc:∀ C s H fp,PTs (cxComp X scope cl C N' s H fp) ifs tc)(hte:∀ C s H fp,PE (cxComp X scope cl C N' s H fp) elt te)
  (I:Inv X pins σ H s) (T:Turn X.prog X.w X.K tg J fp it tn) (st:tn 0 s.heap) (hf:∀ b∈fp,FpOk X pins H b)
  {Fin:List V->Hp->Prop} {W:Nat->Nat->List V->Hp->Prop} (hW:CompW J g xs.length tc te σ Fin W) {m0:Nat} (w0:W 0 m0 [] H) {E:Value->Shared->Prop} {RR:Value->Addr->Result->Shared->Prop}
  (fin:∀ (D C:Addr) (s':Shared) (ys:List V) (H':Hp),Inv X pins σ (upd H' D (.lst ys)) s'->H' D=none->upd H' D (.lst ys) C=none->C≠X.env.locals->X.s₀.heap.objs.size<=C->(∀ y c,X.env.cells.lookup y=some c->c≠C)->(∀ p∈X.pn++pins,p.1≠C) ->
   (∃ m,s'.heap.Ns C m)->Fin ys H'->RR (.ref D) C (.ok .next) s') :
  wpAny (model X.prog X.w) X.A (newList []) (fun acc s₃=>wpAny (model X.prog X.w) X.A (newFunctionEnv scope X.env.globals cl [] X.env.qual none .none (some X.env)) (fun cenv s₄ =>
   codeAny (model X.prog X.w) X.A (.compStart (.ListComp elt [⟨tg,iter,ifs,0⟩] scope pos) 0 (.ref it) acc { cenv with scope:=relabel scope X.env }) (RR acc cenv.locals) s₄) E s₃) E s:=by
 have hfs:∀ b∈fp,b < s.heap.objs.size:=fun b hb=>by
  obtain⟨o,e,_⟩:=T.obj _ _ st b hb;exact Heap.lt_size e
 refine wpAny_newObj_type (wpAny_newFunctionEnv S.nocell (by intro y hy;simp at hy) (fun h₁ hns₁ hsb₁=>?_) S.kind);dsimp only at hns₁ hsb₁ ⊢;generalize hH2:s.heap.push { cls:=.type "list",dict:=none,data:=.seq ([]:List Value).toArray }=H2 at hns₁ hsb₁ ⊢;generalize hDe:s.heap.objs.size=D at *;generalize hCe:H2.objs.size=C at *;have hC:C=D + 1:=by rw[<- hCe,<- hH2,Heap.size_push,hDe]
 have hDC:D≠C:=by rw[hC];exact Nat.ne_of_lt (Nat.lt_succ_self _)
 have hDle:D<=C:=by rw[hC];exact Nat.le_succ _
 have old:∀ b o,s.heap.get? b=some o->h₁.get? b=some o:=fun b o e=>by
  have hb:b < D:=hDe ▸ Heap.lt_size e;exact hsb₁.extBut b o (Nat.ne_of_lt (Nat.lt_of_lt_of_le hb hDle)) (Heap.get?_push_of_some _ (hH2 ▸ Heap.get?_push_of_some _ e))
 have hacc:h₁.get? D=some (lobj [] 0):=hsb₁.extBut _ _ hDC (Heap.get?_push_of_some _ (hH2 ▸ hDe ▸ Heap.get?_push_size _ rfl));have hsD:s.heap.get? D=none:=Heap.get?_none_of_le (Nat.le_of_eq hDe);have ptD:∀ p∈X.pn++pins,p.1 < D:=fun p hp=>hDe ▸ Heap.lt_size (I.pin p hp).1;have clD:∀ y c,X.env.cells.lookup y=some c->c < D:=fun y c e=>by
  obtain⟨v,o,ho,_⟩:=I.cell y c e;exact hDe ▸ Heap.lt_size ho
 have fsD:∀ b∈frs X.stack,b < D:=fun b hb=>by
  obtain⟨_,o,ho,_⟩:=I.stack.mem hb;exact hDe ▸ Heap.lt_size ho
 have loop:∀ s₃:Shared,s₃ = { s with heap:=h₁,toks:=s.toks + ([]:List (Str×Value)).length } ->
   codeAny (model X.prog X.w) X.A (.compLoop (.ListComp elt [⟨tg,iter,ifs,0⟩] scope pos) 0 (.ref it) (.ref D) (compEnvC scope cl C X.env)) (RR (.ref D) C) s₃:=by
  rintro s₃ rfl;have I₁:Inv (cxComp X scope cl C N' s H fp) (X.pn++pins) (List.replicate xs.length none++σ) H { s with heap:=h₁,toks:=s.toks + ([]:List (Str×Value)).length } :=
   comp_enter I S hf (by rw[hDe];exact hDle) (fun b hb=>by rw[hDe];exact hfs b hb) old hns₁
  have pinD:∀ {its:List Value} {n:Nat} {σ':St} {H':Hp} {s':Shared},Inv (cxComp X scope cl C N' s H fp) (X.pn++pins) σ' H' s'->s'.heap.get? D=some (lobj its n)->H' D=none ->
    Inv (cxComp X scope cl C N' s H fp) ((X.pn++pins)++[(D,lobj its n)]) σ' H' s':=fun {its n σ' H' s'} J' e n=>J'.pins_of fun p hp=>by
   rcases List.mem_append.mp hp with hp | hp
   ·exact J'.pin p (List.mem_append_right _ hp)
   ·rw[List.mem_singleton.mp hp]
    exact⟨e,n,hDC,fun z=>Nat.lt_irrefl _ (fsD D z),fun v z=>by cases z⟩
  refine codeAny_compLoop_own (fun k s'=>∃ (i:Nat) (ys:List V) (its:List Value) (n:Nat) (os:St) (H':Hp),os.length=xs.length/\Inv (cxComp X scope cl C N' s H fp) ((X.pn++pins)++[(D,lobj its n)]) (os++σ) H' s'/\Vals ys its/\tn i s'.heap/\(∀ b∈fp,H' b=none)/\W i k ys H') ?_ m0
   ⟨0,[],[],0,List.replicate xs.length none,H,List.length_replicate ..,pinD I₁ hacc (I.hok.fresh (Nat.le_of_eq hDe)),.nil,T.keep _ _ _ st fun b _ o e=>old b o e,fun b hb=>(hf b hb).1,w0⟩
  rintro k s4 ⟨i,ys,its,n,os,H4,ho4,I4,rv,st4,fr4,w4⟩;have pD:∀ {its:List Value} {n:Nat} {pl:List (Addr×Obj)} {σ':St} {H':Hp} {s':Shared},Inv (cxComp X scope cl C N' s H fp) (((X.pn++pins)++[(D,lobj its n)])++pl) σ' H' s'->s'.heap.get? D=some (lobj its n)/\H' D=none:=fun J' =>
   let q:=J'.pin (D,lobj _ _) (List.mem_append_right _ (List.mem_append_left _ (List.mem_append_right _ List.mem_cons_self)))
   ⟨q.1,q.2.1⟩
  have stat:∀ {its:List Value} {n:Nat} {H':Hp},(∀ b∈fp,H' b=none)->∀ b∈fp,FpOk (cxComp X scope cl C N' s H fp) ((X.pn++pins)++[(D,lobj its n)]) H' b:=fun {its n H'} hn b hb=>by
   obtain⟨f0,f1,f2,f3,f4,f5⟩:=hf b hb;refine⟨hn b hb,Nat.ne_of_lt (Nat.lt_of_lt_of_le (hfs b hb) hDle),fun z=>?_,.inl hb,fun y c e=>f4 y c (S.cls _ _ e),fun p hp=>?_⟩
   ·rcases List.mem_cons.mp (I.stkSub b z) with q | q
    ·exact f1 q
    ·exact f2 q
   ·have hp:p∈(X.pn++pins)++[(D,lobj its n)]:=hp
    rcases List.mem_append.mp hp with hp | hp
    ·exact f5 p hp
    ·rw[List.mem_singleton.mp hp]
     exact Ne.symm (Nat.ne_of_lt (hfs b hb))
  rcases hW i k ys H4 w4 with ⟨stop,hz,q⟩|⟨go,hz,step⟩
  ·refine thn (T.done (cxComp X scope cl C N' s H fp) rfl rfl rfl hc i _ s4 _ H4 _ I4 (stat fr4) st4 stop) fun r s5 ⟨hr,I5⟩=>?_
   subst hr;obtain⟨gD,nD⟩:=pD (pl:=[]) (by rw[List.append_nil];exact I5);have un:Un (frs X.stack) fp H (upd H4 D (.lst ys)) s.heap s5.heap:=Un.adopt I5.base hsD nD;have hok:HOk X.prog X.w (upd H4 D (.lst ys)) s5.heap:=HOk.adopt I5.hok nD ⟨hz,its,n,rv,gD⟩;have I6:Inv X pins σ (upd H4 D (.lst ys)) s5:=I.call' (ch:=fp) I5.os un hok I5.bare fun b hb=>by
    obtain⟨f0,f1,f2,f3,f4,f5⟩:=hf b hb;exact⟨f3,f1,f4,f5⟩
   have cn:H4 C=none:=I5.free;have lo:X.s₀.heap.objs.size<=C:=Nat.le_trans I.sz (by rw[hDe];exact hDle);exact fin D C s5 ys H4 I6 nD (by rw[upd_ne (Ne.symm hDC)];exact cn) (Nat.ne_of_gt (Nat.lt_of_lt_of_le (hDe ▸ I.lt) hDle)) lo (fun y c e=>Nat.ne_of_lt (Nat.lt_of_lt_of_le (clD y c e) hDle)) (fun p hp=>Nat.ne_of_lt (Nat.lt_of_lt_of_le (ptD p hp) hDle))
    (let ⟨m,hm,_⟩:=I5.loc;⟨m,hm⟩) q
  ·refine thn (T.item (cxComp X scope cl C N' s H fp) rfl rfl rfl hc i _ s4 _ H4 _ I4 (stat fr4) st4 go) fun r s5 ⟨u,hr,h5⟩=>?_
   subst hr;refine thn h5 fun _ s6 ⟨v,H6,I6,r6,y6,st6,fr6⟩=>?_;have I6':=I6.pinned (stat fr6) (T.obj _ _ st6);refine thn (hg C s H fp _ s6 _ H6 v u _ I6' r6 (step v H6 os ho4 y6)) fun _ s7 ⟨σ7,H7,I7,os7,ho7,e7,q7⟩=>?_;subst e7;have fpK:∀ {σ':St} {H':Hp} {s':Shared},Inv (cxComp X scope cl C N' s H fp) (((X.pn++pins)++[(D,lobj its n)])++pinsAt fp s6.heap) σ' H' s'->tn (i + 1) s'.heap/\∀ b∈fp,H' b=none:=fun {σ' H' s'} J' =>
    ⟨T.keep _ _ _ st6 fun b hb ob e=>(J'.pin (b,ob) (List.mem_append_right _ (List.mem_append_right _ (mem_pinsAt hb e)))).1,fun b hb=>by
     obtain⟨ob,e,d⟩:=T.obj _ _ st6 b hb;exact(J'.pin (b,ob) (List.mem_append_right _ (List.mem_append_right _ (mem_pinsAt hb e)))).2.1⟩
   refine thn (htc C s H fp _ s7 _ H7 _ I7 q7) fun b s8 ⟨H8,I8,q8⟩=>?_;cases b with
   | false =>
    rw[if_neg Bool.false_ne_true]at q8 ⊢;obtain⟨m',hm,w8⟩:=q8;obtain⟨t8,f8⟩:=fpK I8;exact⟨m',hm,i + 1,ys,its,n,os7,H8,ho7,I8.unpinned,rv,t8,f8,w8⟩
   | true =>
    rw[if_pos rfl]at q8 ⊢;refine thn (hte C s H fp _ s8 _ H8 _ I8 q8) fun u9 s9 ⟨y,H9,I9,r9,m',hm,w9⟩=>?_;obtain⟨gD,nD⟩:=pD I9;obtain⟨t9,f9⟩:=fpK I9;refine append_at (its:=its.toArray) (n:=n) gD (fun h' sb hD'=>?_) (by have:=rv.length;simp;omega);have I10:Inv (cxComp X scope cl C N' s H fp) (X.pn++pins) (os7++σ) H9 s9:=I9.unpinned.unpinned;have I11:Inv (cxComp X scope cl C N' s H fp) (X.pn++pins) (os7++σ) H9 { s9 with heap:=h' }:=I10.turned (t':=s9.toks) (it:=D) (fun b ob hb e=>sb.extBut b ob hb e) nD hDC (.inr (Nat.le_of_eq hDe))
     (fun z c e=>Nat.ne_of_lt (clD z c (S.cls _ _ e))) fun p hp=>Nat.ne_of_lt (ptD p hp)
    refine⟨m',hm,i + 1,ys++[y],its++[u9],n + 1,os7,H9,ho7,pinD I11 (by rw[hD'];simp) nD,rv.append (.cons r9 .nil),T.keep _ _ _ t9 fun b hb ob e=>sb.extBut b ob (Nat.ne_of_lt (hfs b hb)) e,f9,w9⟩
 exact codeAny_compStart_list (loop _ rfl) (T.self X.A 0 _ _ _ (T.keep _ _ _ st fun b _ o e=>old b o e) (loop _ rfl))
end
noncomputable def tComp (wi:TI)(g:TG)(kk:Nat)(tc:TT)(te:TE):TE:=fun σ H Q=>wi σ H fun J H1=>∃ W:Nat->Nat->List V->Hp->Prop,(∃ m,W 0 m [] H1) /\
 CompW J g kk tc te σ (fun ys H'=>∀ p,H' p=none->Q (.ref p) (upd H' p (.lst ys))) W
section
variable {X:Cx}{scope:Scope}{cl:List (Str×Addr)}{xs:List Str}{tg:Expr}{g:TG}{N':List Str}{elt iter:Expr}{ifs:List Expr}{pos:Pos}{tc:TT}{te:TE}{wi:TI}
theorem ns_gone {pins:List (Addr×Obj)}{σ:St}{H:Hp}{s:Shared}{C:Addr}{h':Heap}(I:Inv X pins σ H s)(sb:Heap.SameBut C s.heap h')(h0:H C=none)(h1:C≠X.env.locals)(h2:X.s₀.heap.objs.size<=C)(h3:∀ y c,X.env.cells.lookup y=some c->c≠C)(h4:∀ p∈X.pn++pins,p.1≠C) :
  Inv X pins σ H { s with heap:=h' }:=I.turned (t':=s.toks) (it:=C) (fun b ob hb e=>sb.extBut b ob hb e) h0 h1 (.inr h2) h3 h4
theorem pe_comp (hc:X.calm=true)(S:CompSc X scope cl xs N')(hg:∀ C s H fp,PG (cxComp X scope cl C N' s H fp) tg g)(hi:PI X tg iter wi)(htc:∀ C s H fp,PTs (cxComp X scope cl C N' s H fp) ifs tc)(hte:∀ C s H fp,PE (cxComp X scope cl C N' s H fp) elt te)
  (hs:∀ x,foldedSetIterable iter X.env x=pure x):PE X (.ListComp elt [⟨tg,iter,ifs,0⟩] scope pos) (tComp wi g xs.length tc te):=by
 intro pins s σ H Q I h;rw[eval_ListComp];refine wpAny_comprehension_free (use:=none) rfl hs S.clos S.kind S.names (thn (hi pins s σ H _ I h) fun v s1 h1=>thn h1 fun itv s2 h2=>?_);obtain⟨it,fp,tn,J,H2,e,I2,T,st2,f2,W,⟨m0,w0⟩,hW⟩:=h2;subst e;refine comp_block (RR:=fun acc C=>compPost (model X.prog X.w) X.A X.xe none (EP X pins σ Q) acc C) hc S hg htc hte I2 T st2 f2 hW w0 ?_;intro D C s' ys H' I' nD cn c1 c2 c3 c4 ns q;obtain⟨m,hm⟩:=ns;exact⟨m,hm,fun h' sb=>⟨.ref D,_,ns_gone I' sb cn c1 c2 c3 c4,rfl,q D nD⟩⟩
theorem ps_comp {x:Str}{px:Pos}{i:Nat}{y:Str}{py spos:Pos}(hc:X.calm=true)(S:CompSc X scope cl xs N')(hg:∀ C s H fp,PG (cxComp X scope cl C N' s H fp) (.Name x px) g)(hi:PI X (.Name x px) iter wi)(htc:∀ C s H fp,PTs (cxComp X scope cl C N' s H fp) ifs tc)(hte:∀ C s H fp,PE (cxComp X scope cl C N' s H fp) elt te)
  (hs:∀ x,foldedSetIterable iter X.env x=pure x) (hN:X.N.Nodup) (hy:X.N[i]?=some y) (hx:Loc X.env.scope y) (hf:X.fn y=true\/X.env.scope.names.lookup y=some .local) :
  PS X (.Assign [.Name y py] (.ListComp elt [⟨.Name x px,iter,ifs,0⟩] scope pos) spos) (tAsg (tComp wi g xs.length tc te) (gName i)):=by
 have hsw:∃ b:Bool,swapsWith (.ListComp elt [⟨.Name x px,iter,ifs,0⟩] scope pos) (some (.Name y py)) spos.line X.env=pure b:=⟨_,rfl⟩;obtain⟨b,hsw⟩:=hsw;cases b with
 | false=>exact ps_set hN hy hx (pe_comp hc S hg hi htc hte hs) hsw hf
 | true =>
  intro pins s σ H D I h;rw[exec_Assign_Name_used _ _ _ _ hsw];refine wpAny_bind (wpAny_standAt (wpAny_bind ?_));show wpAny _ X.A (do let _ <- comprehension (.ListComp elt [⟨.Name x px,iter,ifs,0⟩] scope pos) scope X.env _ (newList []) false (eval iter X.env) (some (assign (.Name y py) X.env))) _ _ s;refine wpAny_bind (thn (wpAny_comprehension_free (use:=some (assign (.Name y py) X.env)) (Q:=fun _ s'=>SP X pins D .next s') rfl hs S.clos S.kind S.names
   (thn (hi pins s σ H _ I h) fun v s1 h1=>thn h1 fun itv s2 h2=>?_)) fun _ s' hq=>wpAny_pure (wpAny_pure hq))
  obtain⟨it,fp,tn,J,H2,e,I2,T,st2,f2,W,⟨m0,w0⟩,hW⟩:=h2;subst e;refine comp_block (RR:=fun acc C=>compPost (model X.prog X.w) X.A X.xe (some (assign (.Name y py) X.env)) (fun _ s'=>SP X pins D .next s') acc C) hc S hg htc hte I2 T st2 f2 hW w0 ?_;intro Dl C s' ys H' I' nD cn c1 c2 c3 c4 ns q;obtain⟨m,hm⟩:=ns;show wpAny _ X.A (assign (.Name y py) X.env (.ref Dl)) _ _ _;refine wpAny_assign_Name (store_ok2 I' hN hy hx (v:=.ref Dl) rfl (fun s2 I2' ⟨a,sb,ha⟩=>?_) hf);have hCa:C≠a:=by
   rcases ha with z | z
   ·rw[z];exact c1
   ·exact fun e=>c3 _ _ z e.symm
  refine⟨m,hm.sameBut sb hCa,fun h' sb'=>?_⟩;exact⟨_,_,ns_gone I2' sb' cn c1 c2 c3 c4,q Dl nD⟩
end
end L2
namespace L3
open PySem PySem.Spec PyProof.Rows L2
noncomputable abbrev St:=L2.St
noncomputable def FzL (K:PySem.W.Frag)(H:Hp)(a:Addr)(xs:List V):Prop :=
 (∃ o,H a=some (.frz o (.lst xs))) \/
  ∃ (o:Obj) (its:Array Value) (n:Nat),K.lookup a=some o/\o.cls=.type "list"/\o.dict=none/\o.data=.seq its n/\its.size<=sizeLine/\Vals xs its.toList
theorem FzL.seq {K:PySem.W.Frag}{H:Hp}{a:Addr}{xs:List V}(h:FzL K H a xs):SqL K H a xs:=by
 rcases h with ⟨o,h⟩ | h
 ·exact .inl (.inr ⟨o,h⟩)
 ·exact .inr h
mutual
inductive Rep (K:PySem.W.Frag) (ι:List Addr) (H:Hp):D->V->Prop where
 | non:Rep K ι H .non .non
 | bl (b:Bool):Rep K ι H (.bl b) (.bl b)
 | int (i:Int):Rep K ι H (.int i) (.int i)
 | str (x:Str):Rep K ι H (.str x) (.str x)
 | tup {a:Addr} {vs:List V} {ds:List D}:H a=some (.tup vs)->Reps K ι H ds vs->Rep K ι H (.tup ds) (.ref a)
 | fl {a:Addr} {vs:List V} {ds:List D}:FzL K H a vs->Reps K ι H ds vs->Rep K ι H (.fl ds) (.ref a)
 | ob {i:Nat} {a:Addr}:ι[i]?=some a->Rep K ι H (.ob i) (.ref a)
inductive Reps (K:PySem.W.Frag) (ι:List Addr) (H:Hp):List D->List V->Prop where
 | nil:Reps K ι H [] []
 | cons {d:D} {v:V} {ds:List D} {vs:List V}:Rep K ι H d v->Reps K ι H ds vs->Reps K ι H (d::ds) (v::vs)
end
structure Ext (K:PySem.W.Frag) (ι:List Addr) (H:Hp) (ι':List Addr) (H':Hp):Prop where
 pre:∀ (i:Nat) (a:Addr),ι[i]?=some a->ι'[i]?=some a
 tup:∀ a xs,H a=some (.tup xs)->H' a=some (.tup xs)
 fz:∀ a xs,FzL K H a xs->FzL K H' a xs
section
variable {K:PySem.W.Frag}{ι ι' ι'':List Addr}{H H' H'':Hp}
theorem Ext.refl:Ext K ι H ι H where
 pre:=fun _ _ e=>e
 tup:=fun _ _ e=>e
 fz:=fun _ _ e=>e
theorem Ext.trans (a:Ext K ι H ι' H')(b:Ext K ι' H' ι'' H''):Ext K ι H ι'' H'' where
 pre:=fun i c e=>b.pre i c (a.pre i c e)
 tup:=fun c xs e=>b.tup c xs (a.tup c xs e)
 fz:=fun c xs e=>b.fz c xs (a.fz c xs e)
mutual
theorem Rep.mono (x:Ext K ι H ι' H'):∀ {d:D} {v:V},Rep K ι H d v->Rep K ι' H' d v
 | _,_,.non=>.non
 | _,_,.bl b=>.bl b
 | _,_,.int i=>.int i
 | _,_,.str y=>.str y
 | _,_,.tup a r=>.tup (x.tup _ _ a) (Reps.mono x r)
 | _,_,.fl a r=>.fl (x.fz _ _ a) (Reps.mono x r)
 | _,_,.ob e=>.ob (x.pre _ _ e)
theorem Reps.mono (x:Ext K ι H ι' H'):∀ {ds:List D} {vs:List V},Reps K ι H ds vs->Reps K ι' H' ds vs
 | _,_,.nil=>.nil
 | _,_,.cons r t=>.cons (Rep.mono x r) (Reps.mono x t)
end
theorem Reps.length:∀ {ds:List D} {vs:List V},Reps K ι H ds vs->ds.length=vs.length
 | _,_,.nil=>rfl
 | _,_,.cons _ t=>by rw[List.length_cons,List.length_cons,Reps.length t]
theorem Reps.get:∀ {ds:List D} {vs:List V} {i:Nat} {d:D},Reps K ι H ds vs->ds[i]?=some d->∃ v,vs[i]?=some v/\Rep K ι H d v
 | _,_,_,_,.nil,e=>by simp at e
 | _,_,0,_,.cons r _,e=>by simp at e;subst e;exact⟨_,rfl,r⟩
 | _,_,i + 1,d,.cons _ t,e=>by
  obtain⟨v,h1,h2⟩:=Reps.get (i:=i) (d:=d) t (by simpa using e);exact⟨v,by simpa using h1,h2⟩
theorem Reps.append:∀ {ds es:List D} {vs us:List V},Reps K ι H ds vs->Reps K ι H es us->Reps K ι H (ds++es) (vs++us)
 | _,_,_,_,.nil,s=>s
 | _,_,_,_,.cons r t,s=>.cons r (Reps.append t s)
theorem Reps.take:∀ {ds:List D} {vs:List V} (n:Nat),Reps K ι H ds vs->Reps K ι H (ds.take n) (vs.take n)
 | _,_,0,_=>.nil
 | _,_,_ + 1,.nil=>.nil
 | _,_,n + 1,.cons r t=>.cons r (Reps.take n t)
theorem Reps.drop:∀ {ds:List D} {vs:List V} (n:Nat),Reps K ι H ds vs->Reps K ι H (ds.drop n) (vs.drop n)
 | _,_,0,r=>r
 | _,_,_ + 1,.nil=>.nil
 | _,_,n + 1,.cons _ t=>Reps.drop n t
theorem Reps.set {d:D}{v:V}(r:Rep K ι H d v):∀ {ds:List D} {vs:List V} (i:Nat),Reps K ι H ds vs->Reps K ι H (ds.set i d) (vs.set i v)
 | _,_,_,.nil=>.nil
 | _,_,0,.cons _ t=>.cons r t
 | _,_,i + 1,.cons q t=>.cons q (Reps.set r i t)
noncomputable def KR (K:PySem.W.Frag)(ι:List Addr)(H:Hp):List (Ky×D)->List (Key×V)->Prop:=Paired fun p q=>p.1=q.1/\Rep K ι H p.2 q.2
noncomputable def ORep (K:PySem.W.Frag)(ι:List Addr)(H:Hp):MO->Option HO->Prop
 | .lst ds,x=>∃ vs,x=some (.lst vs)/\Reps K ι H ds vs
 | .dic kvs,x=>∃ ws,x=some (.dK ws)/\KR K ι H kvs ws
theorem KR.mono (x:Ext K ι H ι' H'){a:List (Ky×D)}{b:List (Key×V)}(r:KR K ι H a b):KR K ι' H' a b:=Paired.mapP r fun _ _ z=>⟨z.1,z.2.mono x⟩
theorem ORep.mono (x:Ext K ι H ι' H'){o:MO}{h:Option HO}(r:ORep K ι H o h):ORep K ι' H' o h:=by
 cases o with
 | lst ds=>obtain⟨vs,e,q⟩:=r;exact⟨vs,e,q.mono x⟩
 | dic kvs=>obtain⟨ws,e,q⟩:=r;exact⟨ws,e,q.mono x⟩
noncomputable def MutO (u:HO):Prop:=(∀ xs,u≠.tup xs)/\∀ o v,u≠.frz o v
theorem mut_l (vs:List V):MutO (.lst vs):=⟨fun _ z=>(nomatch z),fun _ _ z=>(nomatch z)⟩
theorem mut_d (vs:List (Key×V)):MutO (.dK vs):=⟨fun _ z=>(nomatch z),fun _ _ z=>(nomatch z)⟩
theorem ORep.some {o:MO}{h:Option HO}(r:ORep K ι H o h):∃ u,h=.some u/\MutO u:=by
 cases o with
 | lst ds=>obtain⟨vs,e,q⟩:=r;exact⟨_,e,mut_l _⟩
 | dic kvs=>obtain⟨ws,e,q⟩:=r;exact⟨_,e,mut_d _⟩
structure Sim (K:PySem.W.Frag) (ι:List Addr) (M:MH) (H:Hp):Prop where
 len:ι.length=M.length
 inj:∀ (i j:Nat) (a:Addr),ι[i]?=some a->ι[j]?=some a->i=j
 obj:∀ (i:Nat) (a:Addr) (o:MO),ι[i]?=some a->M[i]?=some o->ORep K ι H o (H a)
theorem sqt {a:Addr}{xs:List V}(h:H a=some (.tup xs)):SqT K H a xs:=.inl (.inl h)
theorem Ext.new {p:Addr}{ho:HO}(hp:H p=none):Ext K ι H (ι++[p]) (upd H p ho) where
 pre:=fun i a e=>by
  have hi:i < ι.length:=(List.getElem?_eq_some_iff.mp e).1;rw[List.getElem?_append_left hi];exact e
 tup:=fun a xs h=>by rw[upd_ne (ne_of_none h hp)];exact h
 fz:=fun a xs h=>by
  rcases h with ⟨o,h⟩ | h
  ·exact .inl ⟨o,by rw[upd_ne (ne_of_none h hp)];exact h⟩
  ·exact .inr h
theorem Ext.tupN {p:Addr}{ho:HO}(hp:H p=none):Ext K ι H ι (upd H p ho) where
 pre:=fun i a e=>e
 tup:=fun a xs h=>by rw[upd_ne (ne_of_none h hp)];exact h
 fz:=fun a xs h=>by
  rcases h with ⟨o,h⟩ | h
  ·exact .inl ⟨o,by rw[upd_ne (ne_of_none h hp)];exact h⟩
  ·exact .inr h
theorem Ext.write {p:Addr}{u ho:HO}(hp:H p=some u)(hu:MutO u):Ext K ι H ι (upd H p ho) where
 pre:=fun i a e=>e
 tup:=fun a xs h=>by rw[upd_ne (ne_of h hp fun z=>hu.1 _ z.symm)];exact h
 fz:=fun a xs h=>by
  rcases h with ⟨o,h⟩ | h
  ·exact .inl ⟨o,by rw[upd_ne (ne_of h hp fun z=>hu.2 _ _ z.symm)];exact h⟩
  ·exact .inr h
variable {M M':MH}
theorem Sim.tracked (S:Sim K ι M H){i:Nat}{a:Addr}(e:ι[i]?=some a):∃ u,H a=some u/\MutO u:=by
 have hi:i < M.length:=by rw[<- S.len];exact(List.getElem?_eq_some_iff.mp e).1
 exact(S.obj i a _ e (List.getElem?_eq_getElem hi)).some
theorem Sim.new (S:Sim K ι M H){p:Addr}{o:MO}{ho:HO}(hp:H p=none)(r:ORep K (ι++[p]) (upd H p ho) o (some ho)):Sim K (ι++[p]) (M++[o]) (upd H p ho) where
 len:=by rw[List.length_append,List.length_append,S.len];rfl
 inj:=fun i j a h1 h2=>by
  have np:∀ (k:Nat),ι[k]?=some p->False:=fun k e=>by
   obtain⟨u,hu,_⟩:=S.tracked e;rw[hp]at hu;cases hu
  by_cases hi:i < ι.length
  ·rw[List.getElem?_append_left hi]at h1
   by_cases hj:j < ι.length
   ·rw[List.getElem?_append_left hj]at h2
    exact S.inj i j a h1 h2
   ·rw[List.getElem?_append_right (by first | lia | omega)]at h2
    have e:a=p:=by
     have:=List.mem_of_getElem? h2
     simpa using this
    subst e;exact(np i h1).elim
  ·rw[List.getElem?_append_right (by first | lia | omega)]at h1
   have e:a=p:=by
    have:=List.mem_of_getElem? h1
    simpa using this
   subst e;by_cases hj:j < ι.length
   ·rw[List.getElem?_append_left hj]at h2
    exact(np j h2).elim
   ·have l1:=(List.getElem?_eq_some_iff.mp h1).1
    rw[List.getElem?_append_right (by first | lia | omega)]at h2
    have l2:=(List.getElem?_eq_some_iff.mp h2).1;simp at l1 l2;first | lia | omega
 obj:=fun i a q h1 h2=>by
  by_cases hi:i < ι.length
  ·rw[List.getElem?_append_left hi]at h1
   rw[List.getElem?_append_left (by rw[<- S.len];exact hi)]at h2;have z:=S.obj i a q h1 h2;obtain⟨u,hu,_⟩:=S.tracked h1;rw[upd_ne (ne_of_none hu hp)];exact z.mono (Ext.new hp)
  ·rw[List.getElem?_append_right (by first | lia | omega)]at h1
   rw[List.getElem?_append_right (by rw[<- S.len];omega)]at h2;have e:a=p:=by
    have:=List.mem_of_getElem? h1
    simpa using this
   have e':q=o:=by
    have:=List.mem_of_getElem? h2
    simpa using this
   subst e e';rw[upd_same];exact r
theorem Sim.tupN (S:Sim K ι M H){p:Addr}{ho:HO}(hp:H p=none):Sim K ι M (upd H p ho) where
 len:=S.len
 inj:=S.inj
 obj:=fun i a o h1 h2=>by
  obtain⟨u,hu,_⟩:=S.tracked h1;rw[upd_ne (ne_of_none hu hp)];exact(S.obj i a o h1 h2).mono (Ext.tupN hp)
theorem Sim.put (S:Sim K ι M H){i:Nat}{a:Addr}{o:MO}{ho:HO}(e:ι[i]?=some a)(r:ORep K ι (upd H a ho) o (some ho)):Sim K ι (M.set i o) (upd H a ho):=by
 obtain⟨u,hu,mu⟩:=S.tracked e;refine⟨by rw[List.length_set];exact S.len,S.inj,fun j b q h1 h2=>?_⟩;by_cases hij:j=i
 ·subst hij
  rw[e]at h1;cases h1;have hj:j < M.length:=by rw[<- S.len];exact(List.getElem?_eq_some_iff.mp e).1
  rw[List.getElem?_set_self hj]at h2;cases h2;rw[upd_same];exact r
 ·rw[List.getElem?_set_ne (Ne.symm hij)]at h2
  have hb:b≠a:=fun z=>by subst z;exact hij (S.inj j i b h1 e)
  rw[upd_ne hb];exact(S.obj j b q h1 h2).mono (Ext.write hu mu)
structure EnvR (K:PySem.W.Frag) (ι:List Addr) (H:Hp) (ρ:Ev) (σ:St):Prop where
 len:ρ.length=σ.length
 val:∀ (i:Nat) (d:D),ρ[i]?=some (some d)->∃ v,σ[i]?=some (some v)/\Rep K ι H d v
theorem EnvR.mono (x:Ext K ι H ι' H'){ρ:Ev}{σ:St}(r:EnvR K ι H ρ σ):EnvR K ι' H' ρ σ:=⟨r.len,fun i d e=>let ⟨v,h1,h2⟩:=r.val i d e;⟨v,h1,h2.mono x⟩⟩
theorem EnvR.set {ρ:Ev}{σ:St}{d:D}{v:V}(r:EnvR K ι H ρ σ)(q:Rep K ι H d v)(i:Nat):EnvR K ι H (ρ.set i (some d)) (σ.set i (some v)) where
 len:=by rw[List.length_set,List.length_set];exact r.len
 val:=fun j c e=>by
  by_cases hij:j=i
  ·subst hij
   by_cases hj:j < ρ.length
   ·rw[List.getElem?_set_self hj]at e
    cases e;exact⟨v,by rw[List.getElem?_set_self (by rw[<- r.len];exact hj)],q⟩
   ·rw[List.getElem?_eq_none (by rw[List.length_set];omega)]at e;cases e
  ·rw[List.getElem?_set_ne (Ne.symm hij)]at e
   obtain⟨u,h1,h2⟩:=r.val j c e;exact⟨u,by rw[List.getElem?_set_ne (Ne.symm hij)];exact h1,h2⟩
theorem EnvR.comp {ρ:Ev}{σ:St}{d:D}{v:V}(r:EnvR K ι H ρ σ)(q:Rep K ι H d v)(j:Nat):EnvR K ι H (some d::ρ.set j none) (some v::σ) where
 len:=by rw[List.length_cons,List.length_cons,List.length_set,r.len]
 val:=fun i c e=>by
  cases i with
  | zero=>simp at e;subst e;exact⟨v,rfl,q⟩
  | succ i =>
   rw[List.getElem?_cons_succ]at e;by_cases hij:i=j
   ·subst hij
    by_cases hj:i < ρ.length
    ·rw[List.getElem?_set_self hj]at e;cases e
    ·rw[List.getElem?_eq_none (by rw[List.length_set];omega)]at e;cases e
   ·rw[List.getElem?_set_ne (Ne.symm hij)]at e
    obtain⟨u,h1,h2⟩:=r.val i c e;exact⟨u,by rw[List.getElem?_cons_succ];exact h1,h2⟩
end
noncomputable abbrev DE:=Ev->Mo D
noncomputable def LE (K:PySem.W.Frag)(f:DE):TE:=fun σ H Q=>∃ ι ρ M d M',Sim K ι M H/\EnvR K ι H ρ σ/\f ρ M=some (.ok d,M') /\
 ∀ v H' ι',Rep K ι' H' d v->Sim K ι' M' H'->Ext K ι H ι' H'->Q v H'
noncomputable def LT (K:PySem.W.Frag)(f:Ev->Mo Bool):TT:=fun σ H Q=>∃ ι ρ M b M',Sim K ι M H/\EnvR K ι H ρ σ/\f ρ M=some (.ok b,M') /\
 ∀ H' ι',Sim K ι' M' H'->Ext K ι H ι' H'->Q b H'
noncomputable def LA (K:PySem.W.Frag)(f:Ev->Mo (List D)):TA:=fun σ H Q=>∃ ι ρ M ds M',Sim K ι M H/\EnvR K ι H ρ σ/\f ρ M=some (.ok ds,M') /\
 ∀ vs H' ι',Reps K ι' H' ds vs->Sim K ι' M' H'->Ext K ι H ι' H'->Q vs H'
noncomputable def LO (K:PySem.W.Frag)(f:Ev->Mo (Option Int)):TO:=fun σ H Q=>∃ ι ρ M o M',Sim K ι M H/\EnvR K ι H ρ σ/\f ρ M=some (.ok o,M') /\
 ∀ H' ι',Sim K ι' M' H'->Ext K ι H ι' H'->Q o H'
noncomputable def FlP (K:PySem.W.Frag)(D:Ends)(ι:List Addr)(H:Hp):Fl->Prop
 | .nx ρ=>∀ σ,EnvR K ι H ρ σ->D.nx σ H
 | .rt d=>∀ v,Rep K ι H d v->D.rt v H
 | .bk ρ=>∀ σ,EnvR K ι H ρ σ->D.bk σ H
 | .ct ρ=>∀ σ,EnvR K ι H ρ σ->D.ct σ H
noncomputable def LS (K:PySem.W.Frag)(f:Ev->Mo Fl):TS:=fun D σ H=>∃ ι ρ M fl M',Sim K ι M H/\EnvR K ι H ρ σ/\f ρ M=some (.ok fl,M') /\
 ∀ H' ι',Sim K ι' M' H'->Ext K ι H ι' H'->FlP K D ι' H' fl
theorem PE.imp {X:Cx}{e:Expr}{t t':TE}(h:PE X e t)(k:∀ σ H Q,t' σ H Q->t σ H Q):PE X e t':=fun pins s σ H Q I q=>h pins s σ H Q I (k σ H Q q)
theorem PT.imp {X:Cx}{e:Expr}{t t':TT}(h:PT X e t)(k:∀ σ H Q,t' σ H Q->t σ H Q):PT X e t':=fun pins s σ H Q I q=>h pins s σ H Q I (k σ H Q q)
theorem PTs.imp {X:Cx}{e:List Expr}{t t':TT}(h:PTs X e t)(k:∀ σ H Q,t' σ H Q->t σ H Q):PTs X e t':=fun pins s σ H Q I q=>h pins s σ H Q I (k σ H Q q)
theorem PA.imp {X:Cx}{e:List Expr}{t t':TA}(h:PA X e t)(k:∀ σ H Q,t' σ H Q->t σ H Q):PA X e t':=fun pos pins s σ H Q I q=>h pos pins s σ H Q I (k σ H Q q)
theorem PO.imp {X:Cx}{e:Option Expr}{t t':TO}(h:PO X e t)(k:∀ σ H Q,t' σ H Q->t σ H Q):PO X e t':=fun pins s σ H Q I q=>h pins s σ H Q I (k σ H Q q)
theorem PS.imp {X:Cx}{e:Stmt}{t t':TS}(h:PS X e t)(k:∀ D σ H,t' D σ H->t D σ H):PS X e t':=fun pins s σ H D I q=>h pins s σ H D I (k D σ H q)
theorem PSs.imp {X:Cx}{e:List Stmt}{t t':TS}(h:PSs X e t)(k:∀ D σ H,t' D σ H->t D σ H):PSs X e t':=fun pins s σ H D I q=>h pins s σ H D I (k D σ H q)
noncomputable def OpS (K:PySem.W.Frag)(r:R2)(g:D->D->Mo D):Prop:=∀ (ι:List Addr) (M M':MH) (H:Hp) (x y d:D) (vx vy:V) (Q:VK),Sim K ι M H->Rep K ι H x vx->Rep K ι H y vy->g x y M=some (.ok d,M') ->
 (∀ v H' ι',Rep K ι' H' d v->Sim K ι' M' H'->Ext K ι H ι' H'->Q v H')->r vx vy H Q
section
variable {K:PySem.W.Frag}
theorem LE.bin {fa fb:DE}{g:D->D->Mo D}{r:R2}(ho:OpS K r g)(σ:St)(H:Hp)(Q:VK)(h:LE K (fun ρ=>do let x <- fa ρ;let y <- fb ρ;g x y) σ H Q):tOp r (LE K fa) (LE K fb) σ H Q:=by
 obtain⟨ι,ρ,M,d,M',S,R,e,k⟩:=h;obtain⟨x,M1,e1,e⟩:=bind_ok e;obtain⟨y,M2,e2,e⟩:=bind_ok e;refine⟨ι,ρ,M,x,M1,S,R,e1,fun v1 H1 ι1 r1 S1 X1=>?_⟩;refine⟨ι1,ρ,M1,y,M2,S1,R.mono X1,e2,fun v2 H2 ι2 r2 S2 X2=>?_⟩;exact ho ι2 M2 M' H2 x y d v1 v2 Q S2 (r1.mono X2) r2 e fun v H' ι' r' S' X'=>k v H' ι' r' S' ((X1.trans X2).trans X')
end
theorem need_ok {p:Prop}[Decidable p]{M M':MH}{u:Unit}(h:need p M=some (.ok u,M')):p/\M'=M:=by
 unfold need at h;split at h
 ·rename_i hp
  cases h;exact⟨hp,rfl⟩
 ·cases h
theorem lift_ok {α:Type}{o:Option α}{a:α}{M M':MH}(h:lift o M=some (.ok a,M')):o=some a/\M'=M:=by
 cases o with
 | none=>cases h
 | some b=>cases h;exact⟨rfl,rfl⟩
theorem pure_ok {α:Type}{a b:α}{M M':MH}(h:(pure a:Mo α) M=some (.ok b,M')):b=a/\M'=M:=by
 cases h;exact⟨rfl,rfl⟩
theorem getM_ok {i:Nat}{o:MO}{M M':MH}(h:getM i M=some (.ok o,M')):M[i]?=some o/\M'=M:=by
 unfold getM at h;split at h
 ·rename_i e;cases h;exact⟨e,rfl⟩
 ·cases h
theorem getL_ok {i:Nat}{ds:List D}{M M':MH}(h:getL i M=some (.ok ds,M')):M[i]?=some (.lst ds)/\M'=M:=by
 unfold getL at h;split at h
 ·rename_i e;cases h;exact⟨e,rfl⟩
 ·cases h
theorem getD_ok {i:Nat}{ds:List (Ky×D)}{M M':MH}(h:getD i M=some (.ok ds,M')):M[i]?=some (.dic ds)/\M'=M:=by
 unfold getD at h;split at h
 ·rename_i e;cases h;exact⟨e,rfl⟩
 ·cases h
theorem newM_ok {o:MO}{d:D}{M M':MH}(h:newM o M=some (.ok d,M')):d=.ob M.length/\M'=M++[o]:=by
 cases h;exact⟨rfl,rfl⟩
theorem putM_ok {i:Nat}{o:MO}{u:Unit}{M M':MH}(h:putM i o M=some (.ok u,M')):i < M.length/\M'=M.set i o:=by
 unfold putM at h;split at h
 ·rename_i e;cases h;exact⟨e,rfl⟩
 ·cases h
theorem stop_ok {α:Type}{a:α}{M':MH}(h:(none:Option (Out α×MH))=some (.ok a,M')):False:=by cases h
end L3
namespace L3
open PySem PySem.Spec PyProof.Rows L2
section
variable {K:PySem.W.Frag}{ι:List Addr}{M:MH}{H:Hp}
end
end L3
namespace L3
open PySem PySem.Spec PyProof.Rows L2
noncomputable def strOf:Value->Str
 | .str y _=>y
 | _=>""
theorem or_led (t:SetTable)(n:Nat):(t.orStandIn n).led=t.led:=by
 unfold SetTable.orStandIn;split <;> rfl
theorem lay_led (t:SetTable)(es:Array (Int×Value))(h:Int)(x:Value):(layNew t es h x).2.1.led=t.led:=by
 unfold layNew;split
 ·exact or_led _ _
 ·rfl
theorem relay_led (t:SetTable)(es:Array (Int×Value))(n:Nat):(relayAll t es n).2.1.led=t.led/\(t.plain=false->(relayAll t es n).2.1.plain=false):=by
 unfold relayAll;split
 ·rename_i t' order e
  have z:t'.led=t.led/\t'.plain=t.plain:=by
   unfold SetTable.relaid SetTable.laid at e;cases hl:SetTable.layClean (SetTable.sizeAbove n - 1) (es.map (·.1)) with
   | none=>rw[hl]at e;cases e
   | some ow=>rw[hl]at e;cases e;exact⟨rfl,rfl⟩
  dsimp only;split
  ·exact⟨z.1,fun q=>z.2.trans q⟩
  ·exact⟨rfl,fun _=>rfl⟩
 ·exact⟨rfl,fun _=>rfl⟩
section
variable {prog:Program}{w:World}{A:Around}{E:Value->Shared->Prop}{s:Shared}
noncomputable def SSet (prog:Program)(w:World)(h:Heap)(a:Addr)(xs:List Str)(led:Bool):Prop :=
 ∃ o es ep t,h.get? a=some o/\o.ExactSet/\o.data=.set es ep t/\ElemsOf (mixKind prog w) es.toList/\(∀ e∈es.toList,∃ y u,e.2=.str y u)/\(es.toList.map fun e=>strOf e.2).Perm xs/\es.size < scanBound/\t.fits es.size=true/\t.led=led/\(t.plain=false\/es.size=0)
theorem SSet.at {h h':Heap}{a:Addr}{xs:List Str}{led:Bool}(x:SSet prog w h a xs led)(k:∀ o,h.get? a=some o->h'.get? a=some o):SSet prog w h' a xs led :=
 let ⟨o,es,ep,t,e,r⟩:=x;⟨o,es,ep,t,k o e,r⟩
theorem sset_add {a:Addr}{xs:List Str}{led:Bool}{x:Str}{u:Tok}{Q:Bool->Shared->Prop}(hS:SSet prog w s.heap a xs led)(hr:xs.length + 1 < scanBound)
  (q:∀ r h',Heap.SameBut a s.heap h'->SSet prog w h' a (addS xs x) led->Q r { s with heap:=h' }):wpAny (model prog w) A (setAddHashed a (.str x u) ((mixKind prog w).hash (.inr x))) Q E s:=by
 obtain⟨o,es,ep,t,g1,gx,g2,el,hst,hp,hb,hf,hl,hpl⟩:=hS;have key:(mixKind prog w).is (.inr x) (.str x u)=true:=mixKind_str prog w x u;have hn:es.size=xs.length:=by rw[<- hp.length_eq,List.length_map,Array.length_toList]
 have isx:∀ e∈es.toList,(mixKind prog w).is (.inr x) e.2=decide (x=strOf e.2):=fun e he=>by
  obtain⟨y,v,ey⟩:=hst e he;rw[ey,KeyKind.is_eq_decide (mixKind_str prog w y v) (.inr x)];show decide ((Sum.inr x:Key)=.inr y)=decide (x=y);by_cases z:x=y
  ·rw[decide_eq_true z,decide_eq_true (by rw[z])]
  ·rw[decide_eq_false z,decide_eq_false fun z'=>z (by injection z')]
 unfold setAddHashed setAddHashedIn;refine wpAny_holding (wpAny_bind (wpAny_setState_of g1 g2 hf ?_));dsimp only;rw[byScan_of (show (Value.str x u).scannable=true from rfl) hb el];simp only[↓reduceIte];unfold setAddByScan;refine wpAny_bind (wpAny_bind (wpAny_rule (wpAny_bind (wpAny_setScan_of key g1 g2 hf el ?_))));cases hi:List.findIdx? (fun e=>(mixKind prog w).is (.inr x) e.2) es.toList with
 | some j =>
  dsimp only;obtain⟨hj,hpj,_⟩:=List.findIdx?_eq_some_iff_getElem.mp hi;have hm:=List.getElem_mem hj;rw[isx _ hm]at hpj;have hx:x∈xs:=hp.mem_iff.mp (List.mem_map.mpr ⟨_,hm,(of_decide_eq_true hpj).symm⟩);refine wpAny_pure (wpAny_pure ?_)
  have:=q false s.heap (Heap.SameBut.refl a s.heap) (by unfold addS;rw[if_pos hx];exact⟨o,es,ep,t,g1,gx,g2,el,hst,hp,hb,hf,hl,hpl⟩)
  exact this
 | none =>
  dsimp only;have hx:¬ x∈xs:=fun z=>by
   obtain⟨e,he,ez⟩:=List.mem_map.mp (hp.mem_iff.mpr z)
   have:=List.findIdx?_eq_none_iff.mp hi e he
   rw[isx e he,ez,decide_eq_true rfl]at this;cases this
  have lperm:=layNew_perm t es ((mixKind prog w).hash (.inr x)) (.str x u);have lfits:=layNew_fits t es ((mixKind prog w).hash (.inr x)) (.str x u);have lled:=lay_led t es ((mixKind prog w).hash (.inr x)) (.str x u);generalize layNew t es ((mixKind prog w).hash (.inr x)) (.str x u)=L at lperm lfits lled ⊢;obtain⟨e1,t1,dm,gv⟩:=L;dsimp only at lperm lfits lled ⊢;rw[Array.toList_push]at lperm;have el1:ElemsOf (mixKind prog w) e1.toList:=(el.push key rfl).perm lperm;have st1:∀ e∈e1.toList,∃ y u,e.2=.str y u:=fun e he=>by
   rcases List.mem_append.mp (lperm.mem_iff.mp he) with he | he
   ·exact hst e he
   ·rw[List.mem_singleton.mp he];exact⟨x,u,rfl⟩
  have p1:(e1.toList.map fun e=>strOf e.2).Perm (xs++[x]):=by
   refine(lperm.map _).trans ?_;rw[List.map_append];exact hp.append_right _
  have z1:e1.size=xs.length + 1:=by rw[<- Array.length_toList,<- List.length_map (f:=fun e:Int×Value=>strOf e.2),p1.length_eq,List.length_append];rfl
  have b1:e1.size < scanBound:=by rw[z1];exact hr
  have gw:∀ (b:Bool) {s1:Shared} {Q':Unit->Shared->Prop},Q' () s1->wpAny (model prog w) A (match b with | true=>rule "set.scan.the-table-gave-way" | false=>pure ()) Q' E s1:=fun b s1 Q' h=>by
   cases b
   ·exact wpAny_pure h
   ·exact wpAny_rule h
  refine wpAny_bind (gw _ ?_);have fin:∀ t2:SetTable,t2.fits e1.size=true->t2.led=led->t2.plain=false->∀ {R:Option Bool->Shared->Prop},(∀ h',Heap.SameBut a s.heap h'->SSet prog w h' a (addS xs x) led->R (some true) { s with heap:=h' }) ->
    wpAny (model prog w) A (do
     storeSet a e1 t2
     if (!dm&&t2.tooFull)=true then do
      (match (relayAll t2 e1 (SetTable.grown e1.size)).2.2 with | true=>rule "set.scan.the-table-gave-way" | false=>pure ())
      storeSet a (relayAll t2 e1 (SetTable.grown e1.size)).1 (relayAll t2 e1 (SetTable.grown e1.size)).2.1
      pure (some true)
     else pure (some true)) R E s:=fun t2 f2 l2 pl2 {R} h=>by
   refine wpAny_bind (wpAny_storeSet_of g1 g2 ?_ (fits_of_scanBound b1));have ho1:(s.heap.update a (Obj.putSet e1 t2)).get? a=some { o with data:=.set e1 (ep + 1) t2 }:=by
    have:=Heap.get?_update_self (Obj.putSet e1 t2) g1 (by rw[putSet_of e1 t2 g2];rfl)
    rw[putSet_of e1 t2 g2]at this;exact this
   have hadd:addS xs x=xs++[x]:=if_neg hx;split
   ·have rp:=relayAll_perm t2 e1 (SetTable.grown e1.size)
    have rf:=relayAll_fits t2 e1 (SetTable.grown e1.size);have rl:=relay_led t2 e1 (SetTable.grown e1.size);generalize relayAll t2 e1 (SetTable.grown e1.size)=Rl at rp rf rl ⊢;obtain⟨e2,t3,g3⟩:=Rl;dsimp only at rp rf rl ⊢;have z2:e2.size=e1.size:=by rw[<- Array.length_toList,rp.length_eq,Array.length_toList]
    have b2:e2.size < scanBound:=by rw[z2];exact b1
    refine wpAny_bind (gw _ (wpAny_bind (wpAny_storeSet_of ho1 rfl ?_ (fits_of_scanBound b2))));have ho2:((s.heap.update a (Obj.putSet e1 t2)).update a (Obj.putSet e2 t3)).get? a=some { o with data:=.set e2 (ep + 1 + 1) t3 }:=by
     have:=Heap.get?_update_self (Obj.putSet e2 t3) ho1 (by rw[putSet_of e2 t3 rfl];rfl)
     rw[putSet_of e2 t3 rfl]at this;exact this
    exact wpAny_pure (h _ ((Heap.SameBut.update ..).trans (Heap.SameBut.update ..)) ⟨_,e2,_,t3,ho2,gx,rfl,el1.perm rp,fun e he=>st1 e (rp.mem_iff.mp he),by rw[hadd];exact(rp.map _).trans p1,b2,rf,rl.1.trans l2,.inl (rl.2 pl2)⟩)
   ·exact wpAny_pure (h _ (Heap.SameBut.update ..) ⟨_,e1,_,t2,ho1,gx,rfl,el1,st1,by rw[hadd];exact p1,b1,f2,l2,.inl pl2⟩)
  split
  ·refine wpAny_bind ?_
   rw[hashByValue_scannable 8 (show (Value.str x u).scannable=true from rfl)];refine wpAny_pure ?_;simp only[plainKind,Bool.false_eq_true,↓reduceIte];exact fin { t1 with plain:=false } (SetTable.fits_plain_off lfits) (lled.trans hl) rfl fun h' sb z=>wpAny_pure (q true h' sb z)
  ·rename_i hnp
   refine wpAny_bind (wpAny_pure ?_);simp only[↓reduceIte];exact fin t1 lfits (lled.trans hl) (by simpa using hnp) fun h' sb z=>wpAny_pure (q true h' sb z)
end
end L3
namespace L3
open PySem PySem.Spec PyProof.Rows L2
section
variable {prog:Program}{w:World}{A:Around}{E:Value->Shared->Prop}{s:Shared}
theorem addAll_len:∀ (ys xs:List Str),xs.length<=(addAll xs ys).length
 | [],_=>Nat.le_refl _
 | y::ys,xs=>by
  refine Nat.le_trans ?_ (addAll_len ys (addS xs y));unfold addS;split
  ·exact Nat.le_refl _
  ·rw[List.length_append];exact Nat.le_add_right _ _
theorem set_loopT {led:Bool}{R:Result->Shared->Prop}{s₀:Shared}{S it a:Addr}{items:List Value}(hA:A.handled=none)(ha:s₀.heap.IsTuple a items.toArray)(nS:S≠it)(na:a≠S)(ni:a≠it) :
  ∀ (us:List Value) (ys xs:List Str) (i:Nat) (s:Shared),items.drop i=us->StrsAre us ys->s.heap.IsTupleIter it a i->SSet prog w s.heap S xs led->(addAll xs ys).length + 1 < scanBound ->
   s.gens=s₀.gens->s.drawn=s₀.drawn->s.os=s₀.os->(∀ b o,b≠S->b≠it->s₀.heap.get? b=some o->s.heap.get? b=some o) ->
   (∀ h' tk,SSet prog w h' S (addAll xs ys) led->(∀ b o,b≠S->b≠it->s₀.heap.get? b=some o->h'.get? b=some o)->R (.ok (.ret .none)) { s₀ with heap:=h',toks:=tk }) ->
   codeAny (model prog w) A (.builtin "set.update.loop" ⟨[.ref S,.ref it],[]⟩) R s
 | [],_,xs,i,s,e0,hst,hi,hS,hz,e1,e2,e3,kk,fin=>by
  cases hst;refine codeAny_builtin PyProof.Rows.F.entry_set_update_loop ?_;unfold Builtin.«set.update.loop»;have ha':s.heap.IsTuple a items.toArray:=(let ⟨o,z,r⟩:=ha;⟨o,kk a o na ni z,r⟩);refine wpAny_bind (wpAny_pyNext_tuple_end hA hi ha' (by simpa using e0) fun h' eb=>?_);refine wpAny_pure ?_
  have:=fin h' s.toks (hS.at fun o e=>eb S o nS e) fun b o n1 n2 e=>eb b o n2 (kk b o n1 n2 e)
  rw[<- e1,<- e2,<- e3]at this;exact this
 | _::us,_,xs,i,s,e0,hst,hi,hS,hz,e1,e2,e3,kk,fin=>by
  cases hst with | @cons x u _ ys hr =>
  refine codeAny_builtin PyProof.Rows.F.entry_set_update_loop ?_;unfold Builtin.«set.update.loop»;have ha':s.heap.IsTuple a items.toArray:=(let ⟨o,z,r⟩:=ha;⟨o,kk a o na ni z,r⟩);have hget:items[i]?=some (.str x u):=by
   have:=congrArg (fun l=>l[0]?) e0
   simpa using this
  refine wpAny_bind (wpAny_pyNext_tuple_item hi ha' (by simpa using hget) fun h' hi' sb=>?_);have hS1:SSet prog w h' S xs led:=hS.at fun o e=>(sb.2 S nS).trans e;have hz':=addAll_len (x::ys) xs;show wpAny _ _ (holding [Value.str x u] (setAdd S (.str x u)) >>= _) _ _ _;refine wpAny_bind (wpAny_holding ?_);unfold setAdd;refine wpAny_holding (wpAny_bind ((mixKind prog w).pyHash (k:=.inr x) (mixKind_str prog w x u) ?_));refine sset_add (s:={ s with heap:=h',toks:=s.toks + 1 }) hS1 (by omega) fun r h2 sb2 hS2=>?_;have sb2:Heap.SameBut S h' h2:=sb2;refine wpAny_pure ⟨Code.quiet_builtin _ (by decide +kernel),?_⟩;refine set_loopT hA ha nS na ni us ys (addS xs x) (i + 1) _ ?_ hr ?_ hS2 ?_ e1 e2 e3 (fun b o n1 n2 e=>?_) fin
  ·rw[<- List.drop_drop,e0];rfl
  ·exact hi'.extBut sb2.extBut (Ne.symm nS)
  ·exact hz
  ·exact(sb2.2 b n1).trans ((sb.2 b n2).trans (kk b o n1 n2 e))
noncomputable def ledOf (w:World):Bool:=!(w.params.followText "set-order")
theorem new_set (a:Value){Q₁:Value->Shared->Prop}(q:Q₁ (.ref s.heap.objs.size) { s with heap:=s.heap.push { cls:=.type "set",dict:=none,data:=.set #[] 0 (.fresh 0 0 (ledOf w)) } }) :
  codeAny (model prog w) A (.call (.builtin "set.__new__") ⟨[.type "set",a],[]⟩) (wants Q₁ E) s:=by
 refine codeAny_of_tree ?_;show wpAny _ A.in1 (do checkBuiltinCall "set.__new__" ⟨[.type "set",a],[]⟩;again (.builtin "set.__new__" ⟨[.type "set",a],[]⟩)) _ _ s;refine wpAny_bind (wpAny_of_eq (PySem.F.newCall_set_1 a) (wpAny_pure ⟨plainId_quiet PySem.F.plain_set_new _,codeAny_builtin PySem.F.entry_set_new ?_⟩));rw[Around.under_plainId PySem.F.plain_set_new _];unfold Builtin.«set.__new__» Builtin.Frozenset.newClass;have sub1:=sub_set_self;obtain⟨hp,g,d,tk,os⟩:=s;dsimp only;wp_walk;refine wpAny_askSetting (wpAny_pure ?_);dsimp only;simp only[newObj];exact wpAny_bind (wpAny_alloc (wpAny_pure (wpAny_pure q)))
set_option maxRecDepth 100000 in
theorem call_set_strsT {l:Addr}{items:List Value}{ys:List Str}{Q:Value->Shared->Prop}(hh:A.handled=none)(hl:s.heap.IsTuple l items.toArray)(hi:StrsAre items ys)(hb:(addAll [] ys).length + 1 < scanBound)
  (q:∀ (h':Heap) (tk:Nat),SSet prog w h' s.heap.objs.size (addAll [] ys) (ledOf w)->(∀ b o,s.heap.get? b=some o->h'.get? b=some o)->Q (.ref s.heap.objs.size) { s with heap:=h',toks:=tk }) :
  wpAny (model prog w) A (call (.type "set") [.ref l]) Q E s:=by
 obtain⟨c,tl,hmro⟩:=PySem.F.called_set.mro;have hmade:=PySem.F.called_set.made;have hsub:=PySem.F.called_set.sub;refine wpAny_call (codeAny_of_tree ?_);show wpAny _ _ (callAny (.type "set") _) _ _ _;refine wpAny_pure ⟨Code.quiet_builtin _ (by decide +kernel),codeAny_builtin PySem.F.entry_type_call ?_⟩;rw[Around.under_plain (weight_type_call_type "set" [.ref l] []) rfl];have h1:=PySem.F.called_set.notType;have h2:=PySem.F.called_set.canCreate;have hct:=PySem.F.typeCall_set_1 (.ref l)
 repeat (any_goals (first | assumption | wp_step))
 refine codeAny_mono (new_set (.ref l) (E:=E) (Q₁:=fun obj s₁=>obj=.ref s.heap.objs.size/\s₁ = { s with heap:=s.heap.push { cls:=.type "set",dict:=none,data:=.set #[] 0 (.fresh 0 0 (ledOf w)) } }) ⟨rfl,rfl⟩) fun r s₁ hr=>?_;cases r with
 | error e=>exact hr
 | ok fl =>
  cases fl with
  | ret obj =>
   obtain⟨rfl,rfl⟩:=hr;have gS:(s.heap.push { cls:=.type "set",dict:=none,data:=.set #[] 0 (.fresh 0 0 (ledOf w)) }).get? s.heap.objs.size=some { cls:=.type "set",dict:=none,data:=.set #[] 0 (.fresh 0 0 (ledOf w)) }:=Heap.get?_push_size _ rfl;have ty:Shared.TypeIs { s with heap:=s.heap.push { cls:=.type "set",dict:=none,data:=.set #[] 0 (.fresh 0 0 (ledOf w)) } } (.ref s.heap.objs.size) "set":=⟨_,gS,rfl⟩;have hli:=PySem.F.called_set.init.lookup;have hbi:=PySem.F.called_set.init.bind (.ref s.heap.objs.size)
   repeat (any_goals (first | assumption | wp_step))
   refine codeAny_mono (codeAny_call_builtin (R:=wants (fun r s₂=>r=.none/\∃ h' tk,s₂ = { s with heap:=h',toks:=tk }/\SSet prog w h' s.heap.objs.size (addAll [] ys) (ledOf w)/\(∀ b o,s.heap.get? b=some o->h'.get? b=some o)) E) PySem.F.called_set.init.plain PySem.F.entry_set_init (check_set_init_1 ty ?_)) fun r₂ s₂ hr₂=>?_
   ·obtain⟨ol,hol,hcl,nl,hdl⟩:=id hl
    obtain⟨oc,od,odt,osl⟩:=ol;simp only at hcl hdl;subst hcl hdl;have hol':(s.heap.push { cls:=.type "set",dict:=none,data:=.set #[] 0 (.fresh 0 0 (ledOf w)) }).get? l=some { cls:=.type "tuple",dict:=od,data:=.seq items.toArray nl,slots:=osl }:=Heap.get?_push_of_some _ hol;have f1:=PySem.F.sub_tuple_set;have f2:=PySem.F.sub_tuple_frozenset;have f3:(Value.type "tuple"==Value.type "dict")=false:=by decide
    have hl1:(s.heap.push { cls:=.type "set",dict:=none,data:=.set #[] 0 (.fresh 0 0 (ledOf w)) }).IsTuple l items.toArray:=⟨_,hol',rfl,nl,rfl⟩;unfold Builtin.«set.__init__» noKeywords Builtin.Frozenset.updateFrom;generalize hPI:pyIter=PI;wp_walk;subst hPI;refine wpAny_pyIter_tuple hl1 ?_;refine wpAny_bind (wpAny_runValue ?_);have lt:l < s.heap.objs.size:=Heap.lt_size hol;have sz:(s.heap.push { cls:=.type "set",dict:=none,data:=.set #[] 0 (.fresh 0 0 (ledOf w)) }).objs.size=s.heap.objs.size + 1:=Heap.size_push ..;have S0:SSet prog w ((s.heap.push { cls:=.type "set",dict:=none,data:=.set #[] 0 (.fresh 0 0 (ledOf w)) }).push { cls:=.type "tuple_iterator",data:=.fields #[.ref l,.int 0 0] }) s.heap.objs.size [] (ledOf w) :=
     ⟨_,#[],0,_,Heap.get?_push_of_some _ gS,⟨rfl,rfl,rfl⟩,rfl,(fun e he=>by simp at he),(fun e he=>by simp at he),.nil,(by unfold scanBound;decide),rfl,rfl,.inr rfl⟩
    refine set_loopT (led:=ledOf w) (s₀:={ s with heap:=(s.heap.push { cls:=.type "set",dict:=none,data:=.set #[] 0 (.fresh 0 0 (ledOf w)) }).push { cls:=.type "tuple_iterator",data:=.fields #[.ref l,.int 0 0] } }) (S:=s.heap.objs.size) (it:=(s.heap.push { cls:=.type "set",dict:=none,data:=.set #[] 0 (.fresh 0 0 (ledOf w)) }).objs.size) (a:=l) (items:=items) (by simp[hh]) (hl1.push _) (by rw[sz];exact Nat.ne_of_lt (Nat.lt_succ_self _)) (Nat.ne_of_lt lt) (by rw[sz];exact Nat.ne_of_lt (Nat.lt_succ_of_lt lt)) items ys [] 0 _ rfl hi ⟨_,Heap.get?_push_size _ rfl,rfl,rfl⟩ S0 hb rfl rfl rfl (fun b o _ _ e=>e) fun h' tk hS' kk=>?_;show wpAny _ _ _ _ _ _;refine wpAny_pure ?_;show wpAny _ _ (ret Value.none) _ _ _;refine wpAny_pure ⟨rfl,h',tk,rfl,hS',fun b o e=>?_⟩;have hb:=Heap.lt_size e;exact kk b o (Nat.ne_of_lt hb) (by rw[sz];exact Nat.ne_of_lt (Nat.lt_succ_of_lt hb)) (Heap.get?_push_of_some _ (Heap.get?_push_of_some _ e))
   ·cases r₂ with
    | error e=>exact hr₂
    | ok fl₂ =>
     cases fl₂ with
     | ret r =>
      obtain⟨rfl,h',tk,rfl,hS',hk'⟩:=hr₂
      repeat (any_goals (first | assumption | wp_step))
      exact q _ _ hS' hk'
     | _=>exact hr₂
  | _=>exact hr
end
end L3
namespace L3
open PySem PySem.Spec PyProof.Rows L2
noncomputable def R2S (K:PySem.W.Frag)(g:D->D->Mo D):R2:=fun x y H Q=>∃ ι M M' dx dy d,Sim K ι M H/\Rep K ι H dx x/\Rep K ι H dy y/\g dx dy M=some (.ok d,M') /\
 ∀ v H' ι',Rep K ι' H' d v->Sim K ι' M' H'->Ext K ι H ι' H'->Q v H'
theorem opS_R2S {K:PySem.W.Frag}{g:D->D->Mo D}:OpS K (R2S K g) g:=fun ι M M' _ x y d _ _ _ S r1 r2 e k=>⟨ι,M,M',x,y,d,S,r1,r2,e,k⟩
section
variable {K:PySem.W.Frag}{ι:List Addr}{H:Hp}{M M':MH}
theorem new_list {Q:VK}{ds:List D}{vs:List V}{d:D}(S:Sim K ι M H)(r:Reps K ι H ds vs)(e:newM (.lst ds) M=some (.ok d,M'))(k:∀ v H' ι',Rep K ι' H' d v->Sim K ι' M' H'->Ext K ι H ι' H'->Q v H') :
  ∀ p,H p=none->Q (.ref p) (upd H p (.lst vs)):=fun p hp=>by
 have e0:=newM_ok e;clear e;obtain⟨rfl,rfl⟩:=e0;have x:Ext K ι H (ι++[p]) (upd H p (.lst vs)):=Ext.new hp;exact k _ _ (ι++[p]) (.ob (by rw[<- S.len,List.getElem?_append_right (Nat.le_refl _),Nat.sub_self];rfl)) (S.new hp ⟨vs,rfl,r.mono x⟩) x
theorem new_tup {Q:VK}{ds:List D}{vs:List V}(S:Sim K ι M H)(r:Reps K ι H ds vs)(k:∀ v H' ι',Rep K ι' H' (.tup ds) v->Sim K ι' M H'->Ext K ι H ι' H'->Q v H') :
  ∀ p,H p=none->Q (.ref p) (upd H p (.tup vs)):=fun p hp=>by
 have x:Ext K ι H ι (upd H p (.tup vs)):=Ext.tupN hp;exact k _ _ ι (.tup upd_same (r.mono x)) (S.tupN hp) x
theorem sim_list (S:Sim K ι M H){i:Nat}{ds:List D}{v:V}(r:Rep K ι H (.ob i) v)(e:M[i]?=some (.lst ds)):∃ a vs,v=.ref a/\ι[i]?=some a/\H a=some (.lst vs)/\Reps K ι H ds vs:=by
 cases r with
 | ob h =>
  rename_i a;obtain⟨vs,e1,q⟩:=S.obj i a _ h e;exact⟨a,vs,rfl,h,e1,q⟩
theorem sim_dict (S:Sim K ι M H){i:Nat}{kvs:List (Ky×D)}{v:V}(r:Rep K ι H (.ob i) v)(e:M[i]?=some (.dic kvs)):∃ a ws,v=.ref a/\ι[i]?=some a/\H a=some (.dK ws)/\KR K ι H kvs ws:=by
 cases r with
 | ob h =>
  rename_i a;obtain⟨vs,e1,q⟩:=S.obj i a _ h e;exact⟨a,vs,rfl,h,e1,q⟩
theorem flat_rep {d:D}{v:V}(r:Rep K ι H d v)(h:flatD d=true):flatV v=true:=by
 cases r <;> simp[flatD,flatV]at h ⊢
theorem eq_rep {d e:D}{v u:V}(r:Rep K ι H d v)(q:Rep K ι H e u)(h:flatD d=true)(h':flatD e=true):eqV v u=eqF d e:=by
 cases r <;> cases q <;> simp[flatD,eqV,eqF]at h h' ⊢
theorem KR.find {kvs:List (Ky×D)}{ws:List (Key×V)}(r:KR K ι H kvs ws)(k:Ky):(kvGet kvs k=none/\valV ws k=none)\/∃ d v,kvGet kvs k=some d/\valV ws k=some v/\Rep K ι H d v:=by
 induction r with
 | nil=>exact .inl ⟨rfl,rfl⟩
 | cons h t ih =>
  rename_i a b l1 l2;by_cases e:a.1=k
  ·refine .inr ⟨a.2,b.2,?_,valV_pos (h.1 ▸ e),h.2⟩
   simp[kvGet,List.find?_cons,e]
  ·have e2:¬ b.1=k:=fun z=>e (h.1.trans z)
   have e3:kvGet (a::l1) k=kvGet l1 k:=by simp[kvGet,List.find?_cons,e]
   rw[valV_neg e2,e3];exact ih
theorem KR.anyk {kvs:List (Ky×D)}{ws:List (Key×V)}(r:KR K ι H kvs ws)(k:Ky):(kvs.any fun kv=>decide (kv.1=k))=ws.any fun kv=>decide (kv.1=k):=by
 induction r with
 | nil=>rfl
 | cons h t ih=>rw[List.any_cons,List.any_cons,ih,h.1]
theorem KR.len {kvs:List (Ky×D)}{ws:List (Key×V)}(r:KR K ι H kvs ws):kvs.length=ws.length:=Paired.length r
theorem KR.repl {kvs:List (Ky×D)}{ws:List (Key×V)}(r:KR K ι H kvs ws)(k:Ky){d:D}{v:V}(q:Rep K ι H d v) :
  KR K ι H (kvs.map fun kv=>if kv.1=k then (kv.1,d) else kv) (ws.map fun kv=>if kv.1=k then (kv.1,v) else kv):=by
 induction r with
 | nil=>exact .nil
 | cons h t ih =>
  rename_i a b l1 l2;rw[List.map_cons,List.map_cons];refine .cons ?_ ih;by_cases e:a.1=k
  ·rw[if_pos e,if_pos (h.1 ▸ e)];exact⟨h.1,q⟩
  ·rw[if_neg e,if_neg (fun z=>e (h.1.trans z))];exact h
theorem KR.put {kvs:List (Ky×D)}{ws:List (Key×V)}(r:KR K ι H kvs ws)(k:Ky){d:D}{v:V}(q:Rep K ι H d v):KR K ι H (kvPut kvs k d) (putK ws k v):=by
 unfold kvPut putK;rw[r.anyk k];split
 ·exact r.repl k q
 ·exact Paired.snoc r ⟨rfl,q⟩
theorem key_rep {d:D}{v:V}{k:Ky}(r:Rep K ι H d v)(h:kyD d=some k):v=kV k:=by
 cases r <;> simp[kyD]at h <;> subst h <;> rfl
theorem seq_of {d:D}{v:V}{ds:List D}(S:Sim K ι M H)(r:Rep K ι H d v)(h:itemsD d M=some (.ok ds,M')):M'=M/\∃ a vs,v=.ref a/\(SqL K H a vs\/SqT K H a vs)/\Reps K ι H ds vs:=by
 cases r with
 | tup t q=>have h0:=pure_ok h;clear h;obtain⟨rfl,rfl⟩:=h0;exact⟨rfl,_,_,rfl,.inr (sqt t),q⟩
 | fl t q=>have h0:=pure_ok h;clear h;obtain⟨rfl,rfl⟩:=h0;exact⟨rfl,_,_,rfl,.inl t.seq,q⟩
 | ob t =>
  have h0:=getL_ok h;clear h;obtain⟨e,rfl⟩:=h0;obtain⟨a,vs,h1,_,h3,h4⟩:=sim_list S (.ob t) e;exact⟨rfl,a,vs,h1,.inl (SqL.of h3),h4⟩
 | _=>exact(stop_ok h).elim
theorem reps_at {ds:List D}{vs:List V}{i:Int}{d:D}(r:Reps K ι H ds vs)(h:atD ds i=some d):∃ v,atI vs i=some v/\Rep K ι H d v:=by
 unfold atD at h;unfold atI;have e:ixN vs.length i=ixD ds.length i:=by rw[r.length];rfl
 rw[e];cases q:ixD ds.length i with
 | none=>rw[q]at h;cases h
 | some j =>
  rw[q]at h;exact r.get h
end
section
variable {X:Cx}{pins:List (Addr×Obj)}{σ:St}{H:Hp}{s:Shared}{ι:List Addr}{M:MH}
theorem eqL_some {f:D->D->Option Bool}:∀ {xs ys:List D} {b:Bool},eqL f xs ys=some b->(∀ (j:Nat) (x y:D),xs[j]?=some x->ys[j]?=some y->∃ c,f x y=some c) /\
  b=((List.range (min xs.length ys.length)).all (fun j=>(f (xs.getD j .non) (ys.getD j .non)).getD false)&&xs.length==ys.length)
 | [],[],b,h=>by
  simp only[eqL,Option.some.injEq]at h;subst h;exact⟨fun j x y h=>by simp at h,rfl⟩
 | [],_::_,b,h=>by
  simp only[eqL,Option.some.injEq]at h;subst h;exact⟨fun j x y h=>by simp at h,by simp⟩
 | _::_,[],b,h=>by
  simp only[eqL,Option.some.injEq]at h;subst h;exact⟨fun j x y _ h=>by simp at h,by simp⟩
 | x::xs,y::ys,b,h=>by
  unfold eqL at h;cases e1:f x y with
  | none=>rw[e1]at h;cases h
  | some c =>
   rw[e1]at h;cases e2:eqL f xs ys with
   | none=>rw[e2]at h;cases h
   | some c2 =>
    rw[e2]at h;cases h;obtain⟨i1,i2⟩:=eqL_some e2;refine⟨fun j x' y' h1 h2=>?_,?_⟩
    ·cases j with
     | zero=>simp at h1 h2;subst h1 h2;exact⟨c,e1⟩
     | succ j=>exact i1 j x' y' (by simpa using h1) (by simpa using h2)
    ·rw[i2,List.length_cons,List.length_cons,Nat.add_min_add_right,List.range_succ_eq_map,List.all_cons,List.all_map]
     simp only[List.getD_cons_zero,e1,Option.getD_some];have e3:(xs.length + 1==ys.length + 1)=(xs.length==ys.length):=by
      rw[Bool.eq_iff_iff];simp
     rw[e3,Bool.and_assoc];rfl
theorem same_true (I:Inv X pins σ H s)(S:Sim X.K ι M H):∀ (n:Nat) {d d':D} {v:V} {b:Bool},Rep X.K ι H d v->Rep X.K ι H d' v->eqO M n d d'=some b->b=true
 | 0,_,_,_,_,_,_,h=>by cases h
 | n + 1,d,d',v,b,r,r',h=>by
  have lst:∀ {ds ds':List D} {vs:List V} {b:Bool},Reps X.K ι H ds vs->Reps X.K ι H ds' vs->eqL (eqO M n) ds ds'=some b->b=true:=by
   intro ds;induction ds with
   | nil =>
    intro ds' vs b h1 h2 h3;cases h1;cases h2;cases h3;rfl
   | cons x xs ih =>
    intro ds' vs b h1 h2 h3;cases h1 with
    | cons r1 t1 =>
     cases h2 with
     | cons r2 t2 =>
      rename_i y ys;unfold eqL at h3;cases e1:eqO M n x y with
      | none=>rw[e1]at h3;cases h3
      | some c =>
       rw[e1]at h3;cases e2:eqL (eqO M n) xs ys with
       | none=>rw[e2]at h3;cases h3
       | some c2 =>
        rw[e2]at h3;cases h3;rw[same_true I S n r1 r2 e1,ih t1 t2 e2];rfl
  cases r with
  | non=>cases r' with | non=>cases h;rfl
  | bl a=>cases r' with | bl=>cases h;simp[eqF]
  | int a=>cases r' with | int=>cases h;simp[eqF]
  | str a=>cases r' with | str=>cases h;simp[eqF]
  | tup t q =>
   cases r' with
   | tup t' q' =>
    have:=I.tuple_inj (sqt t) (sqt t')
    subst this;exact lst q q' h
   | fl t' q'=>cases h
   | ob t'=>cases h
  | fl t q =>
   cases r' with
   | tup t' q'=>cases h
   | fl t' q'=>cases h
   | ob t'=>cases h
  | ob t =>
   rename_i i a;cases r' with
   | tup t' q'=>cases h
   | fl t' q'=>cases h
   | ob t' =>
    rename_i j
    have:=S.inj i j a t t'
    subst this;unfold eqO at h;dsimp only at h;split at h
    ·rename_i xs ys h1 h2
     rw[h1]at h2;cases h2;rw[if_pos rfl]at h;obtain⟨vs,_,q⟩:=S.obj i a _ t h1;exact lst q q h
    ·cases h
theorem items_at {A:Around}{n:Nat}(ih:∀ {dx dy:D} {vx vy:V} {u v:Value} {b:Bool},Rep X.K ι H dx vx->Rep X.K ι H dy vy->RelV vx u->RelV vy v->eqO M n dx dy=some b->SeqAt.EqAt A s u v b)
  {xs ys:List D} {vs ws:List V} {its its2:List Value} {b:Bool} (r1:Reps X.K ι H xs vs) (r2:Reps X.K ι H ys ws) (q1:Vals vs its) (q2:Vals ws its2) (h:eqL (eqO M n) xs ys=some b) :
  ∃ e:Nat->Bool,(∀ j (h1:j < its.toArray.size) (h2:j < its2.toArray.size),SeqAt.EqAt A s its.toArray[j] its2.toArray[j] (e j))/\b=((List.range (min its.toArray.size its2.toArray.size)).all e&&its.toArray.size==its2.toArray.size):=by
 obtain⟨h1,h2⟩:=eqL_some h;have l1:xs.length=its.toArray.size:=by rw[r1.length,q1.length];simp
 have l2:ys.length=its2.toArray.size:=by rw[r2.length,q2.length];simp
 refine⟨fun j=>(eqO M n (xs.getD j .non) (ys.getD j .non)).getD false,fun j g1 g2=>?_,by rw[<- l1,<- l2];exact h2⟩;have j1:j < xs.length:=by rw[l1];exact g1
 have j2:j < ys.length:=by rw[l2];exact g2
 obtain⟨c,hc⟩:=h1 j _ _ (List.getElem?_eq_getElem j1) (List.getElem?_eq_getElem j2);obtain⟨v1,e1,p1⟩:=r1.get (List.getElem?_eq_getElem j1);obtain⟨v2,e2,p2⟩:=r2.get (List.getElem?_eq_getElem j2);obtain⟨u1,f1,g1'⟩:=q1.get e1;obtain⟨u2,f2,g2'⟩:=q2.get e2;have k1:its.toArray[j]=u1:=by
  have:=(List.getElem?_eq_some_iff.mp f1).2
  simpa using this
 have k2:its2.toArray[j]=u2:=by
  have:=(List.getElem?_eq_some_iff.mp f2).2
  simpa using this
 rw[k1,k2];have k3:(eqO M n (xs.getD j .non) (ys.getD j .non)).getD false=c:=by
  rw[List.getD_eq_getElem?_getD,List.getD_eq_getElem?_getD,List.getElem?_eq_getElem j1,List.getElem?_eq_getElem j2];simp only[Option.getD_some];rw[hc];rfl
 show SeqAt.EqAt A s u1 u2 ((eqO M n (xs.getD j .non) (ys.getD j .non)).getD false);rw[k3];exact ih p1 p2 g1' g2' hc
theorem len_ne {its its2:List Value}(h:its.length≠its2.length):(its.toArray.size != its2.toArray.size)=true:=by simpa using h
theorem rc_tup (I:Inv X pins σ H s){A:Around}(hu:A.units < cLine){n:Nat}(ih:∀ {dx dy:D} {vx vy:V} {u v:Value} {b:Bool},Rep X.K ι H dx vx->Rep X.K ι H dy vy->RelV vx u->RelV vy v->eqO M n dx dy=some b->SeqAt.EqAt A.in1 s u v b)
  {xs ys:List D} {vs ws:List V} {a c:Addr} {b:Bool} (t1:SqT X.K H a vs) (t2:SqT X.K H c ws) (r1:Reps X.K ι H xs vs) (r2:Reps X.K ι H ys ws) (h:eqL (eqO M n) xs ys=some b):SeqAt.RcAt A s (.ref a) (.ref c) b/\SeqAt.RcNeAt A s (.ref a) (.ref c) (!b):=by
 obtain⟨its,q1,p1,_⟩:=I.tuple t1;obtain⟨its2,q2,p2,_⟩:=I.tuple t2;obtain⟨e,he,rfl⟩:=items_at ih r1 r2 q1 q2 h;exact⟨SeqAt.RcAt.tuples p1 p2 hu he,SeqAt.RcNeAt.tuples p1 p2 hu he⟩
theorem rc_lst (I:Inv X pins σ H s){A:Around}(hu:A.units < cLine){n:Nat}(ih:∀ {dx dy:D} {vx vy:V} {u v:Value} {b:Bool},Rep X.K ι H dx vx->Rep X.K ι H dy vy->RelV vx u->RelV vy v->eqO M n dx dy=some b->SeqAt.EqAt A.in1 s u v b)
  {xs ys:List D} {vs ws:List V} {a c:Addr} {b:Bool} (t1:SqL X.K H a vs) (t2:SqL X.K H c ws) (r1:Reps X.K ι H xs vs) (r2:Reps X.K ι H ys ws) (h:(if xs.length=ys.length then eqL (eqO M n) xs ys else some false)=some b):SeqAt.RcAt A s (.ref a) (.ref c) b/\SeqAt.RcNeAt A s (.ref a) (.ref c) (!b):=by
 obtain⟨its,q1,p1,_⟩:=I.list t1;obtain⟨its2,q2,p2,_⟩:=I.list t2;have l1:xs.length=its.length:=by rw[r1.length,q1.length]
 have l2:ys.length=its2.length:=by rw[r2.length,q2.length]
 split at h
 ·rename_i hl
  obtain⟨e,he,rfl⟩:=items_at ih r1 r2 q1 q2 h;have hs:its.toArray.size=its2.toArray.size:=by simp;omega
  have e1:((List.range (min its.toArray.size its2.toArray.size)).all e&&its.toArray.size==its2.toArray.size)=(List.range its.toArray.size).all e:=by
   rw[hs,Nat.min_self];simp
  rw[e1];exact⟨SeqAt.RcAt.lists p1.isList p2.isList hs hu he,SeqAt.RcNeAt.lists p1.isList p2.isList hs hu he⟩
 ·rename_i hl
  cases h;exact⟨SeqAt.RcAt.lists_lengths p1.isList p2.isList (len_ne (by first | lia | omega)) hu,SeqAt.RcNeAt.lists_lengths p1.isList p2.isList (len_ne (by first | lia | omega)) hu⟩
theorem rc_flat {A:Around}{dx dy:D}{vx vy:V}{u v:Value}(r1:Rep X.K ι H dx vx)(r2:Rep X.K ι H dy vy)(g1:RelV vx u)(g2:RelV vy v)(f1:flatD dx=true)(f2:flatD dy=true):SeqAt.RcAt A s u v (eqF dx dy)/\SeqAt.RcNeAt A s u v (!eqF dx dy):=by
 cases r1 with
 | non =>
  cases g1;cases r2 with
  | non=>cases g2;exact⟨SeqAt.RcAt.none_none,SeqAt.RcNeAt.none_none⟩
  | bl b=>cases g2;exact⟨SeqAt.RcAt.none_bool b,SeqAt.RcNeAt.none_bool b⟩
  | int b=>obtain⟨t,rfl⟩:=g2;exact⟨SeqAt.RcAt.none_int b t,SeqAt.RcNeAt.none_int b t⟩
  | str b=>obtain⟨t,rfl⟩:=g2;exact⟨SeqAt.RcAt.none_str b t,SeqAt.RcNeAt.none_str b t⟩
  | _=>exact absurd f2 Bool.false_ne_true
 | bl a =>
  cases g1;cases r2 with
  | non=>cases g2;exact⟨SeqAt.RcAt.bool_none a,SeqAt.RcNeAt.bool_none a⟩
  | bl b=>cases g2;exact⟨SeqAt.RcAt.bool_bool a b,SeqAt.RcNeAt.bool_bool a b⟩
  | int b=>obtain⟨t,rfl⟩:=g2;exact⟨SeqAt.RcAt.bool_int a b t,SeqAt.RcNeAt.bool_int a b t⟩
  | str b=>obtain⟨t,rfl⟩:=g2;exact⟨SeqAt.RcAt.bool_str a b t,SeqAt.RcNeAt.bool_str a b t⟩
  | _=>exact absurd f2 Bool.false_ne_true
 | int a =>
  obtain⟨t',rfl⟩:=g1;cases r2 with
  | non=>cases g2;exact⟨SeqAt.RcAt.int_none a t',SeqAt.RcNeAt.int_none a t'⟩
  | bl b=>cases g2;exact⟨SeqAt.RcAt.int_bool a t' b,SeqAt.RcNeAt.int_bool a t' b⟩
  | int b=>obtain⟨t,rfl⟩:=g2;exact⟨SeqAt.RcAt.int_int a t' b t,SeqAt.RcNeAt.int_int a t' b t⟩
  | str b=>obtain⟨t,rfl⟩:=g2;exact⟨SeqAt.RcAt.int_str a t' b t,SeqAt.RcNeAt.int_str a t' b t⟩
  | _=>exact absurd f2 Bool.false_ne_true
 | str a =>
  obtain⟨t',rfl⟩:=g1;cases r2 with
  | non=>cases g2;exact⟨SeqAt.RcAt.str_none a t',SeqAt.RcNeAt.str_none a t'⟩
  | bl b=>cases g2;exact⟨SeqAt.RcAt.str_bool a t' b,SeqAt.RcNeAt.str_bool a t' b⟩
  | int b=>obtain⟨t,rfl⟩:=g2;exact⟨SeqAt.RcAt.str_int a t' b t,SeqAt.RcNeAt.str_int a t' b t⟩
  | str b=>obtain⟨t,rfl⟩:=g2;exact⟨SeqAt.RcAt.str_str a t' b t,SeqAt.RcNeAt.str_str a t' b t⟩
  | _=>exact absurd f2 Bool.false_ne_true
 | _=>exact absurd f1 Bool.false_ne_true
theorem at_tup_flat (I:Inv X pins σ H s){A:Around}(hu:A.units < cLine){dy:D}{vs:List V}{a:Addr}{vy:V}{v:Value}(t1:SqT X.K H a vs)(r2:Rep X.K ι H dy vy)(g2:RelV vy v)(f2:flatD dy=true) :
  (SeqAt.RcAt A s (.ref a) v false/\SeqAt.RcNeAt A s (.ref a) v true/\SeqAt.EqAt A s (.ref a) v false)/\(SeqAt.RcAt A s v (.ref a) false/\SeqAt.RcNeAt A s v (.ref a) true/\SeqAt.EqAt A s v (.ref a) false):=by
 obtain⟨its,q1,p1,_⟩:=I.tuple t1;cases r2 with
 | non=>cases g2;exact⟨⟨.tuple_none p1 hu,.tuple_none p1 hu,.tuple_none p1 hu⟩,⟨.none_tuple p1 hu,.none_tuple p1 hu,.none_tuple p1 hu⟩⟩
 | bl b=>cases g2;exact⟨⟨.tuple_bool b p1 hu,.tuple_bool b p1 hu,.tuple_bool b p1 hu⟩,⟨.bool_tuple b p1 hu,.bool_tuple b p1 hu,.bool_tuple b p1 hu⟩⟩
 | int b=>obtain⟨t,rfl⟩:=g2;exact⟨⟨.tuple_int b t p1 hu,.tuple_int b t p1 hu,.tuple_int b t p1 hu⟩,⟨.int_tuple b t p1 hu,.int_tuple b t p1 hu,.int_tuple b t p1 hu⟩⟩
 | str b=>obtain⟨t,rfl⟩:=g2;exact⟨⟨.tuple_str b t p1 hu,.tuple_str b t p1 hu,.tuple_str b t p1 hu⟩,⟨.str_tuple b t p1 hu,.str_tuple b t p1 hu,.str_tuple b t p1 hu⟩⟩
 | _=>exact absurd f2 Bool.false_ne_true
theorem eq_all (I:Inv X pins σ H s)(S:Sim X.K ι M H):∀ (n:Nat) {A:Around} {dx dy:D} {vx vy:V} {u v:Value} {b:Bool},A.units + n < cLine->Rep X.K ι H dx vx->Rep X.K ι H dy vy->RelV vx u->RelV vy v->eqO M n dx dy=some b ->
  SeqAt.RcAt A s u v b/\SeqAt.RcNeAt A s u v (!b)/\SeqAt.EqAt A s u v b
 | 0,_,_,_,_,_,_,_,_,_,_,_,_,_,h=>by cases h
 | n + 1,A,dx,dy,vx,vy,u,v,b,hA,r1,r2,g1,g2,h=>by
  have hu:A.units < cLine:=by first | lia | omega
  have ih:∀ {dx dy:D} {vx vy:V} {u v:Value} {b:Bool},Rep X.K ι H dx vx->Rep X.K ι H dy vy->RelV vx u->RelV vy v->eqO M n dx dy=some b->SeqAt.EqAt A.in1 s u v b :=
   fun r1 r2 g1 g2 h=>(eq_all I S n (A:=A.in1) (by show A.units + 1 + n < cLine;omega) r1 r2 g1 g2 h).2.2
  have refs:∀ {a c:Addr},vx=.ref a->vy=.ref c->SeqAt.RcAt A s (.ref a) (.ref c) b->SeqAt.EqAt A s (.ref a) (.ref c) b:=fun {a c} e1 e2 hr=>by
   by_cases hac:a=c
   ·subst hac
    subst e1;subst e2;rw[same_true I S (n + 1) r1 r2 h];exact SeqAt.EqAt.same _
   ·exact SeqAt.EqAt.of_refs hac hr
  by_cases hf:flatD dx=true/\flatD dy=true
  ·have hb:eqO M (n + 1) dx dy=some (eqF dx dy):=by
    cases dx <;> cases dy <;> first | exact absurd hf.1 Bool.false_ne_true | exact absurd hf.2 Bool.false_ne_true | rfl
   rw[hb]at h;cases h;obtain⟨q1,q2⟩:=rc_flat (X:=X) (H:=H) (s:=s) (ι:=ι) (A:=A) r1 r2 g1 g2 hf.1 hf.2;refine⟨q1,q2,?_⟩;rw[<- eq_rep r1 r2 hf.1 hf.2];exact eqAt_V g1 g2 (flat_rep r1 hf.1) (flat_rep r2 hf.2)
  ·cases r1 with
   | tup t q =>
    cases g1;cases r2 with
    | tup t' q' =>
     cases g2;obtain⟨h1,h2⟩:=rc_tup I hu ih (sqt t) (sqt t') q q' h;exact⟨h1,h2,refs rfl rfl h1⟩
    | fl t' q'=>cases h
    | ob t'=>cases h
    | non=>cases h;obtain⟨⟨h1,h2,h3⟩,_⟩:=at_tup_flat (ι:=ι) I hu (sqt t) .non g2 rfl;exact⟨h1,h2,h3⟩
    | bl b=>cases h;obtain⟨⟨h1,h2,h3⟩,_⟩:=at_tup_flat (ι:=ι) I hu (sqt t) (.bl b) g2 rfl;exact⟨h1,h2,h3⟩
    | int b=>cases h;obtain⟨⟨h1,h2,h3⟩,_⟩:=at_tup_flat (ι:=ι) I hu (sqt t) (.int b) g2 rfl;exact⟨h1,h2,h3⟩
    | str b=>cases h;obtain⟨⟨h1,h2,h3⟩,_⟩:=at_tup_flat (ι:=ι) I hu (sqt t) (.str b) g2 rfl;exact⟨h1,h2,h3⟩
   | ob t =>
    cases g1;cases r2 with
    | ob t' =>
     cases g2;unfold eqO at h;dsimp only at h;split at h
     ·rename_i i a j c xs ys h1 h2
      obtain⟨vs,e1,q1⟩:=S.obj _ _ _ t h1;obtain⟨ws,e2,q2⟩:=S.obj _ _ _ t' h2;obtain⟨k1,k2⟩:=rc_lst I hu ih (SqL.of e1) (SqL.of e2) q1 q2 h;refine⟨k1,k2,refs rfl rfl k1⟩
     ·cases h
    | tup t' q'=>cases h
    | _=>cases h
   | fl t q=>cases r2 <;> cases h
   | non =>
    cases r2 with
    | tup t' q'=>cases h;cases g2;obtain⟨_,h1,h2,h3⟩:=at_tup_flat (ι:=ι) I hu (sqt t') .non g1 rfl;exact⟨h1,h2,h3⟩
    | fl t' q'=>cases h
    | ob t'=>cases h
    | _=>exact absurd ⟨rfl,rfl⟩ hf
   | bl x =>
    cases r2 with
    | tup t' q'=>cases h;cases g2;obtain⟨_,h1,h2,h3⟩:=at_tup_flat (ι:=ι) I hu (sqt t') (.bl x) g1 rfl;exact⟨h1,h2,h3⟩
    | fl t' q'=>cases h
    | ob t'=>cases h
    | _=>exact absurd ⟨rfl,rfl⟩ hf
   | int x =>
    cases r2 with
    | tup t' q'=>cases h;cases g2;obtain⟨_,h1,h2,h3⟩:=at_tup_flat (ι:=ι) I hu (sqt t') (.int x) g1 rfl;exact⟨h1,h2,h3⟩
    | fl t' q'=>cases h
    | ob t'=>cases h
    | _=>exact absurd ⟨rfl,rfl⟩ hf
   | str x =>
    cases r2 with
    | tup t' q'=>cases h;cases g2;obtain⟨_,h1,h2,h3⟩:=at_tup_flat (ι:=ι) I hu (sqt t') (.str x) g1 rfl;exact⟨h1,h2,h3⟩
    | fl t' q'=>cases h
    | ob t'=>cases h
    | _=>exact absurd ⟨rfl,rfl⟩ hf
open Classical in
theorem in_all (I:Inv X pins σ H s)(S:Sim X.K ι M H){A:Around}(hu:A.units + 9 < cLine){x:D}{vx:V}{v:Value}(rx:Rep X.K ι H x vx)(gx:RelV vx v):∀ {ds:List D} {vs:List V} {its:List Value} {b:Bool},Reps X.K ι H ds vs->Vals vs its->inL M x ds=some b ->
  ∃ ans:List Bool,ans.length=its.length/\(∀ (j:Nat) (u:Value) (c:Bool),its[j]?=some u->ans[j]?=some c->SeqAt.EqAt A.in1 s u v c)/\b=ans.any id
 | _,_,_,b,.nil,.nil,h=>by cases h;exact⟨[],rfl,fun j u c h=>by simp at h,rfl⟩
 | d::ds,_,_,b,.cons r t,.cons q k,h=>by
  unfold inL at h;cases e1:eqO M 8 d x with
  | none=>rw[e1]at h;cases h
  | some c =>
   rw[e1]at h;cases e2:inL M x ds with
   | none=>rw[e2]at h;cases h
   | some c2 =>
    rw[e2]at h;cases h;obtain⟨ans,a1,a2,a3⟩:=in_all I S hu rx gx t k e2;refine⟨c::ans,by rw[List.length_cons,List.length_cons,a1],fun j u c' h1 h2=>?_,by rw[a3];rfl⟩;cases j with
    | zero =>
     simp at h1 h2;subst h1 h2;exact(eq_all I S 8 (A:=A.in1) (by show A.units + 1 + 8 < cLine;omega) r rx q gx e1).2.2
    | succ j=>exact a2 j u c' (by simpa using h1) (by simpa using h2)
open Classical in
theorem in_fun {A:Around}{its:List Value}{ans:List Bool}{v:Value}(hl:ans.length=its.length)(h:∀ (j:Nat) (u:Value) (c:Bool),its[j]?=some u->ans[j]?=some c->SeqAt.EqAt A s u v c) :
  ∃ e:Value->Bool,(∀ y,y∈its.toArray->SeqAt.EqAt A s y v (e y))/\its.toArray.any e=ans.any id:=by
 refine⟨fun y=>decide (∃ j:Nat,its[j]?=some y/\ans[j]?=some true),fun y hy=>?_,?_⟩
 ·by_cases hex:∃ j:Nat,its[j]?=some y/\ans[j]?=some true
  ·dsimp only
   rw[decide_eq_true hex];obtain⟨j,h1,h2⟩:=hex;exact h j y true h1 h2
  ·dsimp only
   rw[decide_eq_false hex];have hy':y∈its:=by simpa using hy
   obtain⟨j,hj⟩:=List.mem_iff_getElem?.mp hy';have hj2:j < ans.length:=by rw[hl];exact(List.getElem?_eq_some_iff.mp hj).1
   have e:=List.getElem?_eq_getElem hj2;cases hb:ans[j] with
   | true=>rw[hb]at e;exact absurd ⟨j,hj,e⟩ hex
   | false=>rw[hb]at e;exact h j y false hj e
 ·rw[Bool.eq_iff_iff,Array.any_eq_true]
  simp only[decide_eq_true_eq,List.any_eq_true,id];constructor
  ·rintro ⟨i,hi,j,h1,h2⟩
   exact⟨true,List.mem_of_getElem? h2,rfl⟩
  ·rintro ⟨c,hc,rfl⟩
   obtain⟨j,hj⟩:=List.mem_iff_getElem?.mp hc;have hj2:j < its.length:=by rw[<- hl];exact(List.getElem?_eq_some_iff.mp hj).1
   exact⟨j,by simpa using hj2,j,by simp[hj2],hj⟩
end
section
variable {X:Cx}
noncomputable def gCmp (op:CmpOp)(x y:D):Mo D:=do let k <- cmpD op x y;pure (.bl k)
theorem inMo_ok {x:D}{ds:List D}{M M':MH}{b:Bool}(h:inMo x ds M=some (.ok b,M')):inL M x ds=some b/\M'=M:=by
 unfold inMo at h;cases e:inL M x ds with
 | none=>rw[e]at h;cases h
 | some c=>rw[e]at h;cases h;exact⟨rfl,rfl⟩
theorem eqMo_ok {x y:D}{M M':MH}{b:Bool}(h:eqMo x y M=some (.ok b,M')):eqO M 20 x y=some b/\M'=M:=by
 unfold eqMo at h;cases e:eqO M 20 x y with
 | none=>rw[e]at h;cases h
 | some c=>rw[e]at h;cases h;exact⟨rfl,rfl⟩
theorem inD_M {x y:D}{M M':MH}{b:Bool}(h:inD x y M=some (.ok b,M')):M'=M:=by
 unfold inD at h;split at h
 ·split at h
  ·exact(pure_ok h).2
  ·exact(stop_ok h).elim
 ·exact(inMo_ok h).2
 ·exact(inMo_ok h).2
 ·have h0:=bind_ok h;clear h;obtain⟨o,M1,e,h2⟩:=h0
  have hM:=(getM_ok e).2;cases o with
  | lst ds=>rw[(inMo_ok h2).2,hM]
  | dic kvs =>
   have h20:=bind_ok h2;clear h2;obtain⟨_,_,e3,h3⟩:=h20;rw[(pure_ok h3).2,(lift_ok e3).2,hM]
 ·exact(stop_ok h).elim
theorem in_ok (hu:X.A.units + 100 < cLine)(neg:Bool){pins:List (Addr×Obj)}{s:Shared}{σ:St}{H:Hp}{x y:V}{v u:Value}{Q:VK}(I:Inv X pins σ H s)(rx:RelV x v)(ry:RelV y u){ι:List Addr}{M M':MH}{dx dy:D}{b:Bool}
  (S:Sim X.K ι M H) (r1:Rep X.K ι H dx x) (r2:Rep X.K ι H dy y) (e:inD dx dy M=some (.ok b,M')) (q:Q (.bl (if neg then !b else b)) H) :
  wpAny (model X.prog X.w) X.A (compareOp (if neg then .NotIn else .In) v u) (EP X pins σ Q) X.xe s:=by
 have seq:∀ {a:Addr} {vs:List V} {ds:List D},y=.ref a->(SqL X.K H a vs\/SqT X.K H a vs)->Reps X.K ι H ds vs->inL M dx ds=some b ->
   wpAny (model X.prog X.w) X.A (compareOp (if neg then .NotIn else .In) v u) (EP X pins σ Q) X.xe s:=fun {a vs ds} ey hs hr hb=>by
  subst ey;cases ry;rcases hs with hs | hs
  ·obtain⟨its,q1,p1,_⟩:=I.list hs
   obtain⟨ans,a1,a2,rfl⟩:=in_all I S (A:=X.A) (by first | lia | omega) r1 rx hr q1 hb
   obtain⟨e,e1,e2⟩:=in_fun a1 a2;cases neg with
   | false=>exact SeqAt.in_listAt e p1.isList e1 ⟨.bl _,H,I,rfl,by rw[e2];exact q⟩
   | true=>exact SeqAt.notIn_listAt e p1.isList e1 ⟨.bl _,H,I,rfl,by rw[e2];exact q⟩
  ·obtain⟨its,q1,p1,_⟩:=I.tuple hs
   obtain⟨ans,a1,a2,rfl⟩:=in_all I S (A:=X.A) (by first | lia | omega) r1 rx hr q1 hb
   obtain⟨e,e1,e2⟩:=in_fun a1 a2;cases neg with
   | false=>exact SeqAt.in_tupleAt e p1 e1 ⟨.bl _,H,I,rfl,by rw[e2];exact q⟩
   | true=>exact SeqAt.notIn_tupleAt e p1 e1 ⟨.bl _,H,I,rfl,by rw[e2];exact q⟩
 cases r2 with
 | str j =>
  cases r1 with
  | str i =>
   have e0:=pure_ok e;clear e;obtain⟨rfl,rfl⟩:=e0;cases neg with
   | false=>exact op_in_str pins s σ H _ _ v u Q I rx ry ⟨i,j,rfl,rfl,q⟩
   | true=>exact op_notin_str pins s σ H _ _ v u Q I rx ry ⟨i,j,rfl,rfl,q⟩
  | _=>exact(stop_ok e).elim
 | tup t r=>exact seq rfl (.inr (sqt t)) r (inMo_ok e).1
 | fl t r=>exact seq rfl (.inl t.seq) r (inMo_ok e).1
 | ob t =>
  have e0:=bind_ok e;clear e;obtain⟨o,M1,e1,e⟩:=e0;have e10:=getM_ok e1;clear e1;obtain⟨g,rfl⟩:=e10;cases o with
  | lst ds =>
   obtain⟨a,vs,h1,_,h3,h4⟩:=sim_list S (.ob t) g;exact seq h1 (.inl (SqL.of h3)) h4 (inMo_ok e).1
  | dic kvs =>
   obtain⟨a,ws,h1,_,h3,h4⟩:=sim_dict S (.ob t) g;have e0:=bind_ok e;clear e;obtain⟨k,_,e5,e6⟩:=e0;have e50:=lift_ok e5;clear e5;obtain⟨hk,hM⟩:=e50;have e60:=pure_ok e6;clear e6;obtain⟨rfl,_⟩:=e60;have hx:=key_rep r1 hk;subst hx;cases h1;obtain rfl:u=Value.ref _:=ry;have hs:(valV ws k).isSome=(kvGet kvs k).isSome:=by
    rcases h4.find k with ⟨z1,z2⟩|⟨_,_,z1,z2,_⟩ <;> rw[z1,z2]
    ·rfl
    ·rfl
   rw[<- hs]at q;cases neg with
   | false=>exact d_in (by first | lia | omega) I (DGet.k (k:=k) h3) rx fun s3 I3=>⟨.bl _,H,I3,rfl,q⟩
   | true=>exact d_notIn (by first | lia | omega) I (DGet.k (k:=k) h3) rx fun s3 I3=>⟨.bl _,H,I3,rfl,q⟩
 | _=>exact(stop_ok e).elim
theorem op_cmp (hu:X.A.units + 100 < cLine)(op:CmpOp):OpR X (compareOp op) (R2S X.K (gCmp op)):=by
 intro pins s σ H x y v u Q I rx ry h;obtain⟨ι,M,M',dx,dy,d,S,r1,r2,e,k⟩:=h;have e0:=bind_ok e;clear e;obtain⟨b,M1,e1,e2⟩:=e0;have e20:=pure_ok e2;clear e2;obtain⟨rfl,rfl⟩:=e20;have fin:M'=M->Q (.bl b) H:=fun z=>by subst z;exact k (.bl b) H ι (.bl b) S Ext.refl
 cases op with
 | Eq =>
  have e10:=eqMo_ok e1;clear e1;obtain⟨hs,rfl⟩:=e10;exact(eq_all I S 20 (A:=X.A) (by first | lia | omega) r1 r2 rx ry hs).1 X.prog X.w X.xe _ ⟨.bl b,H,I,rfl,fin rfl⟩
 | NotEq =>
  have e10:=bind_ok e1;clear e1;obtain⟨c,_,e3,e4⟩:=e10;have e30:=eqMo_ok e3;clear e3;obtain⟨hs,rfl⟩:=e30;have e40:=pure_ok e4;clear e4;obtain⟨rfl,rfl⟩:=e40;exact(eq_all I S 20 (A:=X.A) (by first | lia | omega) r1 r2 rx ry hs).2.1 X.prog X.w X.xe _ ⟨.bl (!c),H,I,rfl,fin rfl⟩
 | Lt =>
  have e10:=lift_ok e1;clear e1;obtain⟨e3,rfl⟩:=e10;cases r1 <;> cases r2 <;> simp only[ltD,Option.some.injEq,reduceCtorEq]at e3
  ·exact op_lt pins s σ H _ _ v u Q I rx ry ⟨_,_,rfl,rfl,by show Q (.bl (decide _)) H;rw[e3];exact fin rfl⟩
  ·exact op_lt_str pins s σ H _ _ v u Q I rx ry ⟨_,_,rfl,rfl,by rw[e3];exact fin rfl⟩
 | LtE =>
  have e10:=lift_ok e1;clear e1;obtain⟨e3,rfl⟩:=e10;cases r1 <;> cases r2 <;> simp only[leD,Option.some.injEq,reduceCtorEq]at e3
  ·exact op_le pins s σ H _ _ v u Q I rx ry ⟨_,_,rfl,rfl,by show Q (.bl (decide _)) H;rw[e3];exact fin rfl⟩
  ·obtain⟨t,rfl⟩:=rx
   obtain⟨t',rfl⟩:=ry;exact PySem.P.le_str (fin_bl I (fin rfl) e3.symm)
 | Gt =>
  cases r1 <;> cases r2 <;> first
   | exact(stop_ok e1).elim
   | (have e10:=pure_ok e1;clear e1;obtain⟨rfl,rfl⟩:=e10;exact op_gt pins s σ H _ _ v u Q I rx ry ⟨_,_,rfl,rfl,fin rfl⟩)
 | GtE =>
  cases r1 <;> cases r2 <;> first
   | exact(stop_ok e1).elim
   | (have e10:=pure_ok e1;clear e1;obtain⟨rfl,rfl⟩:=e10;exact op_ge pins s σ H _ _ v u Q I rx ry ⟨_,_,rfl,rfl,fin rfl⟩)
 | In=>exact in_ok hu false I rx ry S r1 r2 e1 (fin (inD_M e1))
 | NotIn =>
  have e10:=bind_ok e1;clear e1;obtain⟨b',M2,e3,e4⟩:=e10;have e40:=pure_ok e4;clear e4;obtain⟨rfl,rfl⟩:=e40;exact in_ok hu true I rx ry S r1 r2 e3 (fin (inD_M e3))
 | Is =>
  have e10:=bind_ok e1;clear e1;obtain⟨_,_,e3,e4⟩:=e10;have e30:=need_ok e3;clear e3;obtain⟨hs,rfl⟩:=e30;have e40:=pure_ok e4;clear e4;obtain⟨rfl,rfl⟩:=e40;cases r2 <;> simp[isN]at hs;refine op_isN pins s σ H _ _ v u Q I rx ry ⟨rfl,?_⟩
  have:decide (x=V.non)=isN dx:=by cases r1 <;> simp[isN]
  rw[this];exact fin rfl
 | IsNot =>
  have e10:=bind_ok e1;clear e1;obtain⟨_,_,e3,e4⟩:=e10;have e30:=need_ok e3;clear e3;obtain⟨hs,rfl⟩:=e30;have e40:=pure_ok e4;clear e4;obtain⟨rfl,rfl⟩:=e40;cases r2 <;> simp[isN]at hs;refine op_notN pins s σ H _ _ v u Q I rx ry ⟨rfl,?_⟩
  have:decide (x=V.non)=isN dx:=by cases r1 <;> simp[isN]
  rw[this];exact fin rfl
theorem cat_nil {pins:List (Addr×Obj)}{s:Shared}{σ:St}{H:Hp}{a b:Addr}{us:List V}{Q:Value->Shared->Prop}{E:Value->Shared->Prop}(I:Inv X pins σ H s)(t1:SqT X.K H a [])(t2:SqT X.K H b us)(q:Q (.ref b) s):wpAny (model X.prog X.w) X.A (binaryOp .Add (.ref a) (.ref b)) Q E s:=by
 obtain⟨its,q1,p1,_⟩:=I.tuple t1;obtain⟨its2,q2,p2,_⟩:=I.tuple t2;cases q1;obtain⟨⟨cls,dd,data,sl⟩,ho,hc,n,hd⟩:=id p1;obtain⟨⟨cls2,dd2,data2,sl2⟩,ho2,hc2,n2,hd2⟩:=id p2;simp only at hc hd hc2 hd2;subst hc hd hc2 hd2;exact concat_meets ⟨_,ho,rfl⟩ ⟨_,ho2,rfl⟩ noFill_tuple_add seq_tuple_add PySem.F.slot_tuple_add PySem.F.entry_tuple_add (PySem.F.args_tuple_add_2 _ _)
  (tuple_addW0 a b _ its2.toArray n n2 dd dd2 sl sl2 (by simp)) ⟨ho,ho2,q⟩
theorem mul_str {pins:List (Addr×Obj)}{s:Shared}{σ:St}{H:Hp}{x:Str}{j:Int}{t t':Tok}{Q:VK}(I:Inv X pins σ H s)(n1:2<=j)(n2:j < 1000)(n3:0 < x.length)(n4:x.length < 1000)(q:Q (.str (repS x j.toNat)) H) :
  wpAny (model X.prog X.w) X.A (binaryOp .Mult (.str x t) (.int j t')) (EP X pins σ Q) X.xe s:=by
 have hb:x.length * j.toNat < 1000000:=by
  have h1:x.length * j.toNat<=999 * j.toNat:=Nat.mul_le_mul_right _ (by first | lia | omega)
  first | lia | omega
 have e:PySem.Txt.mul x j=repS x j.toNat:=by
  unfold PySem.Txt.mul repS;rw[if_neg (by first | lia | omega),if_neg (by simp;omega)]
 have ok:PySem.MulOk x j:=by
  refine⟨by simp;omega,fun _ _=>?_,fun _ _=>?_⟩
  ·have:(1000:Int)<=(2 ^ 63 - 1:Int) / j:=Int.le_ediv_of_mul_le (by first | lia | omega) (by first | lia | omega)
   first | lia | omega
  ·unfold Builtin.Str.tooLong sizeLine
   exact decide_eq_false (by first | lia | omega)
 refine PySem.SB.mul ok fun t2 k2=>?_;rw[e];exact⟨.str _,H,I.tok _,⟨t2,rfl⟩,q⟩
theorem op_bin (op:Operator):OpR X (binaryOp op) (R2S X.K (opD op)):=by
 intro pins s σ H x y v u Q I rx ry h;obtain⟨ι,M,M',dx,dy,d,S,r1,r2,e,k⟩:=h;have fin:∀ {w':V},M'=M->Rep X.K ι H d w'->Q w' H:=fun {w'} z r=>by subst z;exact k w' H ι r S Ext.refl
 cases op
 case Add =>
  cases dx <;> first | exact(stop_ok e).elim | (cases dy <;> first | exact(stop_ok e).elim | skip)
  ·delta opD at e
   dsimp only at e;have e0:=pure_ok e;clear e;obtain⟨rfl,rfl⟩:=e0;cases r1;cases r2;exact op_add pins s σ H _ _ v u Q I rx ry ⟨_,_,rfl,rfl,fin rfl (.int _)⟩
  ·delta opD at e
   dsimp only at e;have e0:=bind_ok e;clear e;obtain⟨_,_,e1,e⟩:=e0;have e10:=need_ok e1;clear e1;obtain⟨hn,rfl⟩:=e10;have e0:=pure_ok e;clear e;obtain⟨rfl,rfl⟩:=e0;cases r1;cases r2;exact op_add_str pins s σ H _ _ v u Q I rx ry ⟨_,_,rfl,rfl,hn,fin rfl (.str _)⟩
  ·delta opD at e
   dsimp only at e;have e0:=bind_ok e;clear e;obtain⟨_,_,e1,e⟩:=e0;have e10:=need_ok e1;clear e1;obtain⟨hz,rfl⟩:=e10;have e0:=pure_ok e;clear e;obtain⟨rfl,rfl⟩:=e0;cases r1 with
   | tup t1 q1 =>
    cases r2 with
    | tup t2 q2 =>
     rename_i a vs b us;by_cases hn:vs=[]
     ·subst hn
      cases q1;cases rx;cases ry;exact cat_nil I (sqt t1) (sqt t2) ⟨.ref _,H,I,rfl,k _ H ι (.tup t2 q2) S Ext.refl⟩
     ·refine op_catT pins s σ H _ _ v u Q I rx ry ⟨_,_,_,_,rfl,rfl,sqt t1,sqt t2,hn,by rw[<- q1.length,<- q2.length];exact hz,fun z=>?_,fun z=>new_tup S (q1.append q2) k⟩
      subst z;cases q2;rw[List.append_nil]at k;exact k _ H ι (.tup t1 q1) S Ext.refl
  ·delta opD at e
   dsimp only at e;have e0:=bind_ok e;clear e;obtain⟨xs,_,e1,e⟩:=e0;have e10:=getL_ok e1;clear e1;obtain⟨g1,rfl⟩:=e10;have e0:=bind_ok e;clear e;obtain⟨ys,_,e1,e⟩:=e0;have e10:=getL_ok e1;clear e1;obtain⟨g2,rfl⟩:=e10;have e0:=bind_ok e;clear e;obtain⟨_,_,e1,e⟩:=e0;have e10:=need_ok e1;clear e1;obtain⟨hn,rfl⟩:=e10;obtain⟨a,vs,rfl,_,h3,h4⟩:=sim_list S r1 g1;obtain⟨b,us,rfl,_,h5,h6⟩:=sim_list S r2 g2;exact op_cat pins s σ H _ _ v u Q I rx ry ⟨a,b,vs,us,rfl,rfl,h3,h5,by rw[<- h4.length,<- h6.length];exact hn,new_list S (h4.append h6) e k⟩
 case Sub =>
  cases dx <;> first | exact(stop_ok e).elim | (cases dy <;> first | exact(stop_ok e).elim | skip)
  ·delta opD at e
   dsimp only at e;have e0:=pure_ok e;clear e;obtain⟨rfl,rfl⟩:=e0;cases r1;cases r2;exact op_sub pins s σ H _ _ v u Q I rx ry ⟨_,_,rfl,rfl,fin rfl (.int _)⟩
 case Mult =>
  cases dx <;> first | exact(stop_ok e).elim | (cases dy <;> first | exact(stop_ok e).elim | skip)
  ·delta opD at e
   dsimp only at e;have e0:=bind_ok e;clear e;obtain⟨_,_,e1,e⟩:=e0;have e10:=need_ok e1;clear e1;obtain⟨hn,rfl⟩:=e10;have e0:=pure_ok e;clear e;obtain⟨rfl,rfl⟩:=e0;cases r1;cases r2;exact op_mul pins s σ H _ _ v u Q I rx ry ⟨_,_,rfl,rfl,hn,fin rfl (.int _)⟩
  ·delta opD at e
   dsimp only at e;have e0:=bind_ok e;clear e;obtain⟨_,_,e1,e⟩:=e0;have e10:=need_ok e1;clear e1;obtain⟨⟨n1,n2,n3,n4⟩,rfl⟩:=e10;have e0:=pure_ok e;clear e;obtain⟨rfl,rfl⟩:=e0;cases r1;cases r2;obtain⟨t,rfl⟩:=rx;obtain⟨t',rfl⟩:=ry;exact mul_str I n1 n2 n3 n4 (fin rfl (.str _))
 case FloorDiv =>
  cases dx <;> first | exact(stop_ok e).elim | (cases dy <;> first | exact(stop_ok e).elim | skip)
  ·delta opD at e
   dsimp only at e;have e0:=bind_ok e;clear e;obtain⟨_,_,e1,e⟩:=e0;have e10:=need_ok e1;clear e1;obtain⟨hn,rfl⟩:=e10;have e0:=pure_ok e;clear e;obtain⟨rfl,rfl⟩:=e0;cases r1;cases r2;exact op_fdiv pins s σ H _ _ v u Q I rx ry ⟨_,_,rfl,rfl,hn,fin rfl (.int _)⟩
 case Mod =>
  cases dx <;> first | exact(stop_ok e).elim | (cases dy <;> first | exact(stop_ok e).elim | skip)
  ·delta opD at e
   dsimp only at e;have e0:=bind_ok e;clear e;obtain⟨_,_,e1,e⟩:=e0;have e10:=need_ok e1;clear e1;obtain⟨hn,rfl⟩:=e10;have e0:=pure_ok e;clear e;obtain⟨rfl,rfl⟩:=e0;cases r1;cases r2;exact op_mod pins s σ H _ _ v u Q I rx ry ⟨_,_,rfl,rfl,hn,fin rfl (.int _)⟩
 case Pow =>
  cases dx <;> first | exact(stop_ok e).elim | (cases dy <;> first | exact(stop_ok e).elim | skip)
  ·delta opD at e
   dsimp only at e;have e0:=bind_ok e;clear e;obtain⟨_,_,e1,e⟩:=e0;have e10:=need_ok e1;clear e1;obtain⟨hn,rfl⟩:=e10;have e0:=pure_ok e;clear e;obtain⟨rfl,rfl⟩:=e0;cases r1;cases r2;exact op_pow pins s σ H _ _ v u Q I rx ry ⟨_,_,rfl,rfl,hn,fin rfl (.int _)⟩
 all_goals exact(stop_ok e).elim
theorem ix_dict (hu:X.A.units + 100 < cLine):IxR X (fun x y H Q=>∃ a v,x=.ref a/\DGet H a y (some v)/\Q v H):=by
 intro value slice pins s σ H x y v u Q I rx ry h hs;obtain⟨a,w',rfl,g,q⟩:=h;obtain rfl:v=Value.ref a:=rx;exact tail_any (dict_typeIs I g) PySem.F.slot_dict_getitem.lookup (d_getItem (by first | lia | omega) I g ry fun w2 s3 I3 rw'=>⟨w',H,I3,rw',q⟩) hs
theorem ix_get (hu:X.A.units + 100 < cLine):IxR X (R2S X.K getIx):=by
 intro value slice pins s σ H x y v u Q I rx ry h hs;obtain⟨ι,M,M',dx,dy,d,S,r1,r2,e,k⟩:=h;have fin:∀ {w':V},M'=M->Rep X.K ι H d w'->Q w' H:=fun {w'} z r=>by subst z;exact k w' H ι r S Ext.refl
 unfold getIx at e;split at e
 ·have e0:=lift_ok e;clear e;obtain⟨e1,rfl⟩:=e0
  cases r2;cases r1 with
  | tup t q =>
   obtain⟨w',h1,h2⟩:=reps_at q e1;exact ix_tup value slice pins s σ H _ _ v u Q I rx ry ⟨_,_,_,w',rfl,rfl,sqt t,h1,fin rfl h2⟩ hs
 ·have e0:=lift_ok e;clear e;obtain⟨e1,rfl⟩:=e0
  cases r2;cases r1 with
  | fl t q =>
   obtain⟨w',h1,h2⟩:=reps_at q e1;exact ix_list value slice pins s σ H _ _ v u Q I rx ry ⟨_,_,_,w',rfl,rfl,t.seq,h1,fin rfl h2⟩ hs
 ·have e0:=bind_ok e;clear e;obtain⟨_,_,e1,e⟩:=e0
  have e10:=need_ok e1;clear e1;obtain⟨hn,rfl⟩:=e10;have e0:=bind_ok e;clear e;obtain⟨c,_,e1,e⟩:=e0;have e10:=lift_ok e1;clear e1;obtain⟨hc,rfl⟩:=e10;have e0:=pure_ok e;clear e;obtain⟨rfl,rfl⟩:=e0;cases r2;cases r1;exact ix_str value slice pins s σ H _ _ v u Q I rx ry ⟨_,_,c,rfl,rfl,hn,hc,fin rfl (.str _)⟩ hs
 ·have e0:=bind_ok e;clear e;obtain⟨o,_,e1,e⟩:=e0
  have e10:=getM_ok e1;clear e1;obtain⟨g,rfl⟩:=e10;cases o with
  | lst ds =>
   dsimp only at e;split at e
   ·have e0:=lift_ok e;clear e;obtain⟨e1,rfl⟩:=e0
    obtain⟨a,vs,rfl,_,h3,h4⟩:=sim_list S r1 g;cases r2;obtain⟨w',h1,h2⟩:=reps_at h4 e1;exact ix_list value slice pins s σ H _ _ v u Q I rx ry ⟨_,_,_,w',rfl,rfl,SqL.of h3,h1,fin rfl h2⟩ hs
   ·exact(stop_ok e).elim
  | dic kvs =>
   have e0:=bind_ok e;clear e;obtain⟨q,_,e1,e⟩:=e0;have e10:=lift_ok e1;clear e1;obtain⟨hk,rfl⟩:=e10;have e0:=lift_ok e;clear e;obtain⟨e1,rfl⟩:=e0;obtain⟨a,ws,rfl,_,h3,h4⟩:=sim_dict S r1 g;have hy:=key_rep r2 hk;subst hy;rcases h4.find q with ⟨z1,z2⟩|⟨d',w',z1,z2,z3⟩
   ·rw[z1]at e1;cases e1
   ·rw[z1]at e1;cases e1
    have g2:DGet H a (kV q) (some w'):=z2 ▸ DGet.k (k:=q) h3;exact ix_dict hu value slice pins s σ H _ _ v u Q I rx ry ⟨a,w',rfl,g2,fin rfl z3⟩ hs
 ·exact(stop_ok e).elim
noncomputable def RSet (K:PySem.W.Frag):TSet:=fun o i v H Q=>∃ ι M M' x y z u,Sim K ι M H/\Rep K ι H x o/\Rep K ι H y i/\Rep K ι H z v/\setIx x y z M=some (.ok u,M') /\
 ∀ H',Sim K ι M' H'->Ext K ι H ι H'->Q H'
theorem set_ix (hu:X.A.units + 100 < cLine):PSet X (RSet X.K):=by
 intro pins s σ H o i v ov iv u Q I ro ri rv h;obtain⟨ι,M,M',x,y,z,w',S,r1,r2,r3,e,k⟩:=h;unfold setIx at e;split at e
 ·have e0:=bind_ok e;clear e;obtain⟨ob,_,e1,e⟩:=e0
  have e10:=getM_ok e1;clear e1;obtain⟨g,rfl⟩:=e10;cases ob with
  | lst ds =>
   dsimp only at e;split at e
   ·have e0:=bind_ok e;clear e;obtain⟨j,_,e1,e⟩:=e0
    have e10:=lift_ok e1;clear e1;obtain⟨hj,rfl⟩:=e10;have e0:=putM_ok e;clear e;obtain⟨_,rfl⟩:=e0;obtain⟨a,vs,rfl,hi,h3,h4⟩:=sim_list S r1 g;cases r2;refine set_list pins s σ H _ _ v ov iv u Q I ro ri rv ⟨a,vs,_,j,rfl,rfl,h3,by rw[<- h4.length];exact hj,?_⟩;have x:Ext X.K ι H ι (upd H a (.lst (vs.set j v))):=Ext.write h3 (mut_l _);exact k _ (S.put hi ⟨_,rfl,(h4.mono x).set (r3.mono x) j⟩) x
   ·exact(stop_ok e).elim
  | dic kvs =>
   have e0:=bind_ok e;clear e;obtain⟨q,_,e1,e⟩:=e0;have e10:=lift_ok e1;clear e1;obtain⟨hk,rfl⟩:=e10;have e0:=bind_ok e;clear e;obtain⟨_,_,e1,e⟩:=e0;have e10:=need_ok e1;clear e1;obtain⟨hn,rfl⟩:=e10;have e0:=putM_ok e;clear e;obtain⟨_,rfl⟩:=e0;obtain⟨a,ws,rfl,hi,h3,h4⟩:=sim_dict S r1 g;have hy:=key_rep r2 hk;subst hy;obtain rfl:ov=Value.ref a:=ro;have x:Ext X.K ι H ι (upd H a (.dK (putK ws q v))):=Ext.write h3 (mut_d _);refine d_setItem (by first | lia | omega) I (DPut.k (k:=q) h3 (by rw[<- h4.len];exact hn)) ri rv fun s4 I4=>⟨_,I4,?_⟩
   exact k _ (S.put hi ⟨_,rfl,(h4.mono x).put q (r3.mono x)⟩) x
 ·exact(stop_ok e).elim
end
end L3
namespace L3
open PySem PySem.Spec PyProof.Rows L2
end L3
namespace L3
open PySem PySem.Spec PyProof.Rows L2
section
variable {prog:Program}{w:World}{K:Type}[DecidableEq K]{knd:PySem.KeyKind prog w K}{A:Around}{E:Value->Shared->Prop}
end
end L3
namespace L3
open PySem PySem.Spec PyProof.Rows L2
section
variable {prog:Program}{w:World}{A:Around}{E:Value->Shared->Prop}{s:Shared}
theorem getItem_tuple_whole {t sl:Addr}{items:Array Value}{vl vu:Value}{lo hi:Option Int}{Q:Value->Shared->Prop}(ht:IsTup s.heap t items)(hs:s.heap.IsSliceOf sl vl vu .none)(pl:IsPart vl lo)(pu:IsPart vu hi)
  (hw:HT.sIx items.size 0 lo=0/\HT.sIx items.size items.size hi=items.size) (h:Q (.ref t) s):wpAny (model prog w) A (getItem (.ref t) (.ref sl)) Q E s:=by
 obtain⟨os,hos,hcs,hds⟩:=id hs;have hTs:s.TypeIs (.ref sl) "slice":=⟨os,hos,hcs⟩;unfold getItem
 try with_reducible refine wpAny_holding ?_
 first | refine wpAny_bind (wpAny_pure ?_) | skip
 refine wpAny_bind (wpAny_sequenceKey ht.typeIs (by decide) ?_);refine wpAny_bind (wpAny_callSpecial?_slot (name:=Str.ofString "__getitem__") ht.typeIs PyProof.Rows.slot_tuple_getitem
  (wpAny_call_entry PyProof.Rows.slot_tuple_getitem ht.typeIs entry_tuple_getitem ?_ (args_tuple_getitem _ _)))
 show wpAny _ _ (Builtin.Tuple.tupleItemsOf (.ref t) >>= _) _ _ s;refine wpAny_bind (tupleItemsOf_ ht ?_);refine wpAny_bind (wpAny_typeOf hTs ?_);rw[if_pos (by decide)];refine wpAny_bind (HT.sliceApplied_gen hs pl pu ?_);have hyes:(((HT.sIx items.size 0 lo:Nat):Int)==0&&(1:Int)==1&&(HT.sIx items.size items.size hi - HT.sIx items.size 0 lo)==items.size)=true:=by
  rw[hw.1,hw.2];simp
 show wpAny _ _ (if (((HT.sIx items.size 0 lo:Nat):Int)==0&&(1:Int)==1&&(HT.sIx items.size items.size hi - HT.sIx items.size 0 lo)==items.size)=true then _ else _) _ _ s;rw[if_pos hyes];refine wpAny_bind ?_;refine wpAny_bind (wpAny_typeOf ht.typeIs ?_);refine wpAny_pure ?_;rw[if_pos (by decide)];refine wpAny_bind (wpAny_rule ?_)
 first
  | exact wpAny_bind (wpAny_pure (wpAny_pure ⟨_,rfl,wpAny_pure h⟩))
  | exact wpAny_pure ⟨_,rfl,wpAny_pure h⟩
  | exact wpAny_bind (wpAny_pure ⟨_,rfl,wpAny_pure h⟩)
end
section
variable {X:Cx}
noncomputable def MFact (T:String)(name:Str)(id:String):Prop:=PlainAttrs T/\Slot T name id/\typeOf (.builtin id)=pure (.type "method_descriptor")
noncomputable def RcvIs (X:Cx)(T:String)(x:V)(H:Hp):Prop:=∀ (pins:List (Addr×Obj)) (σ:St) (s:Shared) (v:Value),Inv X pins σ H s->RelV x v->s.TypeIs v T/\∀ a,v=.ref a->∃ ob,s.heap.get? a=some ob/\ob.dict=none
noncomputable def tBMx (X:Cx)(name:Str)(r:String->V->List V->Hp->VK->Prop)(to:TE)(t:TA):TE:=fun σ H Q=>to σ H fun x H1=>∃ T id,MFact T name id/\RcvIs X T x H1/\t σ H1 fun xs H2=>r id x xs H2 Q
theorem pe_bmx {name:Str}{r:String->V->List V->Hp->VK->Prop}{o e:Expr}{es:List Expr}{to:TE}{t:TA}{apos cpos:Pos}(hm:∀ id,MtR X id (r id))(ho:PE X o to)(ha:PA X (e::es) t)
  (hbase:attributeBase o name X.env (eval o X.env)=eval o X.env)
  (hfew:((backTo cpos (starEach (e::es) X.env)).all (fun x=>!x.1)&&(backToKw cpos (keywordEach [] X.env)).all (fun x=>x.1.isSome)
  &&decide ((e::es).length + ([]:List Keyword).length + (if ([]:List Keyword).isEmpty then 0 else 1) < 30))=true)
  (hline:(apos.endLine==cpos.line)=true) (hs:starEach (e::es) X.env=(false,eval e X.env)::starEach es X.env) (hplain:(backTo cpos (starEach es X.env)).any (·.1)=false) :
  PE X (.Call (.Attribute o name apos) (e::es) [] cpos) (tBMx X name r to t):=by
 intro pins s σ H Q I h;refine wpAny_Call_method_late hbase hfew hline rfl (thn (ho pins s σ H _ I h) fun v s1 ⟨x,H1,I1,r1,T,id,⟨pa,slot,hty⟩,ty,q1⟩=>?_);obtain⟨h1,h2⟩:=ty pins σ s1 v I1 r1;refine⟨T,id,pa,slot,hty,h1,h2,?_⟩;have hA:=ha cpos pins s1 σ H1 _ I1 q1;rw[hs]at hA ⊢;refine Calls.callWith_builtin (by show (false||(backTo cpos (starEach es X.env)).any (·.1))=false;rw[hplain] <;> rfl) (Calls.evalArgs_plain ?_);exact thn hA fun us s2 ⟨vs,H2,I2,r2,q2⟩=>hm id pins s2 σ H2 x vs v us Q I2 r1 r2 q2
theorem rcv_list {a:Addr}{xs:List V}{H:Hp}(h:SqL X.K H a xs):RcvIs X "list" (.ref a) H:=fun pins σ s v I r=>tyV_is I r (.inl ⟨rfl,xs,h⟩)
theorem rcv_str {y:Str}{H:Hp}:RcvIs X "str" (.str y) H:=fun pins σ s v I r=>tyV_is (X:=X) I r rfl
theorem reps1 {K:PySem.W.Frag}{ι:List Addr}{H:Hp}{d:D}{vs:List V}(r:Reps K ι H [d] vs):∃ v,vs=[v]/\Rep K ι H d v:=by
 cases r with | cons r1 r2=>cases r2;exact⟨_,rfl,r1⟩
theorem put_list {K:PySem.W.Frag}{ι:List Addr}{M M':MH}{H:Hp}{k:Nat}{a:Addr}{ds es:List D}{vs ws:List V}{u:Unit}(S:Sim K ι M H)(hi:ι[k]?=some a)(ha:H a=some (.lst vs))(r:Reps K ι H es ws)(e:putM k (.lst es) M=some (.ok u,M')) :
  Sim K ι M' (upd H a (.lst ws))/\Ext K ι H ι (upd H a (.lst ws)):=by
 have e0:=putM_ok e;clear e;obtain⟨_,rfl⟩:=e0;have x:Ext K ι H ι (upd H a (.lst ws)):=Ext.write ha (mut_l _);exact⟨S.put hi ⟨_,rfl,r.mono x⟩,x⟩
theorem glued_eq (t:Str)(ys:List Str):Builtin.Str.glued t ys=joinS t ys:=by
 have gen:∀ (ys:List Str) (acc:Array Nat),(ys.foldl (fun acc p=>acc++t.cps++p.cps) acc).toList=acc.toList++(ys.map fun p=>t.cps.toList++p.cps.toList).flatten:=by
  intro ys;induction ys with
  | nil=>intro acc;simp
  | cons y r ih =>
   intro acc;rw[List.foldl_cons,ih];simp
 have gl:∀ (y:Str) (r:List Str),glue t.cps.toList ((y::r).map (·.cps.toList))=y.cps.toList++(r.map fun p=>t.cps.toList++p.cps.toList).flatten:=by
  intro y r;induction r generalizing y with
  | nil=>simp[glue]
  | cons z r ih =>
   show y.cps.toList++t.cps.toList++glue t.cps.toList ((z::r).map (·.cps.toList))=_;rw[ih];simp
 unfold Builtin.Str.glued joinS;congr 1;apply Array.toList_inj.mp;cases ys with
 | nil=>rfl
 | cons y r =>
  rw[gl];simp only[List.drop_succ_cons,List.drop_zero,List.headD_cons];rw[gen]
noncomputable def rJoin (K:PySem.W.Frag):V->List V->Hp->VK->Prop:=fun x vs H Q=>∃ t l ys,x=.str t/\vs=[.ref l]/\SqL K H l (ys.map V.str)/\(ys.map (·.length)).sum + ys.length * t.length<=16777216/\Q (.str (joinS t ys)) H
theorem strs_are:∀ {ys:List Str} {us:List Value},Vals (ys.map V.str) us->StrsAre us ys
 | [],_,.nil=>.nil
 | y::ys,_,.cons ⟨t,e⟩ r=>by subst e;exact .cons y t (strs_are r)
noncomputable def rSplit:V->List V->Hp->VK->Prop:=fun x vs H Q=>∃ a b,x=.str a/\vs=[.str b]/\(0 < b.length/\a.length<=sizeLine/\(splitS a b).length<=sizeLine)/\∀ p,H p=none->Q (.ref p) (upd H p (.lst ((splitS a b).map V.str)))
theorem vals_from:∀ (k:Nat) (xs:List Str),Vals (xs.map V.str) (strsFrom k xs)
 | _,[]=>.nil
 | k,_::r=>.cons ⟨k,rfl⟩ (vals_from (k + 1) r)
theorem mt_split:MtR X "str.split" rSplit:=by
 intro pins s σ H x vs v us Q I rx rv h;obtain⟨a,b,rfl,rfl,⟨hb,hz,hn⟩,q⟩:=h;obtain⟨tk,rfl⟩:=rx;obtain⟨u,rfl,ru⟩:=rv.one;obtain⟨t2,rfl⟩:=ru;have hy:(b.length==0)=false:=beq_eq_false_iff_ne.mpr (Nat.ne_of_gt hb);have one:splitS a b=[a]->EP X pins σ Q (.ref s.heap.objs.size) { s with heap:=s.heap.push { cls:=.type "list",data:=.seq [Value.str a tk].toArray } }:=fun e=>by
  rw[e]at q;have hv:Vals [V.str a] [Value.str a tk]:=.cons ⟨tk,rfl⟩ .nil;exact⟨.ref s.heap.objs.size,_,I.lnew (t':=s.toks) hv (by show 1<=sizeLine;decide),rfl,q _ I.fresh⟩
 by_cases h1:(decide (a.length < b.length)||decide (Builtin.Str.strKind a < Builtin.Str.strKind b))=true
 ·have e:splitS a b=[a]:=by unfold splitS;rw[if_pos h1]
  exact call_meets PySem.F.slot_str_split (typeIs_str _ _ _) PySem.F.entry_str_split (PySem.F.args_str_split_2 _ _) (meets_str_split_cannot_occur a b tk t2 h1) (one e)
 ·by_cases h2:(Builtin.Str.occurrences a b 0 a.length (a.length + 1)).isEmpty=true
  ·have e:splitS a b=[a]:=by unfold splitS;rw[if_neg h1,if_pos h2]
   exact call_meets PySem.F.slot_str_split (typeIs_str _ _ _) PySem.F.entry_str_split (PySem.F.args_str_split_2 _ _) (meets_str_split_not_found a b tk t2 (Bool.eq_false_iff.mpr h1) hy h2) (one e)
  ·have e:splitS a b=Builtin.Str.partsBetween a (Builtin.Str.occurrences a b 0 a.length (a.length + 1)) b.length:=by unfold splitS;rw[if_neg h1,if_neg h2]
   rw[e]at q hn;exact call_meets PySem.F.slot_str_split (typeIs_str _ _ _) PySem.F.entry_str_split (PySem.F.args_str_split_2 _ _) (meets_str_split_sep a b tk t2 (Bool.eq_false_iff.mpr h1) hy (Bool.eq_false_iff.mpr h2) hz hn)
    ⟨.ref s.heap.objs.size,_,I.lnew (vals_from _ _) (by rw[List.length_map];exact hn),rfl,q _ I.fresh⟩
noncomputable def rPart:V->List V->Hp->VK->Prop:=fun x vs H Q=>∃ a b,x=.str a/\vs=[.str b]/\(0 < b.length/\a.length<=sizeLine)/\∀ p,H p=none->Q (.ref p) (upd H p (.tup ((partS a b).map V.str)))
theorem mt_partition:MtR X "str.partition" rPart:=by
 intro pins s σ H x vs v us Q I rx rv h;obtain⟨a,b,rfl,rfl,⟨hb,hz⟩,q⟩:=h;obtain⟨tk,rfl⟩:=rx;obtain⟨u,rfl,ru⟩:=rv.one;obtain⟨t2,rfl⟩:=ru;have hy:(b.length==0)=false:=beq_eq_false_iff_ne.mpr (Nat.ne_of_gt hb);refine call_meets PySem.F.slot_str_partition (typeIs_str _ _ _) PySem.F.entry_str_partition (PySem.F.args_str_partition_2 _ _) (meets_str_partition a b tk t2 hy hz) ?_;unfold partS at q;revert q;cases Builtin.Str.occurrences a b 0 a.length 1 with
 | nil=>exact fun q=>⟨.ref s.heap.objs.size,_,I.laid (o:=.tup ([a,Str.empty,Str.empty].map V.str)) (fun b ob q=>Heap.get?_push_of_some _ q) (Nat.le_refl _) ⟨by show 3<=sizeLine;decide,_,.cons ⟨_,rfl⟩ (.cons ⟨_,rfl⟩ (.cons ⟨_,rfl⟩ .nil)),TupN.new _ _⟩,rfl,q _ I.fresh⟩
 | cons i r=>exact fun q=>⟨.ref s.heap.objs.size,_,I.laid (o:=.tup ([Builtin.Str.strSub a 0 i,b,Builtin.Str.strSub a (i + b.length) a.length].map V.str)) (fun b ob q=>Heap.get?_push_of_some _ q) (Nat.le_refl _) ⟨by show 3<=sizeLine;decide,_,.cons ⟨_,rfl⟩ (.cons ⟨_,rfl⟩ (.cons ⟨_,rfl⟩ .nil)),TupN.new _ _⟩,rfl,q _ I.fresh⟩
theorem mt_join:MtR X "str.join" (rJoin X.K):=by
 intro pins s σ H x vs v us Q I rx rv h;obtain⟨t,l,ys,rfl,rfl,hs,hz,q⟩:=h;obtain⟨tk,rfl⟩:=rx;obtain⟨u,rfl,ru⟩:=rv.one;cases ru;obtain⟨its,r,p,_⟩:=I.list hs;refine PyProof.Rows.join_list p.isList (strs_are (by simpa using r)) hz fun t' k=>?_;have e:PySem.Txt.join t ys=joinS t ys:=glued_eq t ys;rw[e];exact⟨.str _,H,I.tok _,⟨t',rfl⟩,q⟩
noncomputable def rJoinT (K:PySem.W.Frag):V->List V->Hp->VK->Prop:=fun x vs H Q=>∃ t l ys,x=.str t/\vs=[.ref l]/\SqT K H l (ys.map V.str)/\(ys.map (·.length)).sum + ys.length * t.length<=16777216/\Q (.str (joinS t ys)) H
theorem mt_joinT:MtR X "str.join" (rJoinT X.K):=by
 intro pins s σ H x vs v us Q I rx rv h;obtain⟨t,l,ys,rfl,rfl,hs,hz,q⟩:=h;obtain⟨tk,rfl⟩:=rx;obtain⟨u,rfl,ru⟩:=rv.one;cases ru;obtain⟨its,r,p,_⟩:=I.tuple hs;refine PyProof.Rows.join_tuple p (strs_are (by simpa using r)) hz fun t' k=>?_;have e:PySem.Txt.join t ys=joinS t ys:=glued_eq t ys;rw[e];exact⟨.str _,H,I.tok _,⟨t',rfl⟩,q⟩
end
end L3
namespace L3
open PySem PySem.Spec PyProof.Rows L2
theorem cutV_eq (xs:List V)(lo hi:Option Int):cutV xs lo hi=cutD xs lo hi:=rfl
theorem reps_cut {K:PySem.W.Frag}{ι:List Addr}{H:Hp}{ds:List D}{vs:List V}(r:Reps K ι H ds vs)(lo hi:Option Int):Reps K ι H (cutD ds lo hi) (cutD vs lo hi):=by
 unfold cutD;rw[<- r.length];exact(r.drop _).take _
theorem cut_whole {α:Type}{xs:List α}{lo hi:Option Int}(h:(cutD xs lo hi).length=xs.length):cutD xs lo hi=xs:=by
 unfold cutD at h ⊢;rw[List.length_take,List.length_drop]at h;have h1:cutIx xs.length 0 lo=0\/xs.length=0:=by first | lia | omega
 rcases h1 with h1 | h1
 ·rw[h1]at h ⊢
  rw[List.drop_zero,List.take_of_length_le (by first | lia | omega)]
 ·have e:xs=[]:=List.length_eq_zero_iff.mp h1
  subst e;simp
section
variable {X:Cx}
theorem slice_txt (x:Str)(lo hi:Option Int):Txt.slice x lo hi=⟨(cutD x.cps.toList lo hi).toArray⟩:=by
 have ext:∀ (a b:Str),a.cps.toList=b.cps.toList->a=b:=fun a b h=>by
  cases a;cases b;simp only at h;congr 1;exact Array.toList_inj.mp h
 have lenx:x.length=x.cps.toList.length:=by simp[Str.length]
 have key:∀ (i j n:Nat),i<=n->j<=n->Builtin.Str.strSliceIndices lo hi 1 n=sliceRange (i:Int) (j:Int) 1->((Builtin.Str.strSliceIndices lo hi 1 n).filterMap (x.cps[·]?))=((x.cps.toList.drop i).take (j - i))\/n≠x.length:=by
  intro i j n hi' hj e;by_cases hn:n=x.length
  ·left
   rw[e];unfold sliceRange;simp only[show (1:Int) > 0 by decide,if_true];have hc:(if (i:Int) < (j:Int) then ((j:Int) - (i:Int) + 1 - 1) / 1 else 0).toNat=j - i:=by split <;> omega
   rw[hc,List.filterMap_map];have hf:((fun k=>x.cps[k]?) ∘ fun (k:Nat)=>((i:Int) + 1 * (k:Int)).toNat)=fun k:Nat=>x.cps.toList[i + k]?:=by
    funext k;simp only[Function.comp]
    have:((i:Int) + 1 * (k:Int)).toNat=i + k:=by first | lia | omega
    rw[this];simp
   rw[hf];have hlen:j<=x.cps.toList.length:=by rw[<- lenx,<- hn];exact hj
   clear e hc hf;have gen:∀ (m:Nat) (l:List Nat),m<=l.length->(List.range m).filterMap (fun k=>l[k]?)=l.take m:=by
    intro m;induction m with
    | zero=>intro l _;rfl
    | succ m ih =>
     intro l hl;cases l with
     | nil=>simp at hl
     | cons a r =>
      rw[List.range_succ_eq_map,List.filterMap_cons];simp only[List.getElem?_cons_zero,List.take_succ_cons,List.filterMap_map];congr 1;rw[<- ih r (by simpa using hl)];rfl
   have hdrop:∀ k:Nat,x.cps.toList[i + k]?=(x.cps.toList.drop i)[k]?:=fun k=>by rw[List.getElem?_drop]
   simp only[hdrop];exact gen (j - i) (x.cps.toList.drop i) (by rw[List.length_drop];omega)
  ·exact .inr hn
 have hbnd:∀ (o:Option Int) (d n:Nat),d<=n->cutIx n d o<=n:=fun o d n hd=>by
  cases o with
  | none=>exact hd
  | some v=>simp only[cutIx];split <;> omega
 have hidx:Builtin.Str.strSliceIndices lo hi 1 x.length=sliceRange ((cutIx x.length 0 lo:Nat):Int) ((cutIx x.length x.length hi:Nat):Int) 1:=by
  unfold Builtin.Str.strSliceIndices;have c:∀ (o:Option Int) (d:Nat),(match o with
    | none=>(d:Int)
    | some i=>max 0 (min (if i < 0 then i + (x.length:Int) else i) (x.length:Int)))=((cutIx x.length d o:Nat):Int):=fun o d=>by
   cases o with
   | none=>rfl
   | some v=>simp only[cutIx];split <;> omega
  have c1:=c lo 0;have c2:=c hi x.length;simp only[show (1:Int) > 0 by decide,if_true]at c1 c2 ⊢;rw[<- c1,<- c2];cases lo <;> cases hi <;> rfl
 have hk:=key _ _ _ (hbnd lo 0 x.length (Nat.zero_le _)) (hbnd hi x.length x.length (Nat.le_refl _)) hidx;rcases hk with hk | hk
 ·have hcut:((Builtin.Str.strSliceIndices lo hi 1 x.length).filterMap (x.cps[·]?))=cutD x.cps.toList lo hi:=by
   rw[hk];unfold cutD;rw[<- lenx]
  have hlen:(Builtin.Str.strSliceIndices lo hi 1 x.length).length=(cutD x.cps.toList lo hi).length:=by
   rw[hidx];unfold sliceRange cutD;rw[<- lenx,List.length_take,List.length_drop,<- lenx];simp only[show (1:Int) > 0 by decide,if_true,List.length_map,List.length_range];have b1:=hbnd lo 0 x.length (Nat.zero_le _);have b2:=hbnd hi x.length x.length (Nat.le_refl _);split <;> omega
  unfold Txt.slice;split
  ·rename_i hw
   apply ext;show x.cps.toList=cutD x.cps.toList lo hi;symm;apply cut_whole;rw[<- hlen];simp at hw;rw[hw,lenx]
  ·rw[hcut]
 ·exact absurd rfl hk
theorem sl_str:SlR X (fun x lo hi H Q=>∃ y,x=.str y/\y.length<=sizeLine/\Q (.str ⟨(cutD y.cps.toList lo hi).toArray⟩) H):=by
 intro pins s σ H x v vl vu lo hi sl Q I rx hs pl pu h;obtain⟨y,rfl,hy,q⟩:=h;obtain⟨t,rfl⟩:=rx;refine⟨"str",_,PySem.F.slot_str_getitem.lookup,typeIs_str _ _ _,?_⟩;have part:∀ {u:Value} {o:Option Int},IsPart u o->∃ p:Option (Int×Tok),partValue p=u/\p.map (·.1)=o:=fun {u o} z=>by
  cases z
  ·exact⟨none,rfl,rfl⟩
  ·exact⟨some (_,_),rfl,rfl⟩
 obtain⟨l,e1,e2⟩:=part pl;obtain⟨r,e3,e4⟩:=part pu;have hs':s.heap.IsSlice sl l r none:=by
  obtain⟨o,h1,h2,h3⟩:=hs;exact⟨o,h1,h2,by rw[h3,<- e1,<- e3];rfl⟩
 refine wpAny_getItem_str_slice hs' rfl ?_;have e:(if (((none:Option (Int×Tok)).map (·.1)).getD 1==1&&(slicePicked y l r none).length==y.length)=true then y else ⟨((slicePicked y l r none).filterMap (y.cps[·]?)).toArray⟩)=Txt.slice y lo hi:=by
  unfold slicePicked Txt.slice;rw[e2,e4];rfl
 refine post_val_or_str ?_;rw[e];refine⟨Nat.le_trans (Txt.slice_le y _ _) hy,fun t' k=>?_⟩;rw[slice_txt];exact⟨.str _,H,I.tok _,⟨t',rfl⟩,q⟩
noncomputable def RSl (K:PySem.W.Frag):V->Option Int->Option Int->Hp->VK->Prop:=fun x lo hi H Q=>∃ ι M M' dx d,Sim K ι M H/\Rep K ι H dx x/\sliceD dx lo hi M=some (.ok d,M') /\
 ∀ v H' ι',Rep K ι' H' d v->Sim K ι' M' H'->Ext K ι H ι' H'->Q v H'
theorem sl_all:SlR X (RSl X.K):=by
 intro pins s σ H x v vl vu lo hi sl Q I rx hs pl pu h;obtain⟨ι,M,M',dx,d,S,r,e,k⟩:=h;cases r with
 | str y =>
  have e0:=bind_ok e;clear e;obtain⟨_,_,e1,e⟩:=e0;have e10:=need_ok e1;clear e1;obtain⟨hn,rfl⟩:=e10;have e0:=pure_ok e;clear e;obtain⟨rfl,rfl⟩:=e0;exact sl_str pins s σ H _ v vl vu lo hi sl Q I rx hs pl pu ⟨y,rfl,hn,k _ H ι (.str _) S Ext.refl⟩
 | ob t =>
  have e0:=bind_ok e;clear e;obtain⟨ds,_,e1,e⟩:=e0;have e10:=getL_ok e1;clear e1;obtain⟨g,rfl⟩:=e10;obtain⟨a,vs,h1,_,h3,h4⟩:=sim_list S (.ob t) g;cases h1;exact sl_list pins s σ H _ v vl vu lo hi sl Q I rx hs pl pu ⟨_,vs,rfl,SqL.of h3,new_list S (reps_cut h4 lo hi) e k⟩
 | fl t q=>exact sl_list pins s σ H _ v vl vu lo hi sl Q I rx hs pl pu ⟨_,_,rfl,t.seq,new_list S (reps_cut q lo hi) e k⟩
 | tup t q =>
  have e0:=pure_ok e;clear e;obtain⟨rfl,rfl⟩:=e0;rename_i a vs ds;by_cases hn:cutIx ds.length 0 lo=0/\cutIx ds.length ds.length hi=ds.length
  ·cases rx
   obtain⟨its,r,ht,hz⟩:=I.tuple (sqt t);have hlen:its.toArray.size=ds.length:=by rw[List.size_toArray,<- r.length,q.length]
   refine⟨"tuple",_,PyProof.Rows.slot_tuple_getitem.lookup,ht.typeIs,getItem_tuple_whole ht hs pl pu (by rw[hlen];exact hn) ⟨.ref a,H,I,rfl,?_⟩⟩;have e:cutD ds lo hi=ds:=cut_whole (by
    unfold cutD;rw[hn.1,hn.2,List.drop_zero,Nat.sub_zero,List.take_length])
   rw[e]at k;exact k _ H ι (.tup t q) S Ext.refl
  ·exact sl_tup pins s σ H _ v vl vu lo hi sl Q I rx hs pl pu ⟨_,_,rfl,sqt t,by rw[<- q.length];exact hn,new_tup S (reps_cut q lo hi) k⟩
 | _=>exact(stop_ok e).elim
theorem tru_all:TruR X (fun x H Q=>∃ ι M M' d b,Sim X.K ι M H/\Rep X.K ι H d x/\truD d M=some (.ok b,M')/\(M'=M->Q b H)):=by
 intro pins s σ H x v Q I rx h;obtain⟨ι,M,M',d,b,S,r,e,k⟩:=h;refine tru_ok pins s σ H x v Q I rx ?_;cases r with
 | non=>have e0:=pure_ok e;clear e;obtain⟨rfl,rfl⟩:=e0;exact⟨_,rfl,k rfl⟩
 | bl c=>have e0:=pure_ok e;clear e;obtain⟨rfl,rfl⟩:=e0;exact⟨_,rfl,k rfl⟩
 | int i=>have e0:=pure_ok e;clear e;obtain⟨rfl,rfl⟩:=e0;exact⟨_,rfl,k rfl⟩
 | str y =>
  have e0:=bind_ok e;clear e;obtain⟨_,_,e1,e⟩:=e0;have e10:=need_ok e1;clear e1;obtain⟨hn,rfl⟩:=e10;have e0:=pure_ok e;clear e;obtain⟨rfl,rfl⟩:=e0;exact⟨_,⟨hn,rfl⟩,k rfl⟩
 | tup t q =>
  have e0:=pure_ok e;clear e;obtain⟨rfl,rfl⟩:=e0;refine⟨_,.inr (.inl ⟨_,sqt t,rfl⟩),?_⟩;cases q <;> exact k rfl
 | fl t q =>
  have e0:=pure_ok e;clear e;obtain⟨rfl,rfl⟩:=e0;refine⟨_,.inl ⟨_,t.seq,rfl⟩,?_⟩;cases q <;> exact k rfl
 | ob t =>
  have e0:=bind_ok e;clear e;obtain⟨o,_,e1,e⟩:=e0;have e10:=getM_ok e1;clear e1;obtain⟨g,rfl⟩:=e10;cases o with
  | lst ds =>
   have e0:=pure_ok e;clear e;obtain⟨rfl,rfl⟩:=e0;obtain⟨a,vs,h1,_,h3,h4⟩:=sim_list S (.ob t) g;cases h1;refine⟨_,.inl ⟨_,SqL.of h3,rfl⟩,?_⟩;cases h4 <;> exact k rfl
  | dic kvs =>
   have e0:=pure_ok e;clear e;obtain⟨rfl,rfl⟩:=e0;obtain⟨a,vs,h1,_,h3,h4⟩:=sim_dict S (.ob t) g;cases h1;refine⟨_,.inr (.inr ⟨_,h3,rfl⟩),?_⟩;cases h4 <;> exact k rfl
noncomputable def RLS (K:PySem.W.Frag)(g:List D->Mo D):List V->Hp->VK->Prop:=fun xs H Q=>∃ ι M M' ds d,Sim K ι M H/\Reps K ι H ds xs/\g ds M=some (.ok d,M') /\
 ∀ v H' ι',Rep K ι' H' d v->Sim K ι' M' H'->Ext K ι H ι' H'->Q v H'
theorem bools_of {K:PySem.W.Frag}{ι:List Addr}{H:Hp}:∀ {ds:List D} {vs:List V} {bs:List Bool},Reps K ι H ds vs->ds.mapM boolD=some bs->vs=bs.map V.bl
 | _,_,_,.nil,h=>by simp at h;subst h;rfl
 | _,_,_,.cons (d:=d) r t,h=>by
  rw[List.mapM_cons]at h;simp only[Option.bind_eq_bind,Option.bind_eq_some_iff,Option.pure_def,Option.some.injEq]at h;obtain⟨b,hb,bs',hbs,rfl⟩:=h;rw[bools_of t hbs];cases r <;> simp[boolD]at hb;subst hb;rfl
theorem all_range (bs:List Bool):((List.range bs.length).all fun i=>bs.getD i false)=bs.all id:=by
 rw[Bool.eq_iff_iff];simp only[List.all_eq_true,List.mem_range];constructor
 ·intro h b hb
  obtain⟨i,hi,rfl⟩:=List.getElem_of_mem hb
  have:=h i hi
  rw[List.getD_eq_getElem?_getD,List.getElem?_eq_getElem hi]at this;exact this
 ·intro h i hi
  rw[List.getD_eq_getElem?_getD,List.getElem?_eq_getElem hi];exact h _ (List.getElem_mem hi)
theorem any_range (bs:List Bool):((List.range bs.length).any fun i=>bs.getD i false)=bs.any id:=by
 rw[Bool.eq_iff_iff];simp only[List.any_eq_true,List.mem_range];constructor
 ·rintro ⟨i,hi,h⟩
  rw[List.getD_eq_getElem?_getD,List.getElem?_eq_getElem hi]at h;exact⟨_,List.getElem_mem hi,h⟩
 ·rintro ⟨b,hb,h⟩
  obtain⟨i,hi,rfl⟩:=List.getElem_of_mem hb;refine⟨i,hi,?_⟩;rw[List.getD_eq_getElem?_getD,List.getElem?_eq_getElem hi];exact h
theorem bools_walk (hc:X.calm=true){pins:List (Addr×Obj)}{s:Shared}{σ:St}{H:Hp}{a:Addr}{bs:List Bool}{Q:Value->Shared->Prop}(f:Nat->(Nat->Bool)->Bool)(I:Inv X pins σ H s)(h:H a=some (.lst (bs.map V.bl)))
  (q:∀ s',Inv X pins σ H s'->Q (.bool (f bs.length fun i=>bs.getD i false)) s') :
  wpAny (model X.prog X.w) X.A.in1 (pyIter (.ref a)) (fun it s₂=>∃ I fp wr n P St tr,it=.ref I/\Walks X.prog X.w X.A.in1 I fp wr n P St/\St 0 s₂.heap/\TruthOf X.prog X.w X.A.in1 P tr /\
   ∀ h' tk,(∀ b o,b ∉ wr->s₂.heap.get? b=some o->h'.get? b=some o)->Q (.bool (f n tr)) { s₂ with heap:=h',toks:=tk }) X.xe s:=by
 obtain⟨its,rv,p,hz⟩:=I.list (SqL.of h);have hlt:a < s.heap.objs.size:=by obtain⟨_,_,e,_⟩:=p;exact Heap.lt_size e
 have hlen:its.toArray.size=bs.length:=by have:=rv.length;simp at this ⊢;omega
 refine wpAny_pyIter_list p.isList ?_;have hh:X.A.in1.handled=none:=I.ok.hd hc;refine⟨s.heap.objs.size,_,_,_,_,_,fun i=>bs.getD i false,rfl,Walks.list hh s.heap.objs.size a (Nat.ne_of_lt hlt) its.toArray,⟨⟨_,Heap.get?_push_size _ rfl,rfl,rfl⟩,p.isList.push _⟩,?_,fun h' tk kk=>?_⟩
 ·intro i v s' Q' E' hv hq
  have hv':its[i]?=some v:=by simpa using hv
  have hi:i < bs.length:=by
   have:=(List.getElem?_eq_some_iff.mp hv').1
   rw[<- hlen];simpa using this
  have hb:(bs.map V.bl)[i]?=some (V.bl bs[i]):=by rw[List.getElem?_map,List.getElem?_eq_getElem hi];rfl
  obtain⟨u,hu,ru⟩:=rv.get hb;rw[hv']at hu;cases hu;cases ru;refine wpAny_truthy_bool ?_;have hq':Q' (bs.getD i false) s':=hq;rw[List.getD_eq_getElem?_getD,List.getElem?_eq_getElem hi]at hq';exact hq'
 ·rw[hlen]
  have I1:Inv X pins σ H { s with heap:=s.heap.push { cls:=.type "list_iterator",data:=.fields #[.ref a,.int 0 0] } }:=I.kept (t':=s.toks) fun b o e=>Heap.get?_push_of_some _ e;refine q _ (I1.turned (it:=s.heap.objs.size) (fun b o hb e=>kk b o (by simpa using hb) e) (I.hok.fresh (Nat.le_refl _)) (Nat.ne_of_gt I.lt) (.inr I.sz) (fun y c e z=>?_) fun p hp z=>?_)
  ·obtain⟨v,o,ho,_⟩:=I.cell y c e
   exact absurd (Heap.lt_size ho) (by rw[z];exact Nat.lt_irrefl _)
  ·exact absurd (Heap.lt_size (I.pin p hp).1) (by rw[z];exact Nat.lt_irrefl _)
theorem intsA {K:PySem.W.Frag}{ι:List Addr}{H:Hp}:∀ {xs:List Int} {vs:List V} {us:List Value},Reps K ι H (xs.map .int) vs->Vals vs us->IntsAre us xs
 | [],_,_,.nil,.nil=>.nil
 | x::xs,_,_,.cons r t,.cons g k=>by
  cases r;obtain⟨t',rfl⟩:=g;exact .cons x t' (intsA t k)
noncomputable def blName:Bl->String
 | .len=>"len" | .tuple=>"tuple" | .list=>"list" | .repr=>"repr" | .all=>"all" | .any=>"any" | .min2=>"min" | .max2=>"max" | .abs=>"abs" | .dict1=>"dict" | .minL=>"min"
noncomputable def blTy:Bl->Bool
 | .tuple=>true | .list=>true | .dict1=>true | _=>false
noncomputable def blVal (b:Bl):Value:=if blTy b then .type (blName b) else .builtin (blName b)
theorem call_bl (hc:X.calm=true)(hu:X.A.units + 100 < cLine)(b:Bl):CallR X (blVal b) (RLS X.K (blD b)):=by
 intro pins s σ H xs us Q I rv h;obtain⟨ι,M,M',ds,d,S,r,e,k⟩:=h;have fin:∀ {w':V},M'=M->Rep X.K ι H d w'->Q w' H:=fun {w'} z r=>by subst z;exact k w' H ι r S Ext.refl
 cases b
 ·rcases ds with _ | ⟨x,t⟩
  ·exact(stop_ok e).elim
  cases x <;> first | exact(stop_ok e).elim | (cases t <;> first | exact(stop_ok e).elim | skip)
  ·delta blD at e
   dsimp only at e;have e0:=bind_ok e;clear e;obtain⟨_,_,e1,e⟩:=e0;have e10:=need_ok e1;clear e1;obtain⟨hn,rfl⟩:=e10;have e0:=pure_ok e;clear e;obtain⟨rfl,rfl⟩:=e0;cases r with | cons r1 r2=>cases r2;cases r1;exact call_len_str pins s σ H _ us Q I rv ⟨_,rfl,hn,fin rfl (.int _)⟩
  ·delta blD at e
   dsimp only at e;have e0:=pure_ok e;clear e;obtain⟨rfl,rfl⟩:=e0;cases r with | cons r1 r2 =>
   cases r2;cases r1 with | tup t q=>exact call_len_seq pins s σ H _ us Q I rv ⟨_,_,rfl,.inr (sqt t),by rw[<- q.length];exact fin rfl (.int _)⟩
  ·delta blD at e
   dsimp only at e;have e0:=pure_ok e;clear e;obtain⟨rfl,rfl⟩:=e0;cases r with | cons r1 r2 =>
   cases r2;cases r1 with | fl t q=>exact call_len_seq pins s σ H _ us Q I rv ⟨_,_,rfl,.inl t.seq,by rw[<- q.length];exact fin rfl (.int _)⟩
  ·delta blD at e
   dsimp only at e;have e0:=bind_ok e;clear e;obtain⟨o,_,e1,e⟩:=e0;have e10:=getM_ok e1;clear e1;obtain⟨g,rfl⟩:=e10;cases r with | cons r1 r2 =>
   cases r2;cases o with
   | lst ds =>
    have e0:=pure_ok e;clear e;obtain⟨rfl,rfl⟩:=e0;obtain⟨a,vs,rfl,_,h3,h4⟩:=sim_list S r1 g;exact call_len_seq pins s σ H _ us Q I rv ⟨a,vs,rfl,.inl (SqL.of h3),by rw[<- h4.length];exact fin rfl (.int _)⟩
   | dic kvs =>
    have e0:=pure_ok e;clear e;obtain⟨rfl,rfl⟩:=e0;obtain⟨a,ws,rfl,_,h3,h4⟩:=sim_dict S r1 g;obtain⟨u,rfl,ru⟩:=vals1 rv;cases ru;exact d_len I (.inl h3) fun t s' I'=>⟨.int ws.length,H,I',⟨t,rfl⟩,by rw[<- h4.len];exact fin rfl (.int _)⟩
 ·rcases ds with _ | ⟨x,t⟩
  ·exact(stop_ok e).elim
  cases x <;> first | exact(stop_ok e).elim | (cases t <;> first | exact(stop_ok e).elim | skip)
  ·delta blD at e
   dsimp only at e;have e0:=pure_ok e;clear e;obtain⟨rfl,rfl⟩:=e0;cases r with | cons r1 r2 =>
   cases r2;cases r1 with | tup t q=>exact call_tuple_of pins s σ H _ us Q I rv ⟨_,_,rfl,.inr ⟨sqt t,fin rfl (.tup t q)⟩⟩
  ·delta blD at e
   dsimp only at e;have e0:=pure_ok e;clear e;obtain⟨rfl,rfl⟩:=e0;cases r with | cons r1 r2 =>
   cases r2;cases r1 with | fl t q=>exact call_tuple_of pins s σ H _ us Q I rv ⟨_,_,rfl,.inl ⟨t.seq,new_tup S q k⟩⟩
  ·delta blD at e
   dsimp only at e;have e0:=bind_ok e;clear e;obtain⟨ds,_,e1,e⟩:=e0;have e10:=getL_ok e1;clear e1;obtain⟨g,rfl⟩:=e10;have e0:=pure_ok e;clear e;obtain⟨rfl,rfl⟩:=e0;cases r with | cons r1 r2 =>
   cases r2;obtain⟨a,vs,rfl,_,h3,h4⟩:=sim_list S r1 g;exact call_tuple_of pins s σ H _ us Q I rv ⟨_,_,rfl,.inl ⟨SqL.of h3,new_tup S h4 k⟩⟩
 ·rcases ds with _ | ⟨x,t⟩
  ·exact(stop_ok e).elim
  cases t <;> first | exact(stop_ok e).elim | skip
  ·delta blD at e
   dsimp only at e;have e0:=bind_ok e;clear e;obtain⟨ds,M1,e1,e⟩:=e0;cases r with | cons r1 r2 =>
   cases r2;obtain⟨rfl,a,vs,rfl,hs,hr⟩:=seq_of S r1 e1;exact call_list_of pins s σ H _ us Q I rv ⟨a,vs,rfl,hs,new_list S hr e k⟩
 ·exact(stop_ok e).elim
 ·rcases ds with _ | ⟨x,t⟩
  ·exact(stop_ok e).elim
  cases x <;> first | exact(stop_ok e).elim | (cases t <;> first | exact(stop_ok e).elim | skip)
  ·delta blD at e
   dsimp only at e;have e0:=bind_ok e;clear e;obtain⟨ds,_,e1,e⟩:=e0;have e10:=getL_ok e1;clear e1;obtain⟨g,rfl⟩:=e10;have e0:=bind_ok e;clear e;obtain⟨bs,_,e1,e⟩:=e0;have e10:=lift_ok e1;clear e1;obtain⟨hb,rfl⟩:=e10;have e0:=pure_ok e;clear e;obtain⟨rfl,rfl⟩:=e0;cases r with | cons r1 r2 =>
   cases r2;obtain⟨a,vs,rfl,_,h3,h4⟩:=sim_list S r1 g;obtain⟨u,rfl,ru⟩:=vals1 rv;cases ru;rw[bools_of h4 hb]at h3;exact call_all_walk (bools_walk hc (fun n tr=>(List.range n).all tr) I h3 fun s' I'=>⟨.bl (bs.all id),H,I',by rw[all_range];rfl,fin rfl (.bl _)⟩)
 ·rcases ds with _ | ⟨x,t⟩
  ·exact(stop_ok e).elim
  cases x <;> first | exact(stop_ok e).elim | (cases t <;> first | exact(stop_ok e).elim | skip)
  ·delta blD at e
   dsimp only at e;have e0:=bind_ok e;clear e;obtain⟨ds,_,e1,e⟩:=e0;have e10:=getL_ok e1;clear e1;obtain⟨g,rfl⟩:=e10;have e0:=bind_ok e;clear e;obtain⟨bs,_,e1,e⟩:=e0;have e10:=lift_ok e1;clear e1;obtain⟨hb,rfl⟩:=e10;have e0:=pure_ok e;clear e;obtain⟨rfl,rfl⟩:=e0;cases r with | cons r1 r2 =>
   cases r2;obtain⟨a,vs,rfl,_,h3,h4⟩:=sim_list S r1 g;obtain⟨u,rfl,ru⟩:=vals1 rv;cases ru;rw[bools_of h4 hb]at h3;exact call_any_walk (bools_walk hc (fun n tr=>(List.range n).any tr) I h3 fun s' I'=>⟨.bl (bs.any id),H,I',by rw[any_range];rfl,fin rfl (.bl _)⟩)
 ·exact(stop_ok e).elim
 ·exact(stop_ok e).elim
 ·exact(stop_ok e).elim
 ·exact(stop_ok e).elim
 ·exact(stop_ok e).elim
end
end L3
namespace L3
open PySem PySem.Spec PyProof.Rows L2
section
variable {X:Cx}
noncomputable def mtId (m:Mt)(x:D):String:=match m,x with
 | .append,_=>"list.append"
 | .insert,_=>"list.insert"
 | .join,_=>"str.join"
 | .split,_=>"str.split"
 | .partition,_=>"str.partition"
 | .get,_=>"dict.get"
noncomputable def mtName:Mt->Str
 | .append=>"append" | .insert=>"insert" | .join=>"join" | .get=>"get"
 | .split=>"split" | .partition=>"partition"
theorem mt_name {m:Str}{n:Nat}{k:Mt}(h:mtOf m n=some k):m=mtName k:=by
 unfold mtOf at h;have key:∀ (y:String) (k:Nat),(m==(Str.ofString y)&&n==k)=true->m=Str.ofString y:=fun y k e=>by
  simp only[Bool.and_eq_true,beq_iff_eq]at e;exact e.1
 split at h
 ·rename_i e;cases h;exact key _ _ e
 split at h
 ·rename_i e;cases h;exact key _ _ e
 split at h
 ·rename_i e;cases h;exact key _ _ e
 split at h
 ·rename_i e;cases h;exact key _ _ e
 split at h
 ·rename_i e;cases h;exact key _ _ e
 split at h
 ·rename_i e;cases h;exact key _ _ e
 ·cases h
noncomputable def RM (K:PySem.W.Frag)(m:Mt)(id:String):V->List V->Hp->VK->Prop:=fun x xs H Q=>∃ ι M M' dx ds d,Sim K ι M H/\Rep K ι H dx x/\Reps K ι H ds xs/\mtId m dx=id/\mtD m dx ds M=some (.ok d,M') /\
 ∀ v H' ι',Rep K ι' H' d v->Sim K ι' M' H'->Ext K ι H ι' H'->Q v H'
theorem strs_of_reps {K:PySem.W.Frag}{ι:List Addr}{H:Hp}:∀ {ds:List D} {vs:List V} {ys:List Str},Reps K ι H ds vs->ds.mapM strD=some ys->vs=ys.map V.str
 | _,_,_,.nil,h=>by simp at h;subst h;rfl
 | _,_,_,.cons (d:=d) r t,h=>by
  rw[List.mapM_cons]at h;simp only[Option.bind_eq_bind,Option.bind_eq_some_iff,Option.pure_def,Option.some.injEq]at h;obtain⟨b,hb,bs',hbs,rfl⟩:=h;rw[strs_of_reps t hbs];cases r <;> simp[strD]at hb;subst hb;rfl
theorem reps_strs {K:PySem.W.Frag}{ι:List Addr}{H:Hp}:∀ xs:List Str,Reps K ι H (xs.map .str) (xs.map V.str)
 | []=>.nil
 | _::xs=>.cons (.str _) (reps_strs xs)
theorem mt_all (hu:X.A.units + 100 < cLine)(m:Mt)(id:String):MtR X id (RM X.K m id):=by
 intro pins s σ H x vs v us Q I rx rv h;obtain⟨ι,M,M',dx,ds,d,S,r,rs,rfl,e,k⟩:=h;have fin:∀ {w':V},M'=M->Rep X.K ι H d w'->Q w' H:=fun {w'} z r=>by subst z;exact k w' H ι r S Ext.refl
 cases m
 case append =>
  cases dx <;> first | exact(stop_ok e).elim | (rcases ds with _ | ⟨_,_ | ⟨_,_⟩⟩ <;> first | exact(stop_ok e).elim | skip)
  ·delta mtD at e
   dsimp only at e;rename_i a y;obtain⟨vy,rfl,ry⟩:=reps1 rs;have e0:=bind_ok e;clear e;obtain⟨xs,_,e1,e⟩:=e0;have e10:=getL_ok e1;clear e1;obtain⟨g,rfl⟩:=e10;have e0:=bind_ok e;clear e;obtain⟨_,_,e1,e⟩:=e0;have e10:=need_ok e1;clear e1;obtain⟨hn,rfl⟩:=e10;have e0:=bind_ok e;clear e;obtain⟨u,M2,e1,e⟩:=e0;have e0:=pure_ok e;clear e;obtain⟨rfl,rfl⟩:=e0;obtain⟨p,ws,rfl,hi,h3,h4⟩:=sim_list S r g;obtain⟨S2,X2⟩:=put_list (ds:=xs) S hi h3 (h4.append (.cons ry .nil)) e1;exact mt_append pins s σ H _ _ v us Q I rx rv ⟨p,ws,vy,rfl,rfl,h3,by rw[<- h4.length];exact hn,k .non _ ι .non S2 X2⟩
 case insert=>exact(stop_ok e).elim
 case join =>
  cases dx <;> first | exact(stop_ok e).elim | (rcases ds with _ | ⟨x,_ | ⟨_,_⟩⟩ <;> first | exact(stop_ok e).elim | (cases x <;> first | exact(stop_ok e).elim | skip))
  ·delta mtD at e
   dsimp only at e;obtain⟨vy,rfl,ry⟩:=reps1 rs;have e0:=bind_ok e;clear e;obtain⟨ys,_,e1,e⟩:=e0;have e10:=lift_ok e1;clear e1;obtain⟨hj,rfl⟩:=e10;have e0:=bind_ok e;clear e;obtain⟨_,_,e1,e⟩:=e0;have e10:=need_ok e1;clear e1;obtain⟨hn,rfl⟩:=e10;have e0:=pure_ok e;clear e;obtain⟨rfl,rfl⟩:=e0;cases r;cases ry with
   | tup t q =>
    have hw:=strs_of_reps q hj;subst hw;exact mt_joinT pins s σ H _ _ v us Q I rx rv ⟨_,_,ys,rfl,rfl,sqt t,hn,fin rfl (.str _)⟩
  ·delta mtD at e
   dsimp only at e;obtain⟨vy,rfl,ry⟩:=reps1 rs;have e0:=bind_ok e;clear e;obtain⟨xs,_,e1,e⟩:=e0;have e10:=getL_ok e1;clear e1;obtain⟨g,rfl⟩:=e10;have e0:=bind_ok e;clear e;obtain⟨ys,_,e1,e⟩:=e0;have e10:=lift_ok e1;clear e1;obtain⟨hj,rfl⟩:=e10;have e0:=bind_ok e;clear e;obtain⟨_,_,e1,e⟩:=e0;have e10:=need_ok e1;clear e1;obtain⟨hn,rfl⟩:=e10;have e0:=pure_ok e;clear e;obtain⟨rfl,rfl⟩:=e0;obtain⟨p,ws,rfl,hi,h3,h4⟩:=sim_list S ry g;cases r;have hw:=strs_of_reps h4 hj;subst hw;exact mt_join pins s σ H _ _ v us Q I rx rv ⟨_,p,ys,rfl,rfl,SqL.of h3,hn,fin rfl (.str _)⟩
 case split =>
  cases dx <;> first | exact(stop_ok e).elim | (rcases ds with _ | ⟨x,_ | ⟨_,_⟩⟩ <;> first | exact(stop_ok e).elim | (cases x <;> first | exact(stop_ok e).elim | skip))
  ·delta mtD at e
   dsimp only at e;obtain⟨vy,rfl,ry⟩:=reps1 rs;have e0:=bind_ok e;clear e;obtain⟨_,_,e1,e⟩:=e0;have e10:=need_ok e1;clear e1;obtain⟨hn,rfl⟩:=e10;cases r;cases ry;exact mt_split pins s σ H _ _ v us Q I rx rv ⟨_,_,rfl,rfl,hn,new_list S (reps_strs _) e k⟩
 case partition =>
  cases dx <;> first | exact(stop_ok e).elim | (rcases ds with _ | ⟨x,_ | ⟨_,_⟩⟩ <;> first | exact(stop_ok e).elim | (cases x <;> first | exact(stop_ok e).elim | skip))
  ·delta mtD at e
   dsimp only at e;obtain⟨vy,rfl,ry⟩:=reps1 rs;have e0:=bind_ok e;clear e;obtain⟨_,_,e1,e⟩:=e0;have e10:=need_ok e1;clear e1;obtain⟨hn,rfl⟩:=e10;have e0:=pure_ok e;clear e;obtain⟨rfl,rfl⟩:=e0;cases r;cases ry;exact mt_partition pins s σ H _ _ v us Q I rx rv ⟨_,_,rfl,rfl,hn,new_tup S (reps_strs _) k⟩
 case get=>exact(stop_ok e).elim
theorem LE.mth {m:Mt}{fo:DE}{fa:Ev->Mo (List D)}(σ:St)(H:Hp)(Q:VK)(h:LE X.K (fun ρ=>do let x <- fo ρ;rcvD m x;let xs <- fa ρ;mtD m x xs) σ H Q):tBMx X (mtName m) (RM X.K m) (LE X.K fo) (LA X.K fa) σ H Q:=by
 obtain⟨ι,ρ,M,d,M',S,R,e,k⟩:=h;have e0:=bind_ok e;clear e;obtain⟨x,M1,e1,e⟩:=e0;have e0:=bind_ok e;clear e;obtain⟨u,M2,e2,e⟩:=e0;have e0:=bind_ok e;clear e;obtain⟨xs,M3,e3,e⟩:=e0;refine⟨ι,ρ,M,x,M1,S,R,e1,fun v H1 ι1 r1 S1 X1=>?_⟩;have fact:M2=M1/\∃ T,MFact T (mtName m) (mtId m x)/\RcvIs X T v H1:=by
  unfold rcvD at e2;split at e2
  ·have e0:=bind_ok e2;clear e2;obtain⟨ds,_,e4,e5⟩:=e0
   have e40:=getL_ok e4;clear e4;obtain⟨g,rfl⟩:=e40;obtain⟨p,ws,rfl,hi,h3,h4⟩:=sim_list S1 r1 g;exact⟨(pure_ok e5).2,"list",⟨PySem.F.plainAttrs_list,PySem.F.slot_list_append,PySem.F.type_list_append⟩,rcv_list (SqL.of h3)⟩
  ·have e0:=bind_ok e2;clear e2;obtain⟨ds,_,e4,e5⟩:=e0
   have e40:=getL_ok e4;clear e4;obtain⟨g,rfl⟩:=e40;obtain⟨p,ws,rfl,hi,h3,h4⟩:=sim_list S1 r1 g;exact⟨(pure_ok e5).2,"list",⟨PySem.F.plainAttrs_list,PySem.F.slot_list_insert,PySem.F.type_list_insert⟩,rcv_list (SqL.of h3)⟩
  ·cases r1 with
   | str y=>exact⟨(pure_ok e2).2,"str",⟨PySem.F.plainAttrs_str,PySem.F.slot_str_join,PySem.F.type_str_join⟩,rcv_str⟩
  ·cases r1 with
   | str y=>exact⟨(pure_ok e2).2,"str",⟨PySem.F.plainAttrs_str,PySem.F.slot_str_split,PySem.F.type_str_split⟩,rcv_str⟩
  ·cases r1 with
   | str y=>exact⟨(pure_ok e2).2,"str",⟨PySem.F.plainAttrs_str,PySem.F.slot_str_partition,PySem.F.type_str_partition⟩,rcv_str⟩
  ·have e0:=bind_ok e2;clear e2;obtain⟨ds,_,e4,e5⟩:=e0
   have e40:=getD_ok e4;clear e4;obtain⟨g,rfl⟩:=e40;obtain⟨p,ws,rfl,hi,h3,h4⟩:=sim_dict S1 r1 g;exact⟨(pure_ok e5).2,"dict",⟨PySem.F.plainAttrs_dict,PySem.F.slot_dict_get,PySem.F.type_dict_get⟩,fun pins σ s v I r=>tyV_is I r (.inr (.inr (.inl ⟨rfl,.inl ⟨ws,h3⟩⟩)))⟩
  ·exact(stop_ok e2).elim
 obtain⟨rfl,T,f1,f2⟩:=fact;refine⟨T,mtId m x,f1,f2,?_⟩;refine⟨ι1,ρ,_,xs,M3,S1,R.mono X1,e3,fun vs H2 ι2 r2 S2 X2=>?_⟩;exact⟨ι2,M3,M',x,xs,d,S2,r1.mono X2,r2,rfl,e,fun v' H' ι' r' S' X'=>k v' H' ι' r' S' ((X1.trans X2).trans X')⟩
noncomputable def tyName:Ty->String
 | .int=>"int" | .str=>"str" | .bool=>"bool" | .list=>"list" | .tuple=>"tuple" | .dict=>"dict"
theorem ty_boot {t:Str}{k:Ty}(h:tyOf t=some k):bootBuiltins t=some (.type (tyName k)):=by
 unfold tyOf at h;have key:∀ (y:String),(t==(Str.ofString y))=true->t=Str.ofString y:=fun y e=>by simpa using e
 split at h
 ·rename_i e;cases h;rw[key _ e];decide +kernel
 split at h
 ·rename_i e;cases h;rw[key _ e];decide +kernel
 split at h
 ·rename_i e;cases h;rw[key _ e];decide +kernel
 split at h
 ·rename_i e;cases h;rw[key _ e];decide +kernel
 split at h
 ·rename_i e;cases h;rw[key _ e];decide +kernel
 split at h
 ·rename_i e;cases h;rw[key _ e];decide +kernel
 ·cases h
noncomputable def RIsI (K:PySem.W.Frag)(k:Ty):List V->Hp->VK->Prop:=fun xs H Q=>∃ ι M M' dx x b,xs=[x,.ty (tyName k)]/\Sim K ι M H/\Rep K ι H dx x/\tyD k dx M=some (.ok b,M')/\(M'=M->Q (.bl b) H)
theorem call_isi (k:Ty):CallR X (.builtin "isinstance") (RIsI X.K k):=by
 intro pins s σ H xs us Q I rv h;obtain⟨ι,M,M',dx,x,b,rfl,S,r,e,q⟩:=h;obtain⟨u,w',rfl,ru,rw'⟩:=vals2 rv;cases rw';have yes:∀ {c:Bool},Q (.bl c) H->EP X pins σ Q (.bool c) s:=fun h=>⟨.bl _,H,I,rfl,h⟩;have no:∀ {c:Bool},Q (.bl c) H->EP X pins σ Q (.bool c) { s with toks:=s.toks + 1 }:=fun h=>⟨.bl _,H,I.tok _,rfl,h⟩;have lst:∀ {a:Addr} {vs:List V},SqL X.K H a vs->Q (.bl (k==.list)) H->wpAny (model X.prog X.w) X.A (call (.builtin "isinstance") [.ref a,.type (tyName k)]) (EP X pins σ Q) X.xe s:=fun {a vs} hs q=>by
  obtain⟨its,_,⟨o,n,ho,hc,_⟩,_⟩:=I.list hs;cases k
  ·exact IsiPair.list_int ho hc (no q)
  ·exact IsiPair.list_str ho hc (no q)
  ·exact IsiPair.list_bool ho hc (no q)
  ·exact IsiPair.list_list ho hc (yes q)
  ·exact IsiPair.list_tuple ho hc (no q)
  ·exact IsiPair.list_dict ho hc (no q)
 cases r with
 | non =>
  cases ru;have e0:=pure_ok e;clear e;obtain⟨rfl,rfl⟩:=e0;have q:=q rfl;cases k
  ·exact IsiPair.NoneType_int (no q)
  ·exact IsiPair.NoneType_str (no q)
  ·exact IsiPair.NoneType_bool (no q)
  ·exact IsiPair.NoneType_list (no q)
  ·exact IsiPair.NoneType_tuple (no q)
  ·exact IsiPair.NoneType_dict (no q)
 | bl c =>
  cases ru;have e0:=pure_ok e;clear e;obtain⟨rfl,rfl⟩:=e0;have q:=q rfl;cases k
  ·exact IsiPair.bool_int (yes q)
  ·exact IsiPair.bool_str (no q)
  ·exact IsiPair.bool_bool (yes q)
  ·exact IsiPair.bool_list (no q)
  ·exact IsiPair.bool_tuple (no q)
  ·exact IsiPair.bool_dict (no q)
 | int c =>
  obtain⟨t,rfl⟩:=ru;have e0:=pure_ok e;clear e;obtain⟨rfl,rfl⟩:=e0;have q:=q rfl;cases k
  ·exact IsiPair.int_int (yes q)
  ·exact IsiPair.int_str (no q)
  ·exact IsiPair.int_bool (no q)
  ·exact IsiPair.int_list (no q)
  ·exact IsiPair.int_tuple (no q)
  ·exact IsiPair.int_dict (no q)
 | str c =>
  obtain⟨t,rfl⟩:=ru;have e0:=pure_ok e;clear e;obtain⟨rfl,rfl⟩:=e0;have q:=q rfl;cases k
  ·exact IsiPair.str_int (no q)
  ·exact IsiPair.str_str (yes q)
  ·exact IsiPair.str_bool (no q)
  ·exact IsiPair.str_list (no q)
  ·exact IsiPair.str_tuple (no q)
  ·exact IsiPair.str_dict (no q)
 | tup t qq =>
  cases ru;have e0:=pure_ok e;clear e;obtain⟨rfl,rfl⟩:=e0;have q:=q rfl;obtain⟨its,_,⟨o,ho,hc,_⟩,_⟩:=I.tuple (sqt t);cases k
  ·exact IsiPair.tuple_int ho hc (no q)
  ·exact IsiPair.tuple_str ho hc (no q)
  ·exact IsiPair.tuple_bool ho hc (no q)
  ·exact IsiPair.tuple_list ho hc (no q)
  ·exact IsiPair.tuple_tuple ho hc (yes q)
  ·exact IsiPair.tuple_dict ho hc (no q)
 | fl t qq =>
  cases ru;have e0:=pure_ok e;clear e;obtain⟨rfl,rfl⟩:=e0;exact lst t.seq (q rfl)
 | ob t =>
  cases ru;have e0:=bind_ok e;clear e;obtain⟨o,_,e1,e⟩:=e0;have e10:=getM_ok e1;clear e1;obtain⟨g,rfl⟩:=e10;cases o with
  | lst ds =>
   have e0:=pure_ok e;clear e;obtain⟨rfl,rfl⟩:=e0;obtain⟨p,ws,e1,hi,h3,h4⟩:=sim_list S (.ob t) g;cases e1;exact lst (SqL.of h3) (q rfl)
  | dic kvs =>
   have e0:=pure_ok e;clear e;obtain⟨rfl,rfl⟩:=e0;obtain⟨p,ws,e1,hi,h3,h4⟩:=sim_dict S (.ob t) g;cases e1;have q:=q rfl;obtain⟨z,hd,rs,rel,o,es,ep,ho,⟨hc,_⟩,_⟩:=dk_rd I.hok (.inl h3);cases k
   ·exact IsiPair.dict_int ho hc (no q)
   ·exact IsiPair.dict_str ho hc (no q)
   ·exact IsiPair.dict_bool ho hc (no q)
   ·exact IsiPair.dict_list ho hc (no q)
   ·exact IsiPair.dict_tuple ho hc (no q)
   ·exact IsiPair.dict_dict ho hc (yes q)
theorem LE.isI {k:Ty}{fa:DE}(σ:St)(H:Hp)(Q:VK)(h:LE X.K (fun ρ=>do let x <- fa ρ;let b <- tyD k x;pure (.bl b)) σ H Q):tCB (RIsI X.K k) (tCons (LE X.K fa) (tCons (tC (.ty (tyName k))) tNil)) σ H Q:=by
 obtain⟨ι,ρ,M,d,M',S,R,e,q⟩:=h;have e0:=bind_ok e;clear e;obtain⟨x,M1,e1,e⟩:=e0;have e0:=bind_ok e;clear e;obtain⟨b,M2,e2,e⟩:=e0;have e0:=pure_ok e;clear e;obtain⟨rfl,rfl⟩:=e0;refine⟨ι,ρ,M,x,M1,S,R,e1,fun v H1 ι1 r1 S1 X1=>?_⟩;exact⟨ι1,M1,_,x,v,b,rfl,S1,r1,e2,fun z=>by subst z;exact q _ H1 ι1 (.bl b) S1 X1⟩
end
end L3
namespace L3
open PySem PySem.Spec PyProof.Rows L2
section
variable {X:Cx}
end
end L3
namespace L3
open PySem PySem.Spec PyProof.Rows L2
noncomputable def strV:Value->Option Str
 | .str x _=>some x
 | _=>none
noncomputable def gdObs (x:Str)(s:Shared):Option (Bool×List (Int×Option Str×Option Str)):=match s.heap.nsMap mainGlobals x with
 | some (.ref a)=>(match s.heap.get? a with
  | some o=>(match o.data with
   | .dict es _=>some (decide (o.cls=.type "dict")&&o.dict.isNone&&o.slots.isEmpty&&!(a==sysModules),es.toList.map fun e=>(e.hash,strV e.key,strV e.val))
   | _=>none)
  | none=>none)
 | _=>none
noncomputable def gdVal (ks:List (Str×Str))(w:World):Option (Bool×List (Int×Option Str×Option Str)):=some (true,ks.map fun p=>(L2.keyH w (.inr p.1),some p.1,some p.2))
noncomputable def GdAt (x:Str)(ks:List (Str×Str))(w:World)(h:Heap):Prop:=∃ a,h.nsMap mainGlobals x=some (.ref a)/\(a==sysModules)=false /\
 ∀ P:Program,∃ vs:List (Key×Value),KV (ks.map fun p=>((.inr p.1:Key),V.str p.2)) vs/\h.DictOf (mixKind P w) a vs
theorem strV_eq {v:Value}{x:Str}(h:strV v=some x):∃ t,v=.str x t:=by
 cases v <;> first | cases h | skip
 exact⟨_,rfl⟩
theorem gd_pairs {w:World}(P:Program):∀ (ks:List (Str×Str)) (es:List DictEntry),es.map (fun e=>(e.hash,strV e.key,strV e.val))=ks.map (fun p=>(L2.keyH w (.inr p.1),some p.1,some p.2)) ->
  ∃ vs:List (Key×Value),KV (ks.map fun p=>((.inr p.1:Key),V.str p.2)) vs/\Pairs (mixKind P w) es vs/\(∀ e∈es,∃ k,(mixKind P w).is k e.key=true/\e.hash=(mixKind P w).hash k)/\vs.map (·.1)=ks.map fun p=>(.inr p.1:Key)
 | [],[],_=>⟨[],.nil,.nil,fun _ h=>(nomatch h),rfl⟩
 | [],_::_,h=>by cases h
 | _::_,[],h=>by cases h
 | p::ks,e::es,h=>by
  rw[List.map_cons,List.map_cons]at h;injection h with h1 h2
  obtain⟨vs,a1,a2,a3,a4⟩:=gd_pairs P ks es h2;injection h1 with i1 i2
  injection i2 with i2 i3
  obtain⟨t,et⟩:=strV_eq i2;obtain⟨u,eu⟩:=strV_eq i3;have hk:(mixKind P w).is (.inr p.1) e.key=true:=by rw[et];exact mixKind_str P w p.1 t
  refine⟨((.inr p.1:Key),e.val)::vs,.cons ⟨rfl,?_⟩ a1,.cons hk rfl a2,fun e' he=>?_,?_⟩
  ·show RelV (V.str p.2) e.val
   rw[eu];exact⟨u,rfl⟩
  ·rcases List.mem_cons.mp he with rfl | he
   ·exact⟨_,hk,i1⟩
   ·exact a3 e' he
  ·rw[List.map_cons,List.map_cons,a4]
theorem gd_of {x:Str}{ks:List (Str×Str)}(hn:(ks.map (·.1)).Nodup)(w:World)(s:Shared)(h:gdObs x s=gdVal ks w):GdAt x ks w s.heap:=by
 unfold gdObs gdVal at h;split at h
 ·rename_i a ha
  split at h
  ·rename_i o ho
   split at h
   ·rename_i es ep he
    injection h with h
    injection h with h1 h2
    simp only[Bool.and_eq_true,decide_eq_true_eq,Bool.not_eq_true',Option.isNone_iff_eq_none,Array.isEmpty_iff]at h1;obtain⟨⟨⟨c1,c2⟩,c3⟩,c4⟩:=h1;refine⟨a,ha,c4,fun P=>?_⟩;obtain⟨vs,a1,a2,a3,a4⟩:=gd_pairs P ks es.toList h2;refine⟨vs,a1,o,es,ep,ho,⟨c1,c2,c3⟩,he,fun e hm=>a3 e (Array.mem_toList_iff.mpr hm),a2,?_⟩;rw[a4]
    have:(ks.map fun p=>(.inr p.1:Key))=(ks.map (·.1)).map .inr:=by rw[List.map_map];rfl
    rw[this];exact List.pairwise_map.mpr (List.Pairwise.imp (fun z q=>z (Sum.inr.inj q)) hn)
   ·cases h
  ·cases h
 ·cases h
theorem gd_keeps {x:Str}{ks:List (Str×Str)}(w:World)(h h':Heap)(g:GdAt x ks w h)(k:∀ b o,h.get? b=some o->h'.get? b=some o):GdAt x ks w h':=by
 obtain⟨a,ha,c,d⟩:=g;refine⟨a,?_,c,fun P=>?_⟩
 ·unfold Heap.nsMap at ha ⊢
  split at ha
  ·rename_i o ho
   rw[k _ _ ho];exact ha
  ·cases ha
 ·obtain⟨vs,v1,o,es,ep,ho,r⟩:=d P
  exact⟨vs,v1,o,es,ep,k _ _ ho,r⟩
noncomputable def gdHook (x:Str)(ks:List (Str×Str))(hn:(ks.map (·.1)).Nodup):PySem.W.Hook:=⟨_,gdObs x,gdVal ks,GdAt x ks,gd_of hn,gd_keeps⟩
section
variable {X:Cx}
theorem gd_look (ks:List (Str×Str))(k:Str):valV (ks.map fun p=>((.inr p.1:Key),V.str p.2)) (.inr k)=(ks.lookup k).map V.str:=by
 induction ks with
 | nil=>rfl
 | cons p ks ih =>
  unfold valV at ih ⊢;rw[List.map_cons,List.find?_cons,List.lookup_cons];by_cases e:p.1=k
  ·subst e
   simp
  ·have e1:¬ ((Sum.inr p.1:Key)=.inr k):=fun q=>e (Sum.inr.inj q)
   have e2:(k==p.1)=false:=beq_eq_false_iff_ne.mpr fun q=>e q.symm;rw[decide_eq_false e1,e2];exact ih
noncomputable def GdK (K:PySem.W.Frag)(P:Program)(w:World)(a:Addr)(ks:List (Str×Str)):Prop:=(a==sysModules)=false/\∃ (vs:List (Key×Value)) (ep:Nat),KV (ks.map fun p=>((.inr p.1:Key),V.str p.2)) vs/\∀ h:Heap,K.In h->h.DictAt (mixKind P w) a vs ep
theorem ix_gd {a:Addr}{ks:List (Str×Str)}(hg:GdK X.K X.prog X.w a ks):IxR X (fun x y H Q=>∃ k v,x=.ref a/\y=.str k/\ks.lookup k=some v/\Q (.str v) H):=by
 intro value slice pins s σ H x y v u Q I rx ry h hs;obtain⟨k,v',rfl,rfl,hl,q⟩:=h;obtain rfl:v=Value.ref a:=rx;obtain⟨_,vs,ep,rel,hd⟩:=hg;have dd:=(hd _ I.kIn).dictOf;have hv:RelO (some (V.str v')) (valueAt vs (.inr k:Key)):=by
  have:=rel.val (.inr k:Key)
  rw[gd_look ks k,hl]at this;exact this
 obtain⟨w',hw,rw'⟩:=RelO.some_of hv;exact tail_any dd.typeIs PySem.F.slot_dict_getitem.lookup (wpAny_getItem_of (kV_is (k:=.inr k) ry) dd.mapOf hw ⟨.str v',H,I.tok _,rw',q⟩) hs
end
end L3
namespace L3
open PySem PySem.Spec PyProof.Rows L2
noncomputable def spOf (K:PySem.W.Frag)(n:Nat)(g:List D->Mo D):Sp:=fun vs H Q _=>vs.length=n/\∃ ι M M' ds d,Sim K ι M H/\Reps K ι H ds vs/\g ds M=some (.ok d,M') /\
 ∀ v H' ι',Rep K ι' H' d v->Sim K ι' M' H'->Ext K ι H ι' H'->Q v H'
noncomputable def FnR (X:Cx)(g:List D->Mo D)(f:Str):Prop:=∃ (k:Nat) (fa:Addr) (fd:FuncData) (ps:List Str),X.mg f=some (.ref fa)/\PySem.W.keepIn X.K (.ref fa)=true/\Binds X.K fd ps [] /\
 FnOk X.prog X.w X.K X.mg X.base CX0 k fa fd ps (spOf X.K ps.length g)/\Room k X.A/\∀ ds M d M',g ds M=some (.ok d,M')->ds.length=ps.length
structure CxOk (Γ:Ctx) (S:Sc) (X:Cx):Prop where
 n:X.N=S.N
 sc:∀ x k,S.sc.names.lookup x=some k->∃ k',X.env.scope.names.lookup x=some k'/\(k'=k\/(k=.free/\k'=.cell))
 calm:X.calm=true
 hu:X.A.units + 100 < cLine
 gd:X.A.guards=some []
 nox:X.xe=fun _ _=>False
 fns:∀ f∈S.fns,FnR X (Γ.fn f) f
 gls:∀ x∈S.gls,∃ d u v,Γ.gl x=some d/\X.mg x=some u/\RelV v u/\∀ ι H,Rep X.K ι H d v
 bls:∀ x∈S.bls,X.mg x=none
 rfs:FnR X (rfD Γ) "_law_refused"
 bw:BwR X
 gdx:∀ x,gdName x=true->∃ a d ks,Γ.gl x=some d/\gdKs d=some ks/\X.mg x=some (.ref a)/\GdK X.K X.prog X.w a ks
 nd:X.N.Nodup
section
variable {Γ:Ctx}{S:Sc}{X:Cx}
theorem CxOk.vis (C:CxOk Γ S X){x:Str}(h:S.vis x=true):Vis X.env.scope x:=by
 unfold Sc.vis Sc.kind at h;simp only[Bool.or_eq_true,beq_iff_eq]at h;rcases h with (h | h) | h
 ·obtain⟨k',h1,rfl | ⟨h2,_⟩⟩:=C.sc _ _ h
  ·exact .inl h1
  ·cases h2
 ·obtain⟨k',h1,rfl | ⟨h2,_⟩⟩:=C.sc _ _ h
  ·exact .inr (.inl h1)
  ·cases h2
 ·obtain⟨k',h1,rfl | ⟨_,rfl⟩⟩:=C.sc _ _ h
  ·exact .inr (.inr h1)
  ·exact .inr (.inl h1)
theorem CxOk.loc (C:CxOk Γ S X){x:Str}(h:S.loc x=true):Loc X.env.scope x:=by
 unfold Sc.loc Sc.kind at h;simp only[Bool.or_eq_true,beq_iff_eq]at h;rcases h with h | h
 ·obtain⟨k',h1,rfl | ⟨h2,_⟩⟩:=C.sc _ _ h
  ·exact .inl h1
  ·cases h2
 ·obtain⟨k',h1,rfl | ⟨h2,_⟩⟩:=C.sc _ _ h
  ·exact .inr h1
  ·cases h2
theorem CxOk.glo (C:CxOk Γ S X){x:Str}(h:S.glo x=true):Gl X x:=by
 unfold Sc.glo Sc.kind at h;simp only[beq_iff_eq]at h;obtain⟨k',h1,rfl | ⟨h2,_⟩⟩:=C.sc _ _ h
 ·exact h1
 ·cases h2
theorem slot_get {N:List Str}{x:Str}{i:Nat}(h:slot N x=some i):N[i]?=some x:=by
 unfold slot at h;obtain⟨hi,h1,_⟩:=List.findIdx?_eq_some_iff_getElem.mp h;rw[List.getElem?_eq_getElem hi];simpa using h1
theorem okName_debug {x:Str}(h:okName x=true):(x==("__debug__" : Str))=false/\(x==("__classdict__" : Str))=false/\x≠"__name__":=by
 unfold okName at h;simp only[Bool.and_eq_true,bne_iff_ne,ne_eq]at h;exact⟨beq_eq_false_iff_ne.mpr h.1.1,beq_eq_false_iff_ne.mpr h.1.2,h.2⟩
theorem star_plain {e:Expr}{es:List Expr}{env:Env}(h:plainE e=true):starEach (e::es) env=(false,eval e env)::starEach es env:=by
 cases e <;> first | rfl | cases h
theorem back_plain {pos:Pos}{env:Env}:∀ {es:List Expr},es.all plainE=true->(backTo pos (starEach es env)).any (·.1)=false
 | [],_=>rfl
 | e::es,h=>by
  rw[List.all_cons,Bool.and_eq_true]at h;rw[star_plain h.1];show (false||(backTo pos (starEach es env)).any (·.1))=false;rw[back_plain h.2];rfl
noncomputable def Its (y:Str):It:=⟨fun i _=>i < y.cps.size,fun i H x H'=>H'=H/\∃ c,y.cps[i]?=some c/\x=.str ⟨#[c]⟩,fun i _=>i=y.cps.size⟩
theorem turn_str {P:Program}{w:World}{K:PySem.W.Frag}{tg:Expr}{it:Addr}{y:Str}{t:Tok}{ty:String}(hW:∀ A':Around,A'.handled=none->Walks P w A' it [it] [it] y.cps.size (SignAt y) (fun i h=>h.IsStrIter it ty y t i))
  (hn:["enumerate","zip","dict_itemiterator","dict_reverseitemiterator","odict_iterator","itertools.zip_longest","itertools.pairwise"].contains ty=false)
  (hself:∀ (A:Around) (i:Nat) (s:Shared) (Q:Value->Shared->Prop) (E:Value->Shared->Prop),s.heap.IsStrIter it ty y t i->Q (.ref it) s->wpAny (model P w) A (pyIter (.ref it)) Q E s) :
  Turn P w K tg (Its y) [it] it (fun i h=>h.IsStrIter it ty y t i) where
 mem:=by simp
 obj:=fun i h st b hb=>by
  have e:b=it:=by simpa using hb
  subst e;obtain⟨o,h1,h2,h3⟩:=st;exact⟨o,h1,fun v z=>by rw[h3]at z;cases z⟩
 keep:=fun i h h' st k=>by
  obtain⟨o,h1,h2⟩:=st;exact⟨o,k it (by simp) o h1,h2⟩
 item:=by
  intro X hP hw hK hc i pins s σ H E I hf st hg;subst hP hw hK;obtain⟨f0,f1,f2,f3,f4,f5⟩:=hf it (by simp);refine(hW X.A (I.ok.hd hc)).item i s _ _ hg st fun v h' tk hv st' kk=>?_;obtain⟨c,t',hc',rfl⟩:=hv;have I1:Inv X pins σ H { s with heap:=h',toks:=tk }:=I.turned (fun b o hb e=>kk b o (by simpa using hb) e) f0 f1 f3 f4 f5;obtain⟨o,h1,h2,h3⟩:=id st';exact⟨_,rfl,go_of (s:={ s with heap:=h',toks:=tk }) h1 h2 h3 hn ⟨.str ⟨#[c]⟩,H,I1,⟨t',rfl⟩,⟨rfl,c,hc',rfl⟩,st',fun b hb=>(hf b hb).1⟩⟩
 done:=by
  intro X hP hw hK hc i pins s σ H E I hf st hg;subst hP hw hK;obtain⟨f0,f1,f2,f3,f4,f5⟩:=hf it (by simp);have hg':i=y.cps.size:=hg;subst hg';exact(hW X.A (I.ok.hd hc)).done s _ _ st fun h' tk kk=>⟨rfl,I.turned (fun b o hb e=>kk b o (by simpa using hb) e) f0 f1 f3 f4 f5⟩
 self:=hself
noncomputable def iAny (K:PySem.W.Frag)(tl:TE):TI:=fun σ H R=>tl σ H fun x H1=>(∃ a xs,x=.ref a/\SqL K H1 a xs/\R (Itl K a) H1)\/(∃ a xs,x=.ref a/\SqT K H1 a xs/\R (Itt K a) H1)\/∃ y,x=.str y/\R (Its y) H1
theorem pi_any {X:Cx}{tg l:Expr}{tl:TE}(hl:PE X l tl):PI X tg l (iAny X.K tl):=by
 intro pins s σ H R I h;refine thn (hl pins s σ H _ I h) fun v s1 ⟨x,H1,I1,r1,q1⟩=>?_;rcases q1 with ⟨a,xs,e,hq,q⟩|⟨a,xs,e,hq,q⟩|⟨y,e,q⟩
 ·subst e
  cases r1;obtain⟨its,rv,p,hz⟩:=I1.list hq;refine wpAny_pyIter_list p.isList ?_;refine⟨s1.heap.objs.size,[s1.heap.objs.size],_,_,H1,rfl,I1.kept (t':=s1.toks) fun b o e=>Heap.get?_push_of_some _ e,turn_list a _,⟨_,Heap.get?_push_size _ rfl,rfl,rfl⟩,fun b hb=>?_,q⟩;have e:b=s1.heap.objs.size:=by simpa using hb
  subst e;exact I1.fpOk (Nat.le_refl _) (I1.hok.fresh (Nat.le_refl _))
 ·subst e
  cases r1;obtain⟨its,rv,p,hz⟩:=I1.tuple hq;refine wpAny_pyIter_tuple (show s1.heap.IsTuple a its.toArray from p) ?_;refine⟨s1.heap.objs.size,[s1.heap.objs.size],_,_,H1,rfl,I1.kept (t':=s1.toks) fun b o e=>Heap.get?_push_of_some _ e,turn_tuple a _,⟨_,Heap.get?_push_size _ rfl,rfl,rfl⟩,fun b hb=>?_,q⟩;have e:b=s1.heap.objs.size:=by simpa using hb
  subst e;exact I1.fpOk (Nat.le_refl _) (I1.hok.fresh (Nat.le_refl _))
 ·subst e
  obtain⟨t,rfl⟩:=r1;cases ha:y.cps.all (· < 128)
  ·refine wpAny_pyIter_wide ha ?_
   refine⟨s1.heap.objs.size,[s1.heap.objs.size],_,_,H1,rfl,I1.kept (t':=s1.toks) fun b o e=>Heap.get?_push_of_some _ e,turn_str (t:=t) (fun A' hA=>Walks.strWide hA _ y t) (by decide) (fun _ _ _ _ _ st hQ=>wpAny_pyIter_striter_wide st hQ),⟨_,Heap.get?_push_size _ rfl,rfl,rfl⟩,fun b hb=>?_,q⟩;have e:b=s1.heap.objs.size:=by simpa using hb
   subst e;exact I1.fpOk (Nat.le_refl _) (I1.hok.fresh (Nat.le_refl _))
  ·refine wpAny_pyIter_ascii ha ?_
   refine⟨s1.heap.objs.size,[s1.heap.objs.size],_,_,H1,rfl,I1.kept (t':=s1.toks) fun b o e=>Heap.get?_push_of_some _ e,turn_str (t:=t) (fun A' hA=>Walks.strAscii hA _ y t) (by decide) (fun _ _ _ _ _ st hQ=>wpAny_pyIter_striter_ascii st hQ),⟨_,Heap.get?_push_size _ rfl,rfl,rfl⟩,fun b hb=>?_,q⟩;have e:b=s1.heap.objs.size:=by simpa using hb
   subst e;exact I1.fpOk (Nat.le_refl _) (I1.hok.fresh (Nat.le_refl _))
noncomputable def ItOk (K:PySem.W.Frag)(ι:List Addr)(H:Hp)(src:Src)(J:It):Prop:=∀ (ι2:List Addr) (H2:Hp) (M2:MH),Ext K ι H ι2 H2->Sim K ι2 M2 H2->okM src.ck M2 ->
 (∀ (i:Nat) (d:D),src.ds[i]?=some d->J.go i H2/\∀ x H',J.yld i H2 x H'->H'=H2/\Rep K ι2 H2 d x)/\J.stop src.ds.length H2
noncomputable def LI (K:PySem.W.Frag)(f:Ev->Mo Src):TI:=fun σ H R=>∃ ι ρ M src M',Sim K ι M H/\EnvR K ι H ρ σ/\f ρ M=some (.ok src,M') /\
 ∀ J H' ι',Sim K ι' M' H'->Ext K ι H ι' H'->ItOk K ι' H' src J->R J H'
theorem PI.imp {X:Cx}{tg e:Expr}{t t':TI}(h:PI X tg e t)(k:∀ σ H R,t' σ H R->t σ H R):PI X tg e t':=fun pins s σ H R I q=>h pins s σ H R I (k σ H R q)
theorem LI.seq {K:PySem.W.Frag}{f:DE}(σ:St)(H:Hp)(R:It->Hp->Prop)(h:LI K (fun ρ=>do let x <- f ρ;srcD x) σ H R):iAny K (LE K f) σ H R:=by
 obtain⟨ι,ρ,M,src,M',S,Rr,e,k⟩:=h;have e0:=bind_ok e;clear e;obtain⟨x,M1,e1,e⟩:=e0;refine⟨ι,ρ,M,x,M1,S,Rr,e1,fun v H1 ι1 r1 S1 X1=>?_⟩;cases r1 with
 | tup t q =>
  have e0:=pure_ok e;clear e;obtain⟨rfl,rfl⟩:=e0;refine .inr (.inl ⟨_,_,rfl,sqt t,k _ H1 ι1 S1 X1 fun ι2 H2 M2 x2 S2 ok=>⟨fun i d hd=>?_,⟨_,sqt (x2.tup _ _ t),Nat.le_of_eq (q.length.symm)⟩⟩⟩);obtain⟨v,hv,rv⟩:=(q.mono x2).get hd;exact⟨⟨_,v,sqt (x2.tup _ _ t),hv⟩,fun x' H' y=>⟨y.1,by have:=y.2 _ (sqt (x2.tup _ _ t));rw[hv]at this;cases this;exact rv⟩⟩
 | fl t q =>
  have e0:=pure_ok e;clear e;obtain⟨rfl,rfl⟩:=e0;refine .inl ⟨_,_,rfl,t.seq,k _ H1 ι1 S1 X1 fun ι2 H2 M2 x2 S2 ok=>⟨fun i d hd=>?_,⟨_,(x2.fz _ _ t).seq,Nat.le_of_eq (q.length.symm)⟩⟩⟩;obtain⟨v,hv,rv⟩:=(q.mono x2).get hd;exact⟨⟨_,v,(x2.fz _ _ t).seq,hv⟩,fun x' H' y=>⟨y.1,by have:=y.2 _ (x2.fz _ _ t).seq;rw[hv]at this;cases this;exact rv⟩⟩
 | str y =>
  have e0:=bind_ok e;clear e;obtain⟨_,_,e2,e⟩:=e0;have e20:=need_ok e2;clear e2;obtain⟨hn,rfl⟩:=e20;have e0:=pure_ok e;clear e;obtain⟨rfl,rfl⟩:=e0;refine .inr (.inr ⟨y,rfl,k _ H1 ι1 S1 X1 fun ι2 H2 M2 x2 S2 ok=>⟨fun i d hd=>?_,?_⟩⟩)
  ·rw[List.getElem?_map]at hd
   cases hc:y.cps.toList[i]? with
   | none=>rw[hc]at hd;cases hd
   | some c =>
    rw[hc]at hd;cases hd;have hc':y.cps[i]?=some c:=by simpa using hc
    refine⟨?_,fun x' H' yy=>?_⟩
    ·exact(Array.getElem?_eq_some_iff.mp hc').1
    ·obtain⟨h1,c',h2,rfl⟩:=yy
     rw[hc']at h2;cases h2;exact⟨h1,.str _⟩
  ·show (y.cps.toList.map sgn).length=y.cps.size
   simp
 | ob t =>
  have e0:=bind_ok e;clear e;obtain⟨ds,_,e2,e⟩:=e0;have e20:=getL_ok e2;clear e2;obtain⟨g,rfl⟩:=e20;have e0:=pure_ok e;clear e;obtain⟨rfl,rfl⟩:=e0;obtain⟨a,vs,h1,h2,h3,h4⟩:=sim_list S1 (.ob t) g;cases h1;refine .inl ⟨_,vs,rfl,SqL.of h3,k _ H1 ι1 S1 X1 fun ι2 H2 M2 x2 S2 ok=>?_⟩;have ok':M2[_]?=some (MO.lst ds):=ok;obtain⟨a2,vs2,g1,g2,g3,g4⟩:=sim_list S2 (.ob (x2.pre _ _ h2)) ok';cases g1;refine⟨fun i d hd=>?_,⟨vs2,SqL.of g3,Nat.le_of_eq (g4.length.symm)⟩⟩;obtain⟨v,hv,rv⟩:=g4.get hd;exact⟨⟨_,v,SqL.of g3,hv⟩,fun x' H' y=>⟨y.1,by have:=y.2 _ (SqL.of g3);rw[hv]at this;cases this;exact rv⟩⟩
 | _=>exact(stop_ok e).elim
theorem itr_ok {K:PySem.W.Frag}{ι:List Addr}{H:Hp}{lo hi:Int}:ItOk K ι H ⟨none,rngD lo hi⟩ (Itr lo (hi - lo).toNat):=fun ι2 H2 M2 x2 S2 _=>by
 refine⟨fun i d hd=>?_,?_⟩
 ·unfold rngD at hd
  rw[List.getElem?_map]at hd;cases hc:(List.range (hi - lo).toNat)[i]? with
  | none=>rw[hc]at hd;cases hd
  | some c =>
   rw[hc]at hd;cases hd;obtain⟨h1,h2⟩:=List.getElem?_eq_some_iff.mp hc;rw[List.length_range]at h1;rw[List.getElem_range]at h2;subst h2;refine⟨h1,fun x' H' y=>?_⟩;obtain⟨y1,rfl⟩:=y;exact⟨y1,.int _⟩
 ·show (hi - lo).toNat<=(rngD lo hi).length
  unfold rngD;rw[List.length_map,List.length_range];exact Nat.le_refl _
theorem LI.rng1 {K:PySem.W.Frag}{f:DE}(σ:St)(H:Hp)(R:It->Hp->Prop)(h:LI K (fun ρ=>do
  let x <- f ρ
  (match x with
  | .int i=>do need (small i);pure ⟨none,rngD 0 i⟩
  | _=>Mo.stop)) σ H R):iRng1 (tCons (LE K f) tNil) σ H R:=by
 obtain⟨ι,ρ,M,src,M',S,Rr,e,k⟩:=h;have e0:=bind_ok e;clear e;obtain⟨x,M1,e1,e⟩:=e0;refine⟨ι,ρ,M,x,M1,S,Rr,e1,fun v H1 ι1 r1 S1 X1=>?_⟩;cases r1 with
 | int i =>
  have e0:=bind_ok e;clear e;obtain⟨_,_,e2,e⟩:=e0;have e20:=need_ok e2;clear e2;obtain⟨hn,rfl⟩:=e20;have e0:=pure_ok e;clear e;obtain⟨rfl,rfl⟩:=e0;refine⟨i,rfl,hn.1,hn.2,k _ H1 ι1 S1 X1 ?_⟩
  have:=@itr_ok K ι1 H1 0 i
  rw[Int.sub_zero]at this;exact this
 | _=>exact(stop_ok e).elim
theorem LI.rng2 {K:PySem.W.Frag}{f g:DE}(σ:St)(H:Hp)(R:It->Hp->Prop)(h:LI K (fun ρ=>do
  let x <- f ρ
  let y <- g ρ
  (match x,y with
  | .int i,.int j=>do need (small i/\small j);pure ⟨none,rngD i j⟩
  | _,_=>Mo.stop)) σ H R):iRng2 (tCons (LE K f) (tCons (LE K g) tNil)) σ H R:=by
 obtain⟨ι,ρ,M,src,M',S,Rr,e,k⟩:=h;have e0:=bind_ok e;clear e;obtain⟨x,M1,e1,e⟩:=e0;have e0:=bind_ok e;clear e;obtain⟨y,M2,e2,e⟩:=e0;refine⟨ι,ρ,M,x,M1,S,Rr,e1,fun v H1 ι1 r1 S1 X1=>?_⟩;refine⟨ι1,ρ,M1,y,M2,S1,Rr.mono X1,e2,fun u H2 ι2 r2 S2 X2=>?_⟩;cases r1 with
 | int i =>
  cases r2 with
  | int j =>
   have e0:=bind_ok e;clear e;obtain⟨_,_,e2,e⟩:=e0;have e20:=need_ok e2;clear e2;obtain⟨hn,rfl⟩:=e20;have e0:=pure_ok e;clear e;obtain⟨rfl,rfl⟩:=e0;exact⟨i,j,rfl,⟨hn.1.1,hn.1.2,hn.2.1,hn.2.2⟩,k _ H2 ι2 S2 (X1.trans X2) itr_ok⟩
  | _=>exact(stop_ok e).elim
 | _=>exact(stop_ok e).elim
theorem stand_ok {ck:Option (Nat×List D)}{M M':MH}{u:Unit}(h:stand ck M=some (.ok u,M')):okM ck M/\M'=M:=by
 unfold stand at h;split at h
 ·rename_i hp;cases h;exact⟨hp,rfl⟩
 ·cases h
theorem LS.loop {K:PySem.W.Frag}{i:Nat}{fs:Ev->Mo Src}{fb:Ev->Mo Fl}(D:Ends)(σ:St)(H:Hp)(h:LS K (fun ρ=>do let s <- fs ρ;loopD s.ck i fb s.ds ρ) D σ H):tFor (LI K fs) (gName i) (LS K fb) D σ H:=by
 obtain⟨ι,ρ,M,fl,M',S,R,e,k⟩:=h;have e0:=bind_ok e;clear e;obtain⟨src,M1,e1,e⟩:=e0;refine⟨ι,ρ,M,src,M1,S,R,e1,fun J H1 ι1 S1 X1 hJ=>?_⟩;refine⟨fun j m σ' H'=>m=src.ds.length - j/\j<=src.ds.length/\∃ ι' ρ' M2,Sim K ι' M2 H'/\EnvR K ι' H' ρ' σ'/\Ext K ι1 H1 ι' H'/\loopD src.ck i fb (src.ds.drop j) ρ' M2=some (.ok fl,M'),
  ⟨_,rfl,Nat.zero_le _,ι1,ρ,M1,S1,R.mono X1,Ext.refl,e⟩,?_⟩
 rintro j m σ' H' ⟨rfl,hj,ι',ρ',M2,S2,R2,X2,e2⟩;by_cases hlt:j < src.ds.length
 ·right
  rw[List.drop_eq_getElem_cons hlt]at e2;have e20:=bind_ok e2;clear e2;obtain⟨_,_,e3,e2⟩:=e20;have e30:=stand_ok e3;clear e3;obtain⟨ok,rfl⟩:=e30;have e20:=bind_ok e2;clear e2;obtain⟨f,M3,e3,e2⟩:=e20;obtain⟨go,yld⟩:=(hJ ι' H' _ X2 S2 ok).1 j _ (List.getElem?_eq_getElem hlt);refine⟨go,fun σ3 H3=>∃ ι3 ρ3 M4,Sim K ι3 M4 H3/\EnvR K ι3 H3 ρ3 σ3/\Ext K ι1 H1 ι3 H3/\loopD src.ck i fb (src.ds.drop (j + 1)) ρ3 M4=some (.ok fl,M'),
   fun σ3 H3 ⟨ι3,ρ3,M4,h1,h2,h3,h4⟩=>⟨src.ds.length - (j + 1),by omega,rfl,hlt,ι3,ρ3,M4,h1,h2,h3,h4⟩,fun x H'' y=>?_⟩
  obtain⟨rfl,rx⟩:=yld x H'' y;refine⟨ι',_,_,f,M3,S2,R2.set rx i,e3,fun H3 ι3 S3 X3=>?_⟩;cases f with
  | nx ρ3=>exact fun σ3 R3=>⟨ι3,ρ3,M3,S3,R3,X2.trans X3,e2⟩
  | ct ρ3=>exact fun σ3 R3=>⟨ι3,ρ3,M3,S3,R3,X2.trans X3,e2⟩
  | bk ρ3 =>
   have e20:=pure_ok e2;clear e2;obtain⟨rfl,rfl⟩:=e20;exact fun σ3 R3=>k H3 ι3 S3 ((X1.trans X2).trans X3) σ3 R3
  | rt v =>
   have e20:=pure_ok e2;clear e2;obtain⟨rfl,rfl⟩:=e20;exact fun v' r'=>k H3 ι3 S3 ((X1.trans X2).trans X3) v' r'
 ·left
  have ej:j=src.ds.length:=by first | lia | omega
  subst ej;rw[List.drop_length]at e2;have e20:=bind_ok e2;clear e2;obtain⟨_,_,e3,e2⟩:=e20;have e30:=stand_ok e3;clear e3;obtain⟨ok,rfl⟩:=e30;have e20:=pure_ok e2;clear e2;obtain⟨rfl,rfl⟩:=e20;exact⟨(hJ ι' H' _ X2 S2 ok).2,k H' ι' S2 (X1.trans X2) σ' R2⟩
theorem LE.comp {K:PySem.W.Frag}{j:Nat}{fs:Ev->Mo Src}{fc:Ev->Mo Bool}{fe:DE}(σ:St)(H:Hp)(Q:VK)(h:LE K (fun ρ=>do
  let s <- fs ρ
  need (s.ds.length<=sizeLine)
  let ys <- compD s.ck fc fe (ρ.set j none) s.ds
  newM (.lst ys)) σ H Q):tComp (LI K fs) (gName 0) 1 (LT K fc) (LE K fe) σ H Q:=by
 obtain⟨ι,ρ,M,d,M',S,R,e,k⟩:=h;have e0:=bind_ok e;clear e;obtain⟨src,M1,e1,e⟩:=e0;have e0:=bind_ok e;clear e;obtain⟨_,_,e2,e⟩:=e0;have e20:=need_ok e2;clear e2;obtain⟨hn,rfl⟩:=e20;have e0:=bind_ok e;clear e;obtain⟨all,M2,e2,e⟩:=e0;refine⟨ι,ρ,M,src,_,S,R,e1,fun J H1 ι1 S1 X1 hJ=>?_⟩;refine⟨fun i m ys H'=>m=src.ds.length - i/\i<=src.ds.length/\ys.length<=i/\∃ ι' ds rest M3,Sim K ι' M3 H'/\Ext K ι1 H1 ι' H'/\Reps K ι' H' ds ys/\compD src.ck fc fe (ρ.set j none) (src.ds.drop i) M3=some (.ok rest,M2)/\all=ds++rest,
  ⟨_,rfl,Nat.zero_le _,Nat.le_refl _,ι1,[],all,_,S1,Ext.refl,.nil,e2,rfl⟩,?_⟩
 rintro i m ys H' ⟨rfl,hi,hy,ι',ds,rest,M3,S3,X3,r3,e3,ea⟩;by_cases hlt:i < src.ds.length
 ·right
  rw[List.drop_eq_getElem_cons hlt]at e3;have e30:=bind_ok e3;clear e3;obtain⟨_,_,e4,e3⟩:=e30;have e40:=stand_ok e4;clear e4;obtain⟨ok,rfl⟩:=e40;have e30:=bind_ok e3;clear e3;obtain⟨b,M4,e4,e3⟩:=e30;obtain⟨go,yld⟩:=(hJ ι' H' _ X3 S3 ok).1 i _ (List.getElem?_eq_getElem hlt);refine⟨go,by omega,fun v H'' os ho y=>?_⟩;obtain⟨rfl,rx⟩:=yld v H'' y;obtain⟨o1,rfl⟩:=List.length_eq_one_iff.mp ho;refine⟨[some v],rfl,rfl,?_⟩;have RR:EnvR K ι' H'' (some src.ds[i]::ρ.set j none) (some v::σ):=((R.mono X1).mono X3).comp rx j;refine⟨ι',_,_,b,M4,S3,RR,e4,fun H4 ι4 S4 X4=>?_⟩;cases b with
  | true =>
   rw[if_pos rfl]at e3 ⊢;have e30:=bind_ok e3;clear e3;obtain⟨y',M5,e5,e3⟩:=e30;have e30:=bind_ok e3;clear e3;obtain⟨ys',M6,e6,e3⟩:=e30;have e30:=pure_ok e3;clear e3;obtain⟨rfl,rfl⟩:=e30;refine⟨ι4,_,_,y',M5,S4,RR.mono X4,e5,fun v5 H5 ι5 r5 S5 X5=>?_⟩;exact⟨src.ds.length - (i + 1),by omega,rfl,hlt,by rw[List.length_append];exact Nat.succ_le_succ hy,ι5,ds++[y'],ys',M5,S5,(X3.trans X4).trans X5,((r3.mono X4).mono X5).append (.cons r5 .nil),e6,by rw[ea,List.append_assoc];rfl⟩
  | false =>
   rw[if_neg Bool.false_ne_true]at e3 ⊢;exact⟨src.ds.length - (i + 1),by omega,rfl,hlt,Nat.le_succ_of_le hy,ι4,ds,rest,M4,S4,X3.trans X4,r3.mono X4,e3,ea⟩
 ·left
  have ei:i=src.ds.length:=by first | lia | omega
  subst ei;rw[List.drop_length]at e3;have e30:=bind_ok e3;clear e3;obtain⟨_,_,e4,e3⟩:=e30;have e40:=stand_ok e4;clear e4;obtain⟨ok,rfl⟩:=e40;have e30:=pure_ok e3;clear e3;obtain⟨rfl,rfl⟩:=e30;rw[List.append_nil]at ea;subst ea;refine⟨(hJ ι' H' _ X3 S3 ok).2,by omega,new_list S3 r3 e fun v H5 ι5 r5 S5 X5=>k v H5 ι5 r5 S5 ((X1.trans X3).trans X5)⟩
end
end L3
namespace L3
open PySem PySem.Spec PyProof.Rows L2
section
variable {X:Cx}{pins:List (Addr×Obj)}{σ:St}{H:Hp}{s:Shared}{h':Heap}
structure Young (X:Cx) (pins:List (Addr×Obj)) (a:Addr):Prop where
 lo:X.s₀.heap.objs.size<=a
 fr:a≠X.env.locals
 cl:∀ y c,X.env.cells.lookup y=some c->c≠a
 pn:∀ p∈X.pn++pins,p.1≠a
theorem young_of (I:Inv X pins σ H s){a:Addr}(h:s.heap.objs.size<=a):Young X pins a:=by
 refine⟨Nat.le_trans I.sz h,Nat.ne_of_gt (Nat.lt_of_lt_of_le I.lt h),fun y c e z=>?_,fun p hp z=>?_⟩
 ·obtain⟨v,o,ho,_⟩:=I.cell y c e
  exact absurd (Nat.lt_of_lt_of_le (Heap.lt_size ho) (by rw[z];exact h)) (Nat.lt_irrefl _)
 ·exact absurd (Nat.lt_of_lt_of_le (Heap.lt_size (I.pin p hp).1) (by rw[z];exact h)) (Nat.lt_irrefl _)
theorem inv_adopt (I:Inv X pins σ H s){a:Addr}{o:HO}(hn:H a=none)(y:Young X pins a)(new:ObjOk X.prog X.w (upd H a o) s.heap a o):Inv X pins σ (upd H a o) s where
 ok:=I.ok
 os:=I.os
 bare:=I.bare
 base:=Un.adopt I.base (Heap.get?_none_of_le y.lo) hn
 loc:=I.loc
 cell:=I.cell
 free:=by rw[upd_ne (Ne.symm y.fr)];exact I.free
 freeC:=fun x c e=>by rw[upd_ne (y.cl x c e)];exact I.freeC x c e
 pin:=fun p hp=>by
  obtain⟨h1,h2,h3⟩:=I.pin p hp;exact⟨h1,by rw[upd_ne (y.pn p hp)];exact h2,h3⟩
 hok:=HOk.adopt I.hok hn new
 len:=I.len
theorem turned2 {t':Nat}{a b:Addr}(I:Inv X pins σ H s)(k:∀ c o,c≠a->c≠b->s.heap.get? c=some o->h'.get? c=some o)(fa:FpOk X pins H a)(fb:FpOk X pins H b):Inv X pins σ H { s with heap:=h',toks:=t' }:=by
 obtain⟨a0,a1,_,a3,a4,a5⟩:=fa;obtain⟨b0,b1,_,b3,b4,b5⟩:=fb;have na:∀ c u,H c=some u->c≠a:=fun c u e z=>by rw[z,a0]at e;cases e
 have nb:∀ c u,H c=some u->c≠b:=fun c u e z=>by rw[z,b0]at e;cases e
 have k':∀ c o,c ∉ [a,b]->s.heap.get? c=some o->h'.get? c=some o:=fun c o hc e=>k c o (fun z=>hc (by simp[z])) (fun z=>hc (by simp[z])) e;refine I.step (g':=s.gens) (d':=s.drawn) (ch:=[a,b]) (fun c hc=>?_) (fun c o _ _ hc e _=>k' c o hc e) (fun c o _ _ hc e _=>⟨o.slots,k' c o hc e⟩) (fun _ _ _ _ n=>n)
  (fun c o hc e=>⟨o,k' c o hc e⟩) (fun _ _ e=>e) (fun _ _ _ e=>e) (fun c ps e=>⟨#[],by rw[e];simp⟩) (fun m hm=>?_) (fun c u e=>?_) I.bare
 ·rcases List.mem_cons.mp hc with rfl | hc
  ·exact⟨a3,a1,a4,a5⟩
  ·rw[List.mem_singleton.mp hc]
   exact⟨b3,b1,b4,b5⟩
 ·obtain⟨o,es,ep,ho,r⟩:=hm
  exact⟨o,es,ep,k _ o (Ne.symm a1) (Ne.symm b1) ho,r⟩
 ·refine(I.hok c u e).stay (fun d v hd q=>?_) (fun _ q=>q) fun _ _ q=>q
  rcases hd with z | z
  ·exact k d v (by rw[z];exact na c u e) (by rw[z];exact nb c u e) q
  ·exact k d v (na d _ z) (nb d _ z) q
end
noncomputable def Ite (K:PySem.W.Frag)(a:Addr):It :=
 ⟨fun i H=>∃ xs x,SqL K H a xs/\xs[i]?=some x,fun i H x H'=>∃ p v,x=.ref p/\H p=none/\H'=upd H p (.tup [.int i,v])/\∀ xs,SqL K H a xs->xs[i]?=some v,fun i H=>∃ xs,SqL K H a xs/\xs.length<=i⟩
theorem turn_enum {P:Program}{w:World}{K:PySem.W.Frag}{es:List Expr}{x1:Nat}{pos:Pos}(a e it:Addr)(ne:e≠it):Turn P w K (.Tuple es x1 pos) (Ite K a) [e,it] e (fun i h=>(∃ old,IsEnum h e it i old)/\h.IsListIter it a i) where
 mem:=by simp
 obj:=fun i h st b hb=>by
  obtain⟨⟨old,he⟩,o,h1,c,d⟩:=st;rcases List.mem_cons.mp hb with rfl | hb
  ·exact⟨_,he,fun v z=>by cases z⟩
  ·rw[List.mem_singleton.mp hb]
   exact⟨o,h1,fun v z=>by rw[d]at z;cases z⟩
 keep:=fun i h h' st k=>by
  obtain⟨⟨old,he⟩,hi⟩:=st;exact⟨⟨old,k e (by simp) _ he⟩,hi.at fun o q=>k it (by simp) o q⟩
 item:=by
  intro X hP hw hK hc i pins s σ H E I hf st hg;subst hP hw hK;obtain⟨⟨old,he⟩,hi⟩:=st;obtain⟨xs,x,hq,hx⟩:=hg;obtain⟨its,rv,p,hz⟩:=I.list hq;obtain⟨u,hu,ru⟩:=rv.get hx;have fe:=hf e (by simp);have fi:=hf it (by simp);refine wpAny_pyNext_enum_item he hi p.isList (x:=u) (by simpa using hu) ne fun h1 ho hi1 ht hs1 hk=>?_;refine⟨_,rfl,wpAny_letOwnedTupleGo_enum (s:={ s with heap:=h1,toks:=s.toks + 1 }) ho fun h2 he2 sb=>?_⟩;have sb:Heap.SameBut e h1 h2:=sb;have lte:e < s.heap.objs.size:=Heap.lt_size he;have keep:∀ c o,c≠e->c≠it->s.heap.get? c=some o->h2.get? c=some o:=fun c o n1 n2 q=>(sb.2 c n1).trans (hk c o n1 n2 q);have I1:Inv X pins σ H { s with heap:=h2,toks:=s.toks + 1 }:=turned2 I keep fe fi;have fr:H s.heap.objs.size=none:=I.hok.fresh (Nat.le_refl _);have ht2:h2.get? s.heap.objs.size=some { cls:=.type "tuple",data:=.seq #[.int i s.toks,u] }:=(sb.2 _ (Nat.ne_of_gt lte)).trans ht;have y:Young X pins s.heap.objs.size:=young_of I (Nat.le_refl _);have I2:Inv X pins σ (upd H s.heap.objs.size (.tup [.int i,x])) { s with heap:=h2,toks:=s.toks + 1 } :=
   inv_adopt I1 fr y ⟨by show 2<=sizeLine;decide,[.int i s.toks,u],.cons ⟨_,rfl⟩ (.cons ru .nil),⟨⟨_,ht2,rfl,0,rfl⟩,fun o q=>by rw[ht2]at q;cases q;exact⟨rfl,rfl⟩⟩⟩
  refine⟨.ref s.heap.objs.size,_,I2,rfl,⟨_,x,rfl,fr,rfl,fun ys hy=>by rw[I.list_inj hy hq];exact hx⟩,⟨⟨u,?_⟩,?_⟩,fun b hb=>?_⟩
  ·have:((i + 1:Nat):Int)=(i:Int) + 1:=by first | lia | omega
   rw[this];exact he2
  ·exact hi1.extBut sb.extBut (Ne.symm ne)
  ·have hbn:H b=none:=(hf b hb).1
   rcases List.mem_cons.mp hb with rfl | hb
   ·rw[upd_ne (Nat.ne_of_lt lte)];exact hbn
   ·have eb:=List.mem_singleton.mp hb
    subst eb;obtain⟨o,h3,_⟩:=hi;rw[upd_ne (Nat.ne_of_lt (Heap.lt_size h3))];exact hbn
 done:=by
  intro X hP hw hK hc i pins s σ H E I hf st hg;subst hP hw hK;obtain⟨⟨old,he⟩,hi⟩:=st;obtain⟨xs,hq,hx⟩:=hg;obtain⟨its,rv,p,hz⟩:=I.list hq;obtain⟨f0,f1,f2,f3,f4,f5⟩:=hf it (by simp);have hl:=rv.length;exact wpAny_pyNext_enum_end (I.ok.hd hc) he hi p.isList (by simp;omega) fun h' eb=>⟨rfl,I.turned (t':=s.toks) (fun b o hb e=>eb b o hb e) f0 f1 f3 f4 f5⟩
 self:=fun _ _ _ _ _ st h=>by
  obtain⟨⟨old,he⟩,hi⟩:=st;exact wpAny_pyIter_enum he h
section
variable {prog:Program}{w:World}{A:Around}{E:Value->Shared->Prop}{s:Shared}
theorem nextOf_tuple_item {it t:Addr}{i:Nat}{items:Array Value}{x:Value}{Q:Value->Shared->Prop}(hit:IsTupIter s.heap it t i)(ht:IsTup s.heap t items)(hx:items[i]?=some x)
  (hQ:∀ h',IsTupIter h' it t (i + 1)->Heap.SameBut it s.heap h'->Q x { s with heap:=h' }):wpAny (model prog w) A (Builtin.SmallTypes.nextOf (.ref it)) Q E s:=by
 obtain⟨o,ho,hc,hd⟩:=id hit;obtain⟨ol,hol,_,nl,hdl⟩:=ht;unfold Builtin.SmallTypes.nextOf;refine wpAny_bind (wpAny_callSpecial?_slot (name:=Str.ofString "__next__") hit.typeIs slot_tupleiter_next (wpAny_call_entry slot_tupleiter_next hit.typeIs entry_tupleiter_next ?_ (args_tupleiter_next _)));show wpAny _ _ (field (.ref it) 0 >>= _) _ _ s;refine wpAny_bind (wpAny_field ho hd (x:=.ref t) rfl ?_);show wpAny _ _ (if (Value.ref t==Value.none)=true then _ else _) _ _ s;rw[if_neg (show ¬ ((Value.ref t==Value.none)=true) from Bool.false_ne_true)];show wpAny _ _ (field (.ref it) 1 >>= _) _ _ s;refine wpAny_bind (wpAny_field ho hd (x:=.int i 0) rfl ?_);show wpAny _ _ (seqItems? (.ref t) >>= _) _ _ s;refine wpAny_bind (wpAny_seqItems hol hdl ?_);simp only[Int.toNat_natCast,hx];refine wpAny_bind (wpAny_setField ho hd (by simp) (wpAny_pure ⟨x,rfl,wpAny_pure (hQ _ ?_ (Heap.SameBut.update ..))⟩));exact⟨_,Heap.get?_update_self _ ho (Obj.isFreed_of_fields (Obj.data_mapFields hd _)),(Obj.cls_mapFields ..).trans hc,by rw[Obj.data_mapFields hd];simp[rawInt]⟩
theorem nextOf_tuple_end {it t:Addr}{i:Nat}{items:Array Value}{Q:Value->Shared->Prop}(hh:A.handled=none)(hit:IsTupIter s.heap it t i)(ht:IsTup s.heap t items)(hx:items[i]?=none)
  (hE:∀ h' e,Heap.ExtBut it s.heap h'->(∃ o,h'.get? e=some o/\o.cls=.type "StopIteration")->E (.ref e) { s with heap:=h' }):wpAny (model prog w) A (Builtin.SmallTypes.nextOf (.ref it)) Q E s:=by
 obtain⟨o,ho,hc,hd⟩:=id hit;obtain⟨ol,hol,_,nl,hdl⟩:=ht;unfold Builtin.SmallTypes.nextOf;refine wpAny_bind (wpAny_callSpecial?_slot (name:=Str.ofString "__next__") hit.typeIs slot_tupleiter_next (wpAny_call_entry slot_tupleiter_next hit.typeIs entry_tupleiter_next ?_ (args_tupleiter_next _)));show wpAny _ _ (field (.ref it) 0 >>= _) _ _ s;refine wpAny_bind (wpAny_field ho hd (x:=.ref t) rfl ?_);show wpAny _ _ (if (Value.ref t==Value.none)=true then _ else _) _ _ s;rw[if_neg (show ¬ ((Value.ref t==Value.none)=true) from Bool.false_ne_true)];show wpAny _ _ (field (.ref it) 1 >>= _) _ _ s;refine wpAny_bind (wpAny_field ho hd (x:=.int i 0) rfl ?_);show wpAny _ _ (seqItems? (.ref t) >>= _) _ _ s;refine wpAny_bind (wpAny_seqItems hol hdl ?_);simp only[Int.toNat_natCast,hx];refine wpAny_bind (wpAny_rule (wpAny_bind (wpAny_setField ho hd (by simp) ?_)));show wpAny _ _ (newExc (.type "StopIteration") [] >>= _) _ _ _;refine wpAny_bind ?_;simp only[newExc,newTuple];refine wpAny_bind (wpAny_newObj_type ?_ (by size_fits));refine wpAny_bind (m:=firstArgMember _ _) (wpAny_of_eq (a:=Value.none) (by first | rfl | (simp only[firstArgMember];rfl)) ?_)
 refine wpAny_newObj_type ?_ (by size_fits);simp only[raiseNew];refine wpAny_bind (wpAny_handled ?_);first | rw[show A.in1.handled=none from hh] | rw[hh]
 refine wpAny_bind (wpAny_pure (wpAny_throw ?_));exact hE _ _ (((Heap.SameBut.update ..).extBut.push _).push _) ⟨_,Heap.get?_push_size _ rfl,rfl⟩
theorem draws_tup (hh:A.handled=none)(it t:Addr)(hne:t≠it)(items:Array Value):Draws prog w A it [it,t] items.size (fun i v=>items[i]?=some v) (fun i h=>IsTupIter h it t i/\IsTup h t items) where
 live:=fun _ _ st=>let ⟨o,ho,_⟩:=st.1;⟨o,ho⟩
 frame:=fun _ _ _ st hk=>⟨let ⟨o,ho,r⟩:=st.1;⟨o,hk it (by simp) _ ho,r⟩,let ⟨o,ho,r⟩:=st.2;⟨o,hk t (by simp) _ ho,r⟩⟩
 item:=fun i s Q E hi st hQ=>by
  refine nextOf_tuple_item st.1 st.2 (x:=items[i]) (by simp[hi]) fun h' hit' hs'=>?_;exact hQ _ h' s.toks (by simp[hi]) ⟨hit',let ⟨o,ho,r⟩:=st.2;⟨o,hs'.extBut t o hne ho,r⟩⟩ hs'
 done:=fun s Q E st hE=>nextOf_tuple_end hh st.1 st.2 (by simp) hE
end
noncomputable def iEnum (K:PySem.W.Frag)(ta:TA):TI:=fun σ H R=>ta σ H fun vs H1=>∃ a,vs=[.ref a]/\(∃ xs,SqL K H1 a xs)/\R (Ite K a) H1
theorem pi_enum {X:Cx}{es:List Expr}{x1:Nat}{tp:Pos}{a:Expr}{ta:TA}{p pos:Pos}(hg:Gl X "enumerate")(hm:X.mg "enumerate" = none)(ha:PA X [a] ta)(hs:starEach [a] X.env=[(false,eval a X.env)]:=by rfl):PI X (.Tuple es x1 tp) (.Call (.Name "enumerate" p) [a] [] pos) (iEnum X.K ta):=by
 intro pins s σ H R I h;refine Call_ (ld_blt I hg hm boot_enumerate (PyProof.Rows.callWith_type1 (thn (ha pos pins s σ H _ I h) fun us s1 ⟨vs,H1,I1,r1,q1⟩=>?_) hs rfl));obtain⟨l,e,⟨xs,hq⟩,q⟩:=q1;subst e;cases r1 with
 | cons r rr =>
  cases rr;cases r;obtain⟨its,rv,pl,hz⟩:=I1.list hq;refine call_enumerate_list pl.isList fun h' he hi hsz hk=>?_;have I2:Inv X pins σ H1 { s1 with heap:=h' }:=I1.kept (t':=s1.toks) hk;refine wpAny_pyIter_enum (s:={ s1 with heap:=h' }) he ?_;refine⟨s1.heap.objs.size + 1,[s1.heap.objs.size + 1,s1.heap.objs.size],_,_,H1,rfl,I2,turn_enum l _ _ (Nat.succ_ne_self _),⟨⟨_,he⟩,hi⟩,fun b hb=>?_,q⟩;rcases List.mem_cons.mp hb with rfl | hb
  ·exact I1.fpOk (Nat.le_succ _) (I1.hok.fresh (Nat.le_succ _))
  ·rw[List.mem_singleton.mp hb]
   exact I1.fpOk (Nat.le_refl _) (I1.hok.fresh (Nat.le_refl _))
noncomputable def ItOk2 (K:PySem.W.Frag)(ι:List Addr)(H:Hp)(src:Src)(J:It):Prop:=∀ (ι2:List Addr) (H2:Hp) (M2:MH),Ext K ι H ι2 H2->Sim K ι2 M2 H2->okM src.ck M2 ->
 (∀ (i:Nat) (d:D),src.ds[i]?=some d->J.go i H2/\∀ x H',J.yld i H2 x H'->Sim K ι2 M2 H'/\Ext K ι2 H2 ι2 H'/\Rep K ι2 H' d x)/\J.stop src.ds.length H2
noncomputable def LI2 (K:PySem.W.Frag)(f:Ev->Mo Src):TI:=fun σ H R=>∃ ι ρ M src M',Sim K ι M H/\EnvR K ι H ρ σ/\f ρ M=some (.ok src,M') /\
 ∀ J H' ι',Sim K ι' M' H'->Ext K ι H ι' H'->ItOk2 K ι' H' src J->R J H'
theorem LI2.to {K:PySem.W.Frag}{f:Ev->Mo Src}(σ:St)(H:Hp)(R:It->Hp->Prop)(h:LI2 K f σ H R):LI K f σ H R:=by
 obtain⟨ι,ρ,M,src,M',S,Rr,e,k⟩:=h;refine⟨ι,ρ,M,src,M',S,Rr,e,fun J H' ι' S' X' ok=>k J H' ι' S' X' fun ι2 H2 M2 x2 S2 hk=>?_⟩;obtain⟨h1,h2⟩:=ok ι2 H2 M2 x2 S2 hk;refine⟨fun i d hd=>?_,h2⟩;obtain⟨go,y⟩:=h1 i d hd;refine⟨go,fun x H'' hy=>?_⟩;obtain⟨rfl,r⟩:=y x H'' hy;exact⟨S2,Ext.refl,r⟩
theorem enum_get {ds:List D}{i:Nat}{d:D}(h:(enumD ds)[i]?=some d):∃ x,ds[i]?=some x/\d=.tup [.int i,x]:=by
 unfold enumD at h;rw[List.getElem?_mapIdx]at h;obtain⟨x,h1,h2⟩:=Option.map_eq_some_iff.mp h;exact⟨x,h1,h2.symm⟩
theorem enum_len {ds:List D}:(enumD ds).length=ds.length:=List.length_mapIdx
theorem LI2.enum {K:PySem.W.Frag}{f:DE}(σ:St)(H:Hp)(R:It->Hp->Prop)(h:LI2 K (fun ρ=>do let x <- f ρ;enumS x) σ H R):iEnum K (tCons (LE K f) tNil) σ H R:=by
 obtain⟨ι,ρ,M,src,M',S,Rr,e,k⟩:=h;have e0:=bind_ok e;clear e;obtain⟨x,M1,e1,e⟩:=e0;refine⟨ι,ρ,M,x,M1,S,Rr,e1,fun v H1 ι1 r1 S1 X1=>?_⟩;have key:∀ {a:Addr} {xs:List V} {ds:List D} {ck:Option (Nat×List D)},SqL K H1 a xs->(∀ ι2 H2 M2,Ext K ι1 H1 ι2 H2->Sim K ι2 M2 H2->okM ck M2->∃ ys,SqL K H2 a ys/\Reps K ι2 H2 ds ys)->ItOk2 K ι1 H1 ⟨ck,enumD ds⟩ (Ite K a):=by
  intro a xs ds ck hq hr ι2 H2 M2 x2 S2 ok;obtain⟨ys,hy,r⟩:=hr ι2 H2 M2 x2 S2 ok;refine⟨fun i d hd=>?_,⟨ys,hy,by rw[enum_len,r.length];exact Nat.le_refl _⟩⟩;obtain⟨x,hx,rfl⟩:=enum_get hd;obtain⟨v,hv,rv⟩:=r.get hx;refine⟨⟨ys,v,hy,hv⟩,fun x' H' y=>?_⟩;obtain⟨p,v',rfl,hp,rfl,hz⟩:=y
  have:=hz ys hy
  rw[hv]at this;cases this;have X3:Ext K ι2 H2 ι2 (upd H2 p (.tup [.int i,v])):=Ext.tupN hp;exact⟨S2.tupN hp,X3,.tup upd_same (.cons (.int _) (.cons (rv.mono X3) .nil))⟩
 cases r1 with
 | fl t q =>
  have e0:=pure_ok e;clear e;obtain⟨rfl,rfl⟩:=e0;exact⟨_,rfl,⟨_,t.seq⟩,k _ H1 ι1 S1 X1 (key t.seq fun ι2 H2 M2 x2 S2 _=>⟨_,(x2.fz _ _ t).seq,q.mono x2⟩)⟩
 | ob t =>
  have e0:=bind_ok e;clear e;obtain⟨ds,M2,e2,e⟩:=e0;obtain⟨g,rfl⟩:=getL_ok e2;have e0:=pure_ok e;clear e;obtain⟨rfl,rfl⟩:=e0;obtain⟨a,vs,h1,h2,h3,h4⟩:=sim_list S1 (.ob t) g;cases h1;refine⟨_,rfl,⟨_,SqL.of h3⟩,k _ H1 ι1 S1 X1 (key (SqL.of h3) fun ι2 H2 M2 x2 S2 ok=>?_)⟩;have ok':M2[_]?=some (MO.lst ds):=ok;obtain⟨a2,vs2,g1,g2,g3,g4⟩:=sim_list S2 (.ob (x2.pre _ _ h2)) ok';cases g1;exact⟨_,SqL.of g3,g4⟩
 | _=>exact(stop_ok e).elim
theorem pairD_eq {d:D}{p:D×D}(h:pairD d=some p):d=.tup [p.1,p.2]:=by
 unfold pairD at h;split at h
 ·cases h;rfl
 ·cases h
theorem LS.lpair {K:PySem.W.Frag}{i j:Nat}{fs:Ev->Mo Src}{fb:Ev->Mo Fl}(D:Ends)(σ:St)(H:Hp)(h:LS K (fun ρ=>do let s <- fs ρ;loopP s.ck i j fb s.ds ρ) D σ H):tFor (LI2 K fs) (gTup K 2 (gCons (gName i) (gCons (gName j) gNil))) (LS K fb) D σ H:=by
 obtain⟨ι,ρ,M,fl,M',S,R,e,k⟩:=h;have e0:=bind_ok e;clear e;obtain⟨src,M1,e1,e⟩:=e0;refine⟨ι,ρ,M,src,M1,S,R,e1,fun J H1 ι1 S1 X1 hJ=>?_⟩;refine⟨fun n m σ' H'=>m=src.ds.length - n/\n<=src.ds.length/\∃ ι' ρ' M2,Sim K ι' M2 H'/\EnvR K ι' H' ρ' σ'/\Ext K ι1 H1 ι' H'/\loopP src.ck i j fb (src.ds.drop n) ρ' M2=some (.ok fl,M'),
  ⟨_,rfl,Nat.zero_le _,ι1,ρ,M1,S1,R.mono X1,Ext.refl,e⟩,?_⟩
 rintro n m σ' H' ⟨rfl,hj,ι',ρ',M2,S2,R2,X2,e2⟩;by_cases hlt:n < src.ds.length
 ·right
  rw[List.drop_eq_getElem_cons hlt]at e2;have e20:=bind_ok e2;clear e2;obtain⟨_,_,e3,e2⟩:=e20;have e30:=stand_ok e3;clear e3;obtain⟨ok,rfl⟩:=e30;have e20:=bind_ok e2;clear e2;obtain⟨pr,_,e3,e2⟩:=e20;have e30:=lift_ok e3;clear e3;obtain⟨hpr,rfl⟩:=e30;have e20:=bind_ok e2;clear e2;obtain⟨f,M3,e3,e2⟩:=e20;obtain⟨go,yld⟩:=(hJ ι' H' _ X2 S2 ok).1 n _ (List.getElem?_eq_getElem hlt);refine⟨go,fun σ3 H3=>∃ ι3 ρ3 M4,Sim K ι3 M4 H3/\EnvR K ι3 H3 ρ3 σ3/\Ext K ι1 H1 ι3 H3/\loopP src.ck i j fb (src.ds.drop (n + 1)) ρ3 M4=some (.ok fl,M'),
   fun σ3 H3 ⟨ι3,ρ3,M4,h1,h2,h3,h4⟩=>⟨src.ds.length - (n + 1),by omega,rfl,hlt,ι3,ρ3,M4,h1,h2,h3,h4⟩,fun x H'' y=>?_⟩
  obtain⟨S5,X5,rx⟩:=yld x H'' y;rw[pairD_eq hpr]at rx;cases rx with
  | tup t q =>
   cases q with
   | cons q1 q2 =>
    cases q2 with
    | cons q2 q3 =>
     cases q3;refine⟨_,_,rfl,sqt t,rfl,_,_,rfl,_,_,rfl,rfl,?_⟩;refine⟨ι',_,_,f,M3,S5,((R2.mono X5).set q1 i).set q2 j,e3,fun H3 ι3 S3 X3=>?_⟩;have X6:=X2.trans (X5.trans X3);cases f with
     | nx ρ3=>exact fun σ3 R3=>⟨ι3,ρ3,M3,S3,R3,X6,e2⟩
     | ct ρ3=>exact fun σ3 R3=>⟨ι3,ρ3,M3,S3,R3,X6,e2⟩
     | bk ρ3 =>
      have e20:=pure_ok e2;clear e2;obtain⟨rfl,rfl⟩:=e20;exact fun σ3 R3=>k H3 ι3 S3 (X1.trans X6) σ3 R3
     | rt v =>
      have e20:=pure_ok e2;clear e2;obtain⟨rfl,rfl⟩:=e20;exact fun v' r'=>k H3 ι3 S3 (X1.trans X6) v' r'
 ·left
  have ej:n=src.ds.length:=by first | lia | omega
  subst ej;rw[List.drop_length]at e2;have e20:=bind_ok e2;clear e2;obtain⟨_,_,e3,e2⟩:=e20;have e30:=stand_ok e3;clear e3;obtain⟨ok,rfl⟩:=e30;have e20:=pure_ok e2;clear e2;obtain⟨rfl,rfl⟩:=e20;exact⟨(hJ ι' H' _ X2 S2 ok).2,k H' ι' S2 (X1.trans X2) σ' R2⟩
end L3
namespace L3
open PySem PySem.Spec PyProof.Rows L2
section
variable {X:Cx}
theorem entry_itemiter_iter:entryFor table "dict_itemiterator.__iter__" = some Builtin.«dict_keyiterator.__iter__» :=
 entryFor_alias (id':="dict_keyiterator.__iter__") (by kernel_rfl) rfl (by decide +kernel) (by kernel_rfl)
noncomputable def Itg (ks:List (Str×Str)):It :=
 ⟨fun i _=>i < ks.length,fun i H x H'=>∃ p kv,x=.ref p/\H p=none/\ks[i]?=some kv/\H'=upd H p (.tup [.str kv.1,.str kv.2]),fun i _=>ks.length<=i⟩
theorem gd_at {ks:List (Str×Str)}:∀ {vs:List (Key×Value)} {i:Nat},KV (ks.map fun p=>((.inr p.1:Key),V.str p.2)) vs->i < ks.length->∃ kv v,ks[i]?=some kv/\vs[i]?=some ((.inr kv.1:Key),v)/\RelV (V.str kv.2) v:=by
 induction ks with
 | nil=>exact fun _ h=>absurd h (Nat.not_lt_zero _)
 | cons p ks ih =>
  intro vs i r h;cases r with
  | cons h1 t =>
   cases i with
   | zero=>exact⟨p,_,rfl,by rw[List.getElem?_cons_zero];congr 1;exact Prod.ext h1.1.symm rfl,h1.2⟩
   | succ i =>
    obtain⟨kv,v,a1,a2,a3⟩:=ih (i:=i) t (by simpa using h);exact⟨kv,v,by simpa using a1,by simpa using a2,a3⟩
theorem turn_gd {P:Program}{w:World}{K:PySem.W.Frag}{es:List Expr}{x1:Nat}{pos:Pos}{a it:Addr}{ks:List (Str×Str)}{vs:List (Key×Value)}{ep:Nat}(rel:KV (ks.map fun p=>((.inr p.1:Key),V.str p.2)) vs)(hd:∀ h:Heap,K.In h->h.DictAt (mixKind P w) a vs ep) :
  Turn P w K (.Tuple es x1 pos) (Itg ks) [it] it (fun i h=>∃ ok ov,IsItemIter h it a i vs.length ep ok ov) where
 mem:=by simp
 obj:=fun i h st b hb=>by
  obtain⟨ok,ov,e⟩:=st;rw[List.mem_singleton.mp hb];exact⟨_,e,fun v z=>by cases z⟩
 keep:=fun i h h' st k=>by
  obtain⟨ok,ov,e⟩:=st;exact⟨ok,ov,k it (by simp) _ e⟩
 item:=by
  intro X hP hw hK hc i pins s σ H E I hf st hg;subst hP hw hK;obtain⟨ok,ov,he⟩:=st;obtain⟨kv,v,a1,a2,a3⟩:=gd_at rel hg;obtain⟨f0,f1,f2,f3,f4,f5⟩:=hf it (by simp);refine wpAny_pyNext_items_item he (hd _ I.kIn) a2 fun key h1 hkey ho ht hs1 hk=>?_;refine⟨_,rfl,wpAny_letOwnedTupleGo_items (s:={ s with heap:=h1 }) ho fun h2 he2 sb=>?_⟩;have sb:Heap.SameBut it h1 h2:=sb;have lte:it < s.heap.objs.size:=Heap.lt_size he;obtain⟨tk,rfl⟩:∃ t,key=Value.str kv.1 t:=by
   have hkey:keyIs (.inr kv.1) key=true:=hkey;rcases keyIs_shape hkey with ⟨i,t,e,_⟩|⟨x,t,e,e2⟩
   ·cases e
   ·cases e;exact⟨t,e2⟩
  have I1:Inv X pins σ H { s with heap:=h2 }:=I.turned (t':=s.toks) (fun b o hb e=>(sb.2 b hb).trans (hk b o hb e)) f0 f1 f3 f4 f5;have fr:H s.heap.objs.size=none:=I.hok.fresh (Nat.le_refl _);have ht2:h2.get? s.heap.objs.size=some { cls:=.type "tuple",data:=.seq #[.str kv.1 tk,v] }:=(sb.2 _ (Nat.ne_of_gt lte)).trans ht;have I2:Inv X pins σ (upd H s.heap.objs.size (.tup [.str kv.1,.str kv.2])) { s with heap:=h2 } :=
   inv_adopt I1 fr (young_of I (Nat.le_refl _)) ⟨by show 2<=sizeLine;decide,[.str kv.1 tk,v],.cons ⟨_,rfl⟩ (.cons a3 .nil),⟨⟨_,ht2,rfl,0,rfl⟩,fun o q=>by rw[ht2]at q;cases q;exact⟨rfl,rfl⟩⟩⟩
  refine⟨.ref s.heap.objs.size,_,I2,rfl,⟨_,kv,rfl,fr,a1,rfl⟩,⟨_,_,he2⟩,fun b hb=>?_⟩;rw[List.mem_singleton.mp hb,upd_ne (Nat.ne_of_lt lte)];exact f0
 done:=by
  intro X hP hw hK hc i pins s σ H E I hf st hg;subst hP hw hK;obtain⟨ok,ov,he⟩:=st;obtain⟨f0,f1,f2,f3,f4,f5⟩:=hf it (by simp);have hl:vs.length=ks.length:=by rw[<- Paired.length rel,List.length_map]
  exact wpAny_pyNext_items_end (I.ok.hd hc) he (hd _ I.kIn) (List.getElem?_eq_none (by rw[hl];exact hg)) fun h' eb=>⟨rfl,I.turned (t':=s.toks) (fun b o hb e=>eb b o hb e) f0 f1 f3 f4 f5⟩
 self:=fun A i s Q E st h=>by
  obtain⟨ok,ov,he⟩:=st;have ty:s.TypeIs (.ref it) "dict_itemiterator":=⟨_,he,rfl⟩;refine wpAny_pyIter_slot ty F.slot_dict_itemiterator_iter (wpAny_call_entry F.slot_dict_itemiterator_iter ty entry_itemiter_iter ?_ (F.args_dict_itemiterator_iter_1 _));show wpAny _ _ (ret (.ref it)) _ _ s;exact wpAny_pure ⟨_,rfl,"dict_itemiterator",_,ty,F.slot_dict_itemiterator_next.lookup,h⟩
noncomputable def iGd (ks:List (Str×Str)):TI:=fun _ H R=>R (Itg ks) H
theorem pi_gd {x:Str}{a:Addr}{ks:List (Str×Str)}{es:List Expr}{x1:Nat}{pos p1 p2 p3:Pos}(hg:GdK X.K X.prog X.w a ks)(gl:Gl X x)(hm:X.mg x=some (.ref a))(hdb:(x==("__debug__" : Str))=false)
  (hbase:attributeBase (.Name x p1) ("items" : Str) X.env (eval (.Name x p1) X.env)=eval (.Name x p1) X.env) (hline:(p2.endLine==p3.line)=true) :
  PI X (.Tuple es x1 pos) (.Call (.Attribute (.Name x p1) ("items" : Str) p2) [] [] p3) (iGd ks):=by
 intro pins s σ H R I h;obtain⟨hsys,vs,ep,rel,hd⟩:=hg;refine wpAny_Call_method0_late hbase hline (thn (pe_glob (v:=.ref a) gl hm rfl hdb pins s σ H (fun y H'=>y=.ref a/\H'=H) I ⟨rfl,rfl⟩) fun v s1 ⟨y,H1,I1,r1,ey,eH⟩=>?_);subst ey eH;cases r1;have dd:=hd _ I1.kIn;obtain⟨ob,eb,hob,hex,_⟩:=id dd;refine⟨"dict","dict.items",PySem.F.plainAttrs_dict,PySem.F.slot_dict_items,PySem.F.type_dict_items,dd.dictOf.typeIs,fun b e=>?_,Calls.callWith_builtin rfl (PySem.evalArgs_none ?_)⟩
 ·cases e
  exact⟨ob,hob,hex.2.1⟩
 refine call_meetsIn PySem.F.slot_dict_items dd.dictOf.typeIs PySem.F.entry_dict_items (PySem.F.args_dict_items_1 _) (meets_dict_items (mixKind X.prog X.w) a hsys) ⟨⟨vs,dd.dictOf⟩,?_⟩;have I2:Inv X pins σ H1 { s1 with heap:=s1.heap.push { cls:=.type "dict_items",data:=.fields #[.ref a] } }:=I1.kept (t':=s1.toks) fun b o e=>Heap.get?_push_of_some _ e;refine wpAny_pyIter_items (v:=s1.heap.objs.size) ⟨_,Heap.get?_push_size _ rfl,rfl,rfl⟩ (hd _ I2.kIn) ?_;refine⟨_,[(s1.heap.push { cls:=.type "dict_items",data:=.fields #[.ref a] }).objs.size],_,_,H1,rfl,I2.kept (t':=s1.toks) fun b o e=>Heap.get?_push_of_some _ e,turn_gd rel hd,⟨.none,.none,Heap.get?_push_size _ rfl⟩,fun b hb=>?_,h⟩;have e:b=(s1.heap.push { cls:=.type "dict_items",data:=.fields #[.ref a] }).objs.size:=by simpa using hb
 subst e;exact I2.fpOk (Nat.le_refl _) (I2.hok.fresh (Nat.le_refl _))
theorem LI2.gd {K:PySem.W.Frag}{g:Option D}{d:D}{ks:List (Str×Str)}(hg:g=some d)(hk:gdKs d=some ks)(σ:St)(H:Hp)(R:It->Hp->Prop)(h:LI2 K (fun _=>do let ks <- lift (g.bind gdKs);pure ⟨none,gdDs ks⟩) σ H R):iGd ks σ H R:=by
 obtain⟨ι,ρ,M,src,M',S,Rr,e,k⟩:=h;have e0:=bind_ok e;clear e;obtain⟨ks',M1,e1,e⟩:=e0;have e10:=lift_ok e1;clear e1;obtain⟨h1,rfl⟩:=e10;have e0:=pure_ok e;clear e;obtain⟨rfl,rfl⟩:=e0;rw[hg]at h1;have h1:gdKs d=some ks':=h1;rw[hk]at h1;cases h1;refine k (Itg ks) H ι S Ext.refl fun ι2 H2 M2 x2 S2 _=>⟨fun i d hd=>?_,?_⟩
 ·have hd:(ks.map fun p=>D.tup [.str p.1,.str p.2])[i]?=some d:=hd
  rw[List.getElem?_map]at hd;obtain⟨kv,hkv,rfl⟩:=Option.map_eq_some_iff.mp hd;refine⟨(List.getElem?_eq_some_iff.mp hkv).1,fun x H' hy=>?_⟩;obtain⟨p,kv',rfl,hp,hkv',rfl⟩:=hy;rw[hkv]at hkv';cases hkv';exact⟨S2.tupN hp,Ext.tupN hp,.tup upd_same (.cons (.str _) (.cons (.str _) .nil))⟩
 ·show ks.length<=(gdDs ks).length
  unfold gdDs;rw[List.length_map];exact Nat.le_refl _
end
end L3
namespace L3
open PySem PySem.Spec PyProof.Rows L2
structure Sound (Γ:Ctx) (n:Nat):Prop where
 E:∀ (S:Sc) (X:Cx) (e:Expr) (i:IE),CxOk Γ S X->cE S n e=some i->PE X e (LE X.K (semE Γ i))
 Es:∀ (S:Sc) (X:Cx) (es:List Expr) (i:IEs),CxOk Γ S X->cEs S n es=some i->PA X es (LA X.K (semEs Γ i))/\es.all plainE=true
 O:∀ (S:Sc) (X:Cx) (e:Option Expr) (i:IEo),CxOk Γ S X->cO S n e=some i->PO X e (LO X.K (semO Γ i))
 T:∀ (S:Sc) (X:Cx) (tg e:Expr) (i:IT),CxOk Γ S X->cT S n e=some i->PI X tg e (LI X.K (semT Γ i))/\∀ x,foldedSetIterable e X.env x=pure x
 C:∀ (S:Sc) (X:Cx) (e:Expr) (i:IC),CxOk Γ S X->cC S n e=some i->PT X e (LT X.K (semC Γ i))
 Co:∀ (S:Sc) (X:Cx) (e:List Expr) (i:ICo),CxOk Γ S X->cCo S n e=some i->PTs X e (LT X.K (semCo Γ i))
section
variable {Γ:Ctx}{n:Nat}{K:PySem.W.Frag}
theorem obind {α β:Type}{o:Option α}{f:α->Option β}{b:β}(h:(o >>= f)=some b):∃ a,o=some a/\f a=some b:=by
 cases o with
 | none=>cases h
 | some a=>exact⟨a,rfl,h⟩
theorem varD_ok {ρ:Ev}{i:Nat}{M M':MH}{d:D}(e:varD ρ i M=some (.ok d,M')):ρ[i]?=some (some d)/\M'=M:=by
 unfold varD at e;cases q:ρ[i]? with
 | none=>rw[q]at e;exact(stop_ok e).elim
 | some o =>
  cases o with
  | none=>rw[q]at e;exact(stop_ok e).elim
  | some d'=>rw[q]at e;cases e;exact⟨rfl,rfl⟩
theorem LE.var {i:Nat}(σ:St)(H:Hp)(Q:VK)(h:LE K (semE Γ (.var i)) σ H Q):tVar i σ H Q:=by
 obtain⟨ι,ρ,M,d,M',S,R,e,k⟩:=h;have e:varD ρ i M=some (.ok d,M'):=e;obtain⟨hd,rfl⟩:=varD_ok e;obtain⟨v,hv,rv⟩:=R.val i d hd;exact⟨v,hv,k v H ι rv S Ext.refl⟩
theorem LE.const {d:D}{v:V}(hv:∀ ι H,Rep K ι H d v)(σ:St)(H:Hp)(Q:VK)(h:LE K (fun _=>pure d) σ H Q):tC v σ H Q:=by
 obtain⟨ι,ρ,M,d',M',S,R,e,k⟩:=h;have e0:=pure_ok e;clear e;obtain⟨rfl,rfl⟩:=e0;exact k v H ι (hv ι H) S Ext.refl
theorem LE.chain {op op':CmpOp}{fa fb fc:DE}(σ:St)(H:Hp)(Q:VK)(h:LE K (fun ρ=>do
  let x <- fa ρ
  let y <- fb ρ
  let k <- cmpD op x y
  if k=true then do let z <- fc ρ;let k' <- cmpD op' y z;pure (.bl k') else pure (.bl false)) σ H Q):tChain (R2S K (gCmp op)) (R2S K (gCmp op')) (LE K fa) (LE K fb) (LE K fc) σ H Q:=by
 obtain⟨ι,ρ,M,d,M',S,R,e,k⟩:=h;have e0:=bind_ok e;clear e;obtain⟨x,M1,e1,e⟩:=e0;have e0:=bind_ok e;clear e;obtain⟨y,M2,e2,e⟩:=e0;have e0:=bind_ok e;clear e;obtain⟨b,M3,e3,e⟩:=e0;refine⟨ι,ρ,M,x,M1,S,R,e1,fun v1 H1 ι1 r1 S1 X1=>?_⟩;refine⟨ι1,ρ,M1,y,M2,S1,R.mono X1,e2,fun v2 H2 ι2 r2 S2 X2=>?_⟩;refine⟨ι2,M2,M3,x,y,.bl b,S2,r1.mono X2,r2,by unfold gCmp;rw[ok_bind e3];rfl,fun v3 H3 ι3 r3 S3 X3=>?_⟩;cases r3;refine⟨b,rfl,?_⟩;cases b with
 | true =>
  rw[if_pos rfl]at e ⊢;have e0:=bind_ok e;clear e;obtain⟨z,M4,e4,e⟩:=e0;have e0:=bind_ok e;clear e;obtain⟨b',M5,e5,e⟩:=e0;refine⟨ι3,ρ,M3,z,M4,S3,((R.mono X1).mono X2).mono X3,e4,fun v4 H4 ι4 r4 S4 X4=>?_⟩;have e0:=pure_ok e;clear e;obtain⟨rfl,rfl⟩:=e0;exact⟨ι4,M4,_,y,z,.bl b',S4,(r2.mono X3).mono X4,r4,by unfold gCmp;rw[ok_bind e5];rfl,fun v5 H5 ι5 r5 S5 X5=>k v5 H5 ι5 r5 S5 ((((X1.trans X2).trans X3).trans X4).trans X5)⟩
 | false =>
  rw[if_neg Bool.false_ne_true]at e ⊢;have e0:=pure_ok e;clear e;obtain⟨rfl,rfl⟩:=e0;exact k _ H3 ι3 (.bl _) S3 ((X1.trans X2).trans X3)
theorem LE.and {fa fb:DE}(σ:St)(H:Hp)(Q:VK)(h:LE K (fun ρ=>do let x <- fa ρ;let k <- lift (boolD x);if k=true then fb ρ else pure (.bl false)) σ H Q):tAndV (LE K fa) (LE K fb) σ H Q:=by
 obtain⟨ι,ρ,M,d,M',S,R,e,k⟩:=h;have e0:=bind_ok e;clear e;obtain⟨x,M1,e1,e⟩:=e0;have e0:=bind_ok e;clear e;obtain⟨b,M2,e2,e⟩:=e0;have e20:=lift_ok e2;clear e2;obtain⟨hb,rfl⟩:=e20;refine⟨ι,ρ,M,x,_,S,R,e1,fun v1 H1 ι1 r1 S1 X1=>?_⟩;cases r1 <;> simp[boolD]at hb;subst hb;refine⟨_,rfl,?_⟩;split at e
 ·rename_i hb
  rw[if_pos hb];exact⟨ι1,ρ,_,d,M',S1,R.mono X1,e,fun v H' ι' r' S' X'=>k v H' ι' r' S' (X1.trans X')⟩
 ·rename_i hb
  rw[if_neg hb];have e0:=pure_ok e;clear e;obtain⟨rfl,rfl⟩:=e0;exact k _ H1 ι1 (.bl _) S1 X1
theorem LE.or {fa fb:DE}(σ:St)(H:Hp)(Q:VK)(h:LE K (fun ρ=>do let x <- fa ρ;let k <- lift (boolD x);if k=true then pure (.bl true) else fb ρ) σ H Q):tOrV (LE K fa) (LE K fb) σ H Q:=by
 obtain⟨ι,ρ,M,d,M',S,R,e,k⟩:=h;have e0:=bind_ok e;clear e;obtain⟨x,M1,e1,e⟩:=e0;have e0:=bind_ok e;clear e;obtain⟨b,M2,e2,e⟩:=e0;have e20:=lift_ok e2;clear e2;obtain⟨hb,rfl⟩:=e20;refine⟨ι,ρ,M,x,_,S,R,e1,fun v1 H1 ι1 r1 S1 X1=>?_⟩;cases r1 <;> simp[boolD]at hb;subst hb;refine⟨_,rfl,?_⟩;split at e
 ·rename_i hb
  rw[if_pos hb];have e0:=pure_ok e;clear e;obtain⟨rfl,rfl⟩:=e0;exact k _ H1 ι1 (.bl _) S1 X1
 ·rename_i hb
  rw[if_neg hb];exact⟨ι1,ρ,_,d,M',S1,R.mono X1,e,fun v H' ι' r' S' X'=>k v H' ι' r' S' (X1.trans X')⟩
theorem LE.not {fa:DE}(σ:St)(H:Hp)(Q:VK)(h:LE K (fun ρ=>do let x <- fa ρ;let k <- lift (boolD x);pure (.bl (!k))) σ H Q):tNotV (LE K fa) σ H Q:=by
 obtain⟨ι,ρ,M,d,M',S,R,e,k⟩:=h;have e0:=bind_ok e;clear e;obtain⟨x,M1,e1,e⟩:=e0;have e0:=bind_ok e;clear e;obtain⟨b,M2,e2,e⟩:=e0;have e20:=lift_ok e2;clear e2;obtain⟨hb,rfl⟩:=e20;have e0:=pure_ok e;clear e;obtain⟨rfl,rfl⟩:=e0;refine⟨ι,ρ,M,x,_,S,R,e1,fun v1 H1 ι1 r1 S1 X1=>?_⟩;cases r1 <;> simp[boolD]at hb;subst hb;exact⟨_,rfl,k _ H1 ι1 (.bl _) S1 X1⟩
theorem LE.ite {fc:Ev->Mo Bool}{fa fb:DE}(σ:St)(H:Hp)(Q:VK)(h:LE K (fun ρ=>do let k <- fc ρ;if k=true then fa ρ else fb ρ) σ H Q):tIf (LT K fc) (LE K fa) (LE K fb) σ H Q:=by
 obtain⟨ι,ρ,M,d,M',S,R,e,k⟩:=h;have e0:=bind_ok e;clear e;obtain⟨b,M1,e1,e⟩:=e0;refine⟨ι,ρ,M,b,M1,S,R,e1,fun H1 ι1 S1 X1=>?_⟩;split at e
 ·rename_i hb
  rw[if_pos hb];exact⟨ι1,ρ,_,d,M',S1,R.mono X1,e,fun v H' ι' r' S' X'=>k v H' ι' r' S' (X1.trans X')⟩
 ·rename_i hb
  rw[if_neg hb];exact⟨ι1,ρ,_,d,M',S1,R.mono X1,e,fun v H' ι' r' S' X'=>k v H' ι' r' S' (X1.trans X')⟩
theorem LE.tup {fa:Ev->Mo (List D)}(σ:St)(H:Hp)(Q:VK)(h:LE K (fun ρ=>do let xs <- fa ρ;need (xs.length<=sizeLine);pure (.tup xs)) σ H Q):tTup (LA K fa) σ H Q:=by
 obtain⟨ι,ρ,M,d,M',S,R,e,k⟩:=h;have e0:=bind_ok e;clear e;obtain⟨xs,M1,e1,e⟩:=e0;have e0:=bind_ok e;clear e;obtain⟨_,_,e2,e⟩:=e0;have e20:=need_ok e2;clear e2;obtain⟨hn,rfl⟩:=e20;have e0:=pure_ok e;clear e;obtain⟨rfl,rfl⟩:=e0;refine⟨ι,ρ,M,xs,_,S,R,e1,fun vs H1 ι1 r1 S1 X1=>⟨by rw[<- r1.length];exact hn,new_tup S1 r1 fun v H' ι' r' S' X'=>k v H' ι' r' S' (X1.trans X')⟩⟩
theorem LE.lst {fa:Ev->Mo (List D)}(σ:St)(H:Hp)(Q:VK)(h:LE K (fun ρ=>do let xs <- fa ρ;need (xs.length<=sizeLine);newM (.lst xs)) σ H Q):tLst (LA K fa) σ H Q:=by
 obtain⟨ι,ρ,M,d,M',S,R,e,k⟩:=h;have e0:=bind_ok e;clear e;obtain⟨xs,M1,e1,e⟩:=e0;have e0:=bind_ok e;clear e;obtain⟨_,_,e2,e⟩:=e0;have e20:=need_ok e2;clear e2;obtain⟨hn,rfl⟩:=e20;refine⟨ι,ρ,M,xs,_,S,R,e1,fun vs H1 ι1 r1 S1 X1=>⟨by rw[<- r1.length];exact hn,new_list S1 r1 e fun v H' ι' r' S' X'=>k v H' ι' r' S' (X1.trans X')⟩⟩
theorem LE.dic (σ:St)(H:Hp)(Q:VK)(h:LE K (fun _=>newM (.dic [])) σ H Q):tDNewK σ H Q:=by
 obtain⟨ι,ρ,M,d,M',S,R,e,k⟩:=h;intro p hp;have e0:=newM_ok e;clear e;obtain⟨rfl,rfl⟩:=e0;exact k _ _ (ι++[p]) (.ob (by rw[<- S.len,List.getElem?_append_right (Nat.le_refl _),Nat.sub_self];rfl)) (S.new hp ⟨[],rfl,.nil⟩) (Ext.new hp)
theorem LE.slc {fa:DE}{fl fh:Ev->Mo (Option Int)}(σ:St)(H:Hp)(Q:VK)(h:LE K (fun ρ=>do let x <- fa ρ;let l <- fl ρ;let h <- fh ρ;sliceD x l h) σ H Q):tSl (RSl K) (LE K fa) (LO K fl) (LO K fh) σ H Q:=by
 obtain⟨ι,ρ,M,d,M',S,R,e,k⟩:=h;have e0:=bind_ok e;clear e;obtain⟨x,M1,e1,e⟩:=e0;have e0:=bind_ok e;clear e;obtain⟨l,M2,e2,e⟩:=e0;have e0:=bind_ok e;clear e;obtain⟨r,M3,e3,e⟩:=e0;refine⟨ι,ρ,M,x,M1,S,R,e1,fun v1 H1 ι1 r1 S1 X1=>?_⟩;refine⟨ι1,ρ,M1,l,M2,S1,R.mono X1,e2,fun H2 ι2 S2 X2=>?_⟩;refine⟨ι2,ρ,M2,r,M3,S2,(R.mono X1).mono X2,e3,fun H3 ι3 S3 X3=>?_⟩;exact⟨ι3,M3,M',x,d,S3,(r1.mono X2).mono X3,e,fun v H' ι' r' S' X'=>k v H' ι' r' S' (((X1.trans X2).trans X3).trans X')⟩
theorem LE.call {fa:Ev->Mo (List D)}{g:List D->Mo D}{m:Nat}(σ:St)(H:Hp)(Q:VK)(hm:∀ ds M d M',g ds M=some (.ok d,M')->ds.length=m)(h:LE K (fun ρ=>do let xs <- fa ρ;g xs) σ H Q):tCall (spOf K m g) [] E0 (LA K fa) σ H Q:=by
 obtain⟨ι,ρ,M,d,M',S,R,e,k⟩:=h;have e0:=bind_ok e;clear e;obtain⟨xs,M1,e1,e⟩:=e0;refine⟨ι,ρ,M,xs,M1,S,R,e1,fun vs H1 ι1 r1 S1 X1=>?_⟩;show spOf K m g (vs++[]) H1 Q E0;rw[List.append_nil];exact⟨by rw[<- r1.length];exact hm _ _ _ _ e,ι1,M1,M',xs,d,S1,r1,e,fun v H' ι' r' S' X'=>k v H' ι' r' S' (X1.trans X')⟩
theorem LE.blt {fa:Ev->Mo (List D)}{g:List D->Mo D}(σ:St)(H:Hp)(Q:VK)(h:LE K (fun ρ=>do let xs <- fa ρ;g xs) σ H Q):tCB (RLS K g) (LA K fa) σ H Q:=by
 obtain⟨ι,ρ,M,d,M',S,R,e,k⟩:=h;have e0:=bind_ok e;clear e;obtain⟨xs,M1,e1,e⟩:=e0;refine⟨ι,ρ,M,xs,M1,S,R,e1,fun vs H1 ι1 r1 S1 X1=>?_⟩;exact⟨ι1,M1,M',xs,d,S1,r1,e,fun v H' ι' r' S' X'=>k v H' ι' r' S' (X1.trans X')⟩
theorem LA.nil (σ:St)(H:Hp)(Q:List V->Hp->Prop)(h:LA K (fun _=>pure []) σ H Q):tNil σ H Q:=by
 obtain⟨ι,ρ,M,d,M',S,R,e,k⟩:=h;have e0:=pure_ok e;clear e;obtain⟨rfl,rfl⟩:=e0;exact k [] H ι .nil S Ext.refl
theorem LA.cons {fa:DE}{fs:Ev->Mo (List D)}(σ:St)(H:Hp)(Q:List V->Hp->Prop)(h:LA K (fun ρ=>do let x <- fa ρ;let xs <- fs ρ;pure (x::xs)) σ H Q):tCons (LE K fa) (LA K fs) σ H Q:=by
 obtain⟨ι,ρ,M,d,M',S,R,e,k⟩:=h;have e0:=bind_ok e;clear e;obtain⟨x,M1,e1,e⟩:=e0;have e0:=bind_ok e;clear e;obtain⟨xs,M2,e2,e⟩:=e0;have e0:=pure_ok e;clear e;obtain⟨rfl,rfl⟩:=e0;refine⟨ι,ρ,M,x,M1,S,R,e1,fun v1 H1 ι1 r1 S1 X1=>?_⟩;exact⟨ι1,ρ,M1,xs,_,S1,R.mono X1,e2,fun vs H2 ι2 r2 S2 X2=>k _ H2 ι2 (.cons (r1.mono X2) r2) S2 (X1.trans X2)⟩
theorem LO.none (σ:St)(H:Hp)(Q:Option Int->Hp->Prop)(h:LO K (fun _=>pure Option.none) σ H Q):tNoPart σ H Q:=by
 obtain⟨ι,ρ,M,d,M',S,R,e,k⟩:=h;have e0:=pure_ok e;clear e;obtain⟨rfl,rfl⟩:=e0;exact k H ι S Ext.refl
theorem LO.some {fa:DE}(σ:St)(H:Hp)(Q:Option Int->Hp->Prop)(h:LO K (fun ρ=>do
  let x <- fa ρ
  (match x with
  | .int i=>pure (Option.some i)
  | _=>Mo.stop)) σ H Q):tPart (LE K fa) σ H Q:=by
 obtain⟨ι,ρ,M,d,M',S,R,e,k⟩:=h;have e0:=bind_ok e;clear e;obtain⟨x,M1,e1,e⟩:=e0;refine⟨ι,ρ,M,x,M1,S,R,e1,fun v1 H1 ι1 r1 S1 X1=>?_⟩;cases r1 with
 | int i=>have e0:=pure_ok e;clear e;obtain⟨rfl,rfl⟩:=e0;exact⟨i,rfl,k H1 ι1 S1 X1⟩
 | _=>exact(stop_ok e).elim
theorem LT.test {fa:DE}(σ:St)(H:Hp)(Q:Bool->Hp->Prop)(h:LT K (fun ρ=>do let x <- fa ρ;lift (boolD x)) σ H Q):tTest (LE K fa) σ H Q:=by
 obtain⟨ι,ρ,M,b,M',S,R,e,k⟩:=h;have e0:=bind_ok e;clear e;obtain⟨x,M1,e1,e⟩:=e0;have e0:=lift_ok e;clear e;obtain⟨hb,rfl⟩:=e0;refine⟨ι,ρ,M,x,_,S,R,e1,fun v1 H1 ι1 r1 S1 X1=>?_⟩;cases r1 <;> simp[boolD]at hb;subst hb;exact⟨_,rfl,k H1 ι1 S1 X1⟩
theorem LT.not {fa:Ev->Mo Bool}(σ:St)(H:Hp)(Q:Bool->Hp->Prop)(h:LT K (fun ρ=>do let k <- fa ρ;pure (!k)) σ H Q):tNot (LT K fa) σ H Q:=by
 obtain⟨ι,ρ,M,b,M',S,R,e,k⟩:=h;have e0:=bind_ok e;clear e;obtain⟨x,M1,e1,e⟩:=e0;have e0:=pure_ok e;clear e;obtain⟨rfl,rfl⟩:=e0;exact⟨ι,ρ,M,x,_,S,R,e1,fun H1 ι1 S1 X1=>k H1 ι1 S1 X1⟩
theorem LT.and {fa fb:Ev->Mo Bool}(σ:St)(H:Hp)(Q:Bool->Hp->Prop)(h:LT K (fun ρ=>do let k <- fa ρ;if k=true then fb ρ else pure false) σ H Q):tAnd (LT K fa) (LT K fb) σ H Q:=by
 obtain⟨ι,ρ,M,b,M',S,R,e,k⟩:=h;have e0:=bind_ok e;clear e;obtain⟨x,M1,e1,e⟩:=e0;refine⟨ι,ρ,M,x,M1,S,R,e1,fun H1 ι1 S1 X1=>?_⟩;split at e
 ·rename_i hb
  rw[if_pos hb];exact⟨ι1,ρ,_,b,M',S1,R.mono X1,e,fun H' ι' S' X'=>k H' ι' S' (X1.trans X')⟩
 ·rename_i hb
  rw[if_neg hb];have e0:=pure_ok e;clear e;obtain⟨rfl,rfl⟩:=e0;exact k H1 ι1 S1 X1
theorem LT.or {fa fb:Ev->Mo Bool}(σ:St)(H:Hp)(Q:Bool->Hp->Prop)(h:LT K (fun ρ=>do let k <- fa ρ;if k=true then pure true else fb ρ) σ H Q):tOr (LT K fa) (LT K fb) σ H Q:=by
 obtain⟨ι,ρ,M,b,M',S,R,e,k⟩:=h;have e0:=bind_ok e;clear e;obtain⟨x,M1,e1,e⟩:=e0;refine⟨ι,ρ,M,x,M1,S,R,e1,fun H1 ι1 S1 X1=>?_⟩;split at e
 ·rename_i hb
  rw[if_pos hb];have e0:=pure_ok e;clear e;obtain⟨rfl,rfl⟩:=e0;exact k H1 ι1 S1 X1
 ·rename_i hb
  rw[if_neg hb];exact⟨ι1,ρ,_,b,M',S1,R.mono X1,e,fun H' ι' S' X'=>k H' ι' S' (X1.trans X')⟩
theorem pt_tru {X:Cx}{a:Expr}{fa:DE}(ha:PE X a (LE X.K fa))(he:∀ whole,isTrue a X.env whole=(do let v <- whole;standAt a.pos;holding [v] (truthy v))):PT X a (LT X.K fun ρ=>do let x <- fa ρ;truD x):=by
 intro pins s σ H Q I h;obtain⟨ι,ρ,M,b,M',S,R,e,k⟩:=h;have e0:=bind_ok e;clear e;obtain⟨x,M1,e1,e⟩:=e0;refine isTrue_plain (thn (ha pins s σ H (fun v H1=>∃ ι M M' d b,Sim X.K ι M H1/\Rep X.K ι H1 d v/\truD d M=some (.ok b,M')/\(M'=M->Q b H1)) I ⟨ι,ρ,M,x,M1,S,R,e1,fun v1 H1 ι1 r1 S1 X1=>⟨ι1,M1,M',x,b,S1,r1,e,fun z=>by subst z;exact k H1 ι1 S1 X1⟩⟩) fun v s1 ⟨x,H1,I1,r1,q1⟩=>tru_all pins s1 σ H1 x v Q I1 r1 q1) (he _)
end
end L3
namespace L3
open PySem PySem.Spec PyProof.Rows L2
section
variable {Γ:Ctx}{n:Nat}
theorem mem_of_contains {x:Str}{l:List Str}(h:l.contains x=true):x∈l:=by simpa using h
noncomputable def clOf (cells:List (Str×Addr)):List (Str×NameKind)->List (Str×Addr)->List (Str×Addr)
 | [],acc=>acc
 | p::r,acc=>clOf cells r (if p.2==.free then (p.1,(cells.lookup p.1).getD 0)::acc else acc)
theorem clOf_look {cells:List (Str×Addr)}{y:Str}{c:Addr}:∀ {names:List (Str×NameKind)} {acc:List (Str×Addr)},(∀ p∈names,p.2=.free->∃ c,cells.lookup p.1=some c)->(acc.lookup y=some c->cells.lookup y=some c) ->
  (clOf cells names acc).lookup y=some c->cells.lookup y=some c
 | [],acc,_,ha,h=>ha h
 | p::r,acc,hf,ha,h=>by
  unfold clOf at h;refine clOf_look (names:=r) (fun q hq=>hf q (List.mem_cons_of_mem _ hq)) (fun h'=>?_) h;by_cases hp:p.2=.free
  ·rw[if_pos (by simpa using hp)]at h'
   obtain⟨c',hc'⟩:=hf p List.mem_cons_self hp;rw[hc',Option.getD_some,List.lookup_cons]at h';by_cases hy:y=p.1
   ·subst hy
    simp at h';subst h';exact hc'
   ·have:(y==p.1)=false:=beq_eq_false_iff_ne.mpr hy
    rw[this]at h';exact ha h'
  ·rw[if_neg (by simpa using hp)]at h'
   exact ha h'
theorem clOf_acc {cells:List (Str×Addr)}{y:Str}:∀ {names:List (Str×NameKind)} {acc:List (Str×Addr)},(∃ c,acc.lookup y=some c)->∃ c,(clOf cells names acc).lookup y=some c
 | [],_,h=>h
 | p::r,acc,h=>by
  unfold clOf;refine clOf_acc (names:=r) ?_;split
  ·rw[List.lookup_cons]
   split
   ·exact⟨_,rfl⟩
   ·exact h
  ·exact h
theorem clOf_has {cells:List (Str×Addr)}{y:Str}:∀ {names:List (Str×NameKind)} {acc:List (Str×Addr)},(y,NameKind.free)∈names->∃ c,(clOf cells names acc).lookup y=some c
 | [],_,h=>by simp at h
 | p::r,acc,h=>by
  unfold clOf;rcases List.mem_cons.mp h with h | h
  ·subst h
   refine clOf_acc ?_;rw[if_pos (by simp),List.lookup_cons];simp
  ·exact clOf_has h
theorem closureFor_eq {scope:Scope}{env:Env}(h:∀ p∈scope.names,p.2=.free->∃ c,env.cells.lookup p.1=some c):closureFor scope env=pure (clOf env.cells scope.names []):=by
 have gen:∀ (names:List (Str×NameKind)) (acc:List (Str×Addr)),(∀ p∈names,p.2=.free->∃ c,env.cells.lookup p.1=some c) ->
   (forIn names acc (fun (x:Str×NameKind) (r:List (Str×Addr))=>if (x.2==NameKind.free)=true then (cellOf env x.1 >>= fun a=>(pure (ForInStep.yield ((x.1,a)::r)):Sem (ForInStep (List (Str×Addr))))) else pure (ForInStep.yield r)):Sem (List (Str×Addr)))=pure (clOf env.cells names acc):=by
  intro names;induction names with
  | nil=>intro acc _;rfl
  | cons p r ih =>
   intro acc hf;rw[List.forIn_cons];obtain⟨name,kind⟩:=p;dsimp only;by_cases hk:kind=.free
   ·subst hk
    obtain⟨c,hc⟩:=hf (name,.free) List.mem_cons_self rfl;have e:cellOf env name=pure c:=by unfold cellOf;rw[hc]
    rw[if_pos (by rfl),e];simp only[pure_bind];rw[ih _ fun q hq=>hf q (List.mem_cons_of_mem _ hq)]
    conv=>rhs;unfold clOf
    dsimp only;rw[if_pos (by rfl),hc];rfl
   ·have hb:(kind==NameKind.free)=false:=by simpa using hk
    rw[if_neg (by rw[hb];exact Bool.false_ne_true)];simp only[pure_bind];rw[ih _ fun q hq=>hf q (List.mem_cons_of_mem _ hq)]
    conv=>rhs;unfold clOf
    dsimp only;rw[if_neg (by rw[hb];exact Bool.false_ne_true)]
 unfold closureFor;refine Eq.trans ?_ (gen scope.names [] h);exact bind_pure _
theorem compOk_sc {S:Sc}{X:Cx}{sc:Scope}{xs:List Str}(C:CxOk Γ S X)(hx:X.Ok)(h:compOk S sc xs=true):CompSc X sc (clOf X.env.cells sc.names []) xs (xs++blank S.N xs):=by
 unfold compOk at h;simp only[Bool.and_eq_true,List.all_eq_true,bne_iff_ne,ne_eq,beq_iff_eq,Bool.or_eq_true,decide_eq_true_eq]at h;obtain⟨⟨⟨⟨⟨⟨h1,h2⟩,h5⟩,h6⟩,h7⟩,h8⟩,h9⟩:=h;have hout:∀ y,sc.names.lookup y=some .free->X.env.kindOf y=some .cell\/X.env.kindOf y=some .free:=fun y hy=>by
  rcases h6 _ (lookup_mem hy) with z | z
  ·exact absurd rfl z
  ·have z':S.sc.names.lookup y=some .cell\/S.sc.names.lookup y=some .free:=z
   rcases z' with z | z
   ·obtain⟨k',q1,rfl | ⟨q2,_⟩⟩:=C.sc _ _ z
    ·exact .inl q1
    ·cases q2
   ·obtain⟨k',q1,rfl | ⟨_,rfl⟩⟩:=C.sc _ _ z
    ·exact .inr q1
    ·exact .inl q1
 have hfree:∀ p∈sc.names,p.2=.free->∃ c,X.env.cells.lookup p.1=some c:=fun p hp hf=>by
  refine hx.has p.1 (hout p.1 ?_);rw[(h7 p hp).1,hf]
 refine⟨h1,fun y hy=>(h5 y hy).1,fun x hx=>(h2 x hx).1.1,fun y hy hl=>by rw[(h7 y hy).1,hl],fun y hy=>?_,closureFor_eq hfree,fun y c=>clOf_look hfree (fun z=>by cases z),fun y hy=>clOf_has (lookup_mem hy),hout,h9,fun i y hy=>?_,fun i y hy=>?_,?_⟩
 ·rcases (h5 _ (lookup_mem hy)).2 with z | z
  ·exact absurd rfl z
  ·rcases z with z | z
   ·exact .inl (by simpa using z)
   ·exact .inr z
 ·rw[List.getElem?_append_left (List.getElem?_eq_some_iff.mp hy).1]
  exact hy
 ·have hy':(blank S.N xs)[i]?=some y:=by
   rw[List.getElem?_append_right (Nat.le_add_left ..),Nat.add_sub_cancel]at hy;exact hy
  unfold blank at hy';rw[List.getElem?_map]at hy';cases q:S.N[i]? with
  | none=>rw[q]at hy';cases hy'
  | some z =>
   rw[q]at hy';simp only[Option.map_some,Option.some.injEq]at hy';by_cases hz:z∈xs
   ·rw[if_pos (by simpa using hz)]at hy'
    subst hy';refine⟨fun e=>(h2 _ e).2 rfl,by decide,.inr fun hv=>?_⟩;have nb:∀ k,sc.names.lookup ("" : Str)=some k->False:=fun k e=>(h7 _ (lookup_mem e)).2 rfl;rcases hv with e | e | e
    ·exact nb _ e
    ·exact nb _ e
    ·exact nb _ e
   ·rw[if_neg (by simpa using hz)]at hy'
    subst hy';exact⟨hz,h8 _ (List.mem_of_getElem? q),.inl (by rw[C.n];exact q)⟩
 ·show (xs++blank S.N xs).length=X.N.length + xs.length
  unfold blank;rw[List.length_append,List.length_map,C.n,Nat.add_comm]
theorem comp_cx {S:Sc}{X:Cx}{sc:Scope}{x:List Str}(C:CxOk Γ S X)(h:compOk S sc x=true)(cl:List (Str×Addr))(Ca:Addr)(s:Shared)(H:Hp)(fp:List Addr):CxOk Γ (S.comp sc x) (cxComp X sc cl Ca (x++blank S.N x) s H fp) where
 n:=rfl
 sc:=fun y k hy=>by
  have e:(relabel sc X.env).names.lookup y=(sc.names.lookup y).map fun k=>if (k==NameKind.free&&X.env.scope.kind==.function&&X.env.kindOf y==some .cell) then NameKind.cell else k:=kind_relabel;have hy':sc.names.lookup y=some k:=hy;rw[hy']at e;refine⟨_,e,?_⟩;dsimp only;split
  ·rename_i hc
   simp only[Bool.and_eq_true,beq_iff_eq]at hc;exact .inr ⟨hc.1.1,rfl⟩
  ·exact .inl rfl
 calm:=C.calm
 hu:=C.hu
 gd:=C.gd
 nox:=rfl
 fns:=C.fns
 gls:=C.gls
 bls:=C.bls
 rfs:=C.rfs
 bw:=C.bw
 gdx:=C.gdx
 nd:=by
  unfold compOk at h;simp only[Bool.and_eq_true,decide_eq_true_eq]at h;exact h.2
theorem pg_own {X:Cx}{sc:Scope}{cl:List (Str×Addr)}{xs N':List Str}(CS:CompSc X sc cl xs N'){i:Nat}{x:Str}{px:Pos}(h:xs[i]?=some x)(Ca:Addr)(s:Shared)(H:Hp)(fp:List Addr):PG (cxComp X sc cl Ca N' s H fp) (.Name x px) (gName i) :=
 pg_name CS.nd (CS.n0 i x h) (.inl (lookup_relabel_local (CS.loc x (List.mem_of_getElem? h)))) (.inr (lookup_relabel_local (CS.loc x (List.mem_of_getElem? h))))
theorem pe_compS {S:Sc}{X:Cx}{sc:Scope}{x:Str}{px pos:Pos}{elt iter:Expr}{ifs:List Expr}{j:Nat}{fs:Ev->Mo Src}{fc:Ev->Mo Bool}{fe:DE}(C:CxOk Γ S X)(h:compOk S sc [x]=true)(hi:PI X (.Name x px) iter (LI X.K fs))(hs:∀ x,foldedSetIterable iter X.env x=pure x)
  (htc:∀ X',CxOk Γ (S.comp sc [x]) X'->X'.K=X.K->PTs X' ifs (LT X'.K fc)) (hte:∀ X',CxOk Γ (S.comp sc [x]) X'->X'.K=X.K->PE X' elt (LE X'.K fe)) :
  PE X (.ListComp elt [⟨.Name x px,iter,ifs,0⟩] sc pos) (LE X.K (fun ρ=>do
   let s <- fs ρ
   need (s.ds.length<=sizeLine)
   let ys <- compD s.ck fc fe (ρ.set j none) s.ds
   newM (.lst ys))):=by
 intro pins s σ H Q I q;have CS:=compOk_sc C I.ok h;exact pe_comp C.calm CS (fun _ _ _ _=>pg_own CS rfl _ _ _ _) hi (fun Ca s H fp=>htc _ (comp_cx C h _ Ca s H fp) rfl) (fun Ca s H fp=>hte _ (comp_cx C h _ Ca s H fp) rfl) hs pins s σ H Q I (LE.comp σ H Q q)
theorem bl_boot {x:Str}{m:Nat}{b:Bl}(h:blOf x m=some b):bootBuiltins x=some (blVal b)/\∃ y:String,x=Str.ofString y:=by
 unfold blOf at h;have key:∀ (y:String) (k:Nat),(x==(Str.ofString y)&&m==k)=true->x=Str.ofString y:=fun y k e=>by
  simp only[Bool.and_eq_true,beq_iff_eq]at e;exact e.1
 split at h
 ·rename_i e;cases h;rw[key _ _ e];exact⟨by decide +kernel,_,rfl⟩
 split at h
 ·rename_i e;cases h;rw[key _ _ e];exact⟨by decide +kernel,_,rfl⟩
 split at h
 ·rename_i e;cases h;rw[key _ _ e];exact⟨by decide +kernel,_,rfl⟩
 split at h
 ·rename_i e;cases h;rw[key _ _ e];exact⟨by decide +kernel,_,rfl⟩
 split at h
 ·rename_i e;cases h;rw[key _ _ e];exact⟨by decide +kernel,_,rfl⟩
 split at h
 ·rename_i e;cases h;rw[key _ _ e];exact⟨by decide +kernel,_,rfl⟩
 split at h
 ·rename_i e;cases h;rw[key _ _ e];exact⟨by decide +kernel,_,rfl⟩
 split at h
 ·rename_i e;cases h;rw[key _ _ e];exact⟨by decide +kernel,_,rfl⟩
 split at h
 ·rename_i e;cases h;rw[key _ _ e];exact⟨by decide +kernel,_,rfl⟩
 split at h
 ·rename_i e;cases h;rw[key _ _ e];exact⟨by decide +kernel,_,rfl⟩
 split at h
 ·rename_i e;cases h;rw[key _ _ e];exact⟨by decide +kernel,_,rfl⟩
 ·cases h
theorem plainIx_of {b:Expr}(h:ixE b=true):PlainIx b:=by
 intro o i;cases b <;> first
  | rfl
  | exact absurd h Bool.false_ne_true
end
end L3
namespace L3
open PySem PySem.Spec PyProof.Rows L2
section
variable {X:Cx}{pins:List (Addr×Obj)}{σ:St}{H:Hp}{s:Shared}{ι:List Addr}{M:MH}
theorem reads_all {n:Nat}(ih:∀ (x:D) (v:V) (u:Value) (d:PyData),Rep X.K ι H x v->RelV v u->toPy M n x=some d->d.hasDict=false/\∃ as,Reads s.heap u d as) :
  ∀ (ds:List D) (vs:List V) (us:List Value) (ps:List PyData),Reps X.K ι H ds vs->Vals vs us->toPys M n ds=some ps->PyData.hasDictAll ps=false/\∃ as,ReadsAll s.heap us ps as
 | [],_,_,ps,r,v,e=>by
  cases r;cases v;rw[toPys]at e;cases e;exact⟨rfl,_,.nil⟩
 | x::xs,_,_,ps,.cons r rs,.cons v vs,e=>by
  rw[toPys]at e;cases h1:toPy M n x with
  | none=>rw[h1]at e;cases e
  | some d =>
   cases h2:toPys M n xs with
   | none=>rw[h1,h2]at e;cases e
   | some ds =>
    rw[h1,h2]at e;cases e;obtain⟨a1,as,b1⟩:=ih x _ _ d r v h1;obtain⟨a2,bs,b2⟩:=reads_all ih xs _ _ ds rs vs h2;exact⟨by rw[PyData.hasDictAll,a1,a2];rfl,_,.cons b1 b2⟩
theorem reads_of (I:Inv X pins σ H s)(S:Sim X.K ι M H):∀ (n:Nat) (x:D) (v:V) (u:Value) (d:PyData),Rep X.K ι H x v->RelV v u->toPy M n x=some d->d.hasDict=false/\∃ as,Reads s.heap u d as
 | 0,_,_,_,_,_,_,e=>by rw[toPy]at e;cases e
 | n + 1,x,v,u,d,r,ru,e=>by
  cases r with
  | non=>rw[toPy]at e;cases e;cases ru;exact⟨rfl,_,.none⟩
  | bl b=>rw[toPy]at e;cases e;cases ru;exact⟨rfl,_,.bool b⟩
  | int i=>rw[toPy]at e;cases e;obtain⟨t,rfl⟩:=ru;exact⟨rfl,_,.int i t⟩
  | str x=>rw[toPy]at e;cases e;obtain⟨t,rfl⟩:=ru;exact⟨rfl,_,.str x t⟩
  | tup t q =>
   rw[toPy]at e;obtain⟨ps,h1,rfl⟩:=Option.map_eq_some_iff.mp e;cases ru;obtain⟨its,rv,⟨o,ho,hc,m,hd⟩,hz⟩:=I.tuple (sqt t);obtain⟨a1,as,b1⟩:=reads_all (reads_of I S n) _ _ _ ps q rv h1;exact⟨by rw[PyData.hasDict];exact a1,_,.tuple ho hc hd (by simpa using b1)⟩
  | fl t q =>
   rw[toPy]at e;obtain⟨ps,h1,rfl⟩:=Option.map_eq_some_iff.mp e;cases ru;obtain⟨its,rv,pl,hz⟩:=I.list t.seq;obtain⟨o,ho,hc,m,hd⟩:=pl.isList;obtain⟨a1,as,b1⟩:=reads_all (reads_of I S n) _ _ _ ps q rv h1;exact⟨by rw[PyData.hasDict];exact a1,_,.list ho hc hd (by simpa using b1)⟩
  | ob t =>
   rw[toPy]at e;split at e
   ·rename_i ds hk
    obtain⟨ps,h1,rfl⟩:=Option.map_eq_some_iff.mp e;cases ru;obtain⟨p,ws,g1,hi,h3,h4⟩:=sim_list S (.ob t) hk;cases g1;obtain⟨its,rv,pl,hz⟩:=I.list (SqL.of h3);obtain⟨o,ho,hc,m,hd⟩:=pl.isList;obtain⟨a1,as,b1⟩:=reads_all (reads_of I S n) _ _ _ ps h4 rv h1;exact⟨by rw[PyData.hasDict];exact a1,_,.list ho hc hd (by simpa using b1)⟩
   ·cases e
theorem call_reprO (hu:X.A.units + 100 < cLine)(hg:X.A.guards=some []):CallR X (.builtin "repr") (fun xs H Q=>∃ ι M x v t,xs=[v]/\Sim X.K ι M H/\Rep X.K ι H x v/\reprT M x=some t/\Q (.str t) H):=by
 intro pins s σ H xs us Q I rv h;obtain⟨ι,M,x,v,t,rfl,S,r,e,q⟩:=h;obtain⟨u,rfl,ru⟩:=vals1 rv;unfold reprT at e;split at e
 ·rename_i hr
  split at e
  ·rename_i d hd
   split at e
   ·rename_i hc
    cases e;simp only[Bool.and_eq_true,decide_eq_true_eq]at hc;obtain⟨⟨c1,c2⟩,c3⟩:=hc;obtain⟨h1,as,h2⟩:=reads_of I S 20 x v u d r ru hd;obtain⟨a,rfl⟩:∃ a,u=.ref a:=by
     cases r with
     | tup t q=>cases ru;exact⟨_,rfl⟩
     | fl t q=>cases ru;exact⟨_,rfl⟩
     | ob t=>cases ru;exact⟨_,rfl⟩
     | _=>cases hr
    refine repr_of_reads' h2 c1 (PyData.noDict_hsm h1) hg (by omega) (fun _ _ e=>e) (fun h' t' tk kk=>?_) c2;exact⟨.str _,H,I.kept kk,⟨_,rfl⟩,q⟩
   ·cases e
  ·cases e
 ·cases e
theorem rep_sound {Γ:Ctx}{S:Sc}{f:Str}{a:Expr}{p1 p4:Pos}{fa:DE}(C:CxOk Γ S X)(h:(f==("repr" : Str)&&okName f&&S.glo f&&S.bls.contains f)=true)(hp:plainE a=true)(ha:PE X a (LE X.K fa)) :
  PE X (.Call (.Name f p1) [a] [] p4) (LE X.K (fun ρ=>do let x <- fa ρ;reprO x)):=by
 simp only[Bool.and_eq_true,beq_iff_eq]at h;obtain⟨⟨⟨h1,h2⟩,h3⟩,h4⟩:=h;subst h1;obtain⟨o1,o2,o3⟩:=okName_debug h2;refine PE.imp (pe_callB (call_reprO C.hu C.gd) (C.glo h3) (C.bls _ (mem_of_contains h4)) PyProof.Rows.boot_repr (pa_cons ha pa_nil (star_plain hp)) o3 o1 (star_plain hp) rfl) fun σ H Q q=>?_;obtain⟨ι,ρ,M,d,M',S',R,e,k⟩:=q;obtain⟨x,M1,e1,e⟩:=bind_ok e;refine⟨ι,ρ,M,x,M1,S',R,e1,fun v1 H1 ι1 r1 S1 X1=>?_⟩;unfold reprO at e;split at e
 ·rename_i t ht
  cases e;exact⟨ι1,_,x,v1,t,rfl,S1,r1,ht,k _ H1 ι1 (.str _) S1 X1⟩
 ·cases e
end
end L3
namespace L3
open PySem PySem.Spec PyProof.Rows L2
section
variable {X:Cx}
theorem call_intB:CallR X (.type "int") (fun xs H Q=>∃ b:Bool,xs=[.bl b]/\Q (.int (if b then 1 else 0)) H):=by
 intro pins s σ H xs us Q I rv h;obtain⟨b,rfl,q⟩:=h;obtain⟨u,rfl,ru⟩:=vals1 rv;cases ru;exact call_int_bool ⟨.int (if b then 1 else 0),H,I.tok _,⟨_,rfl⟩,q⟩
theorem int_sound {Γ:Ctx}{S:Sc}{f:Str}{a:Expr}{p1 p4:Pos}{fa:DE}(C:CxOk Γ S X)(h:(f==("int" : Str)&&okName f&&S.glo f&&S.bls.contains f)=true)(hp:plainE a=true)(ha:PE X a (LE X.K fa)) :
  PE X (.Call (.Name f p1) [a] [] p4) (LE X.K (fun ρ=>do let x <- fa ρ;let b <- lift (boolD x);pure (.int (if b then 1 else 0)))):=by
 simp only[Bool.and_eq_true,beq_iff_eq]at h;obtain⟨⟨⟨h1,h2⟩,h3⟩,h4⟩:=h;subst h1;obtain⟨o1,o2,o3⟩:=okName_debug h2;refine PE.imp (pe_callTy call_intB (C.glo h3) (C.bls _ (mem_of_contains h4)) PyProof.Rows.boot_int (pa_cons ha pa_nil (star_plain hp)) o3 o1 (star_plain hp) rfl) fun σ H Q q=>?_;obtain⟨ι,ρ,M,d,M',S',R,e,k⟩:=q;obtain⟨x,M1,e1,ea⟩:=bind_ok e;obtain⟨b,M2,e2,eb⟩:=bind_ok ea;obtain⟨hb,rfl⟩:=lift_ok e2;obtain⟨rfl,rfl⟩:=pure_ok eb;refine⟨ι,ρ,M,x,_,S',R,e1,fun v1 H1 ι1 r1 S1 X1=>?_⟩;cases r1 with
 | bl c=>cases hb;exact⟨_,rfl,k _ H1 ι1 (.int _) S1 X1⟩
 | _=>cases hb
end
end L3
namespace L3
open PySem PySem.Spec PyProof.Rows L2
section
variable {X:Cx}{H:Hp}
theorem strs_ofT:∀ {ds:List D} {vs:List V} {us:List Value} {xs:List Str} {ι:List Addr},Reps X.K ι H ds vs->Vals vs us->allS ds=some xs->StrsAre us xs
 | _,_,_,_,_,.nil,.nil,h=>by cases h;exact .nil
 | _,_,_,_,_,.cons r t,.cons g g',h=>by
  unfold allS at h;split at h
  ·rename_i x xs' e1 e2
   cases h;cases r <;> first | cases e1 | skip
   obtain⟨u,rfl⟩:=g;exact .cons _ u (strs_ofT t g' e2)
  ·cases h
theorem call_setT (hc:X.calm=true):CallR X (.type "set") (fun xs H Q=>∃ p vs ι ds ts,xs=[.ref p]/\SqT X.K H p vs/\Reps X.K ι H ds vs/\allS ds=some ts/\(addAll [] ts).length < 64/\∀ q,H q=none->Q (.ref q) (upd H q (.ext fun h=>SSet X.prog X.w h q (addAll [] ts) (ledOf X.w)))):=by
 intro pins s σ H xs us Q I rv h;obtain⟨p,vs,ι,ds,ts,rfl,hp,r,ha,hz,k⟩:=h;obtain⟨u,rfl,ru⟩:=vals1 rv;cases ru;obtain⟨its,rel,pl,hl⟩:=I.tuple hp;have hst:=strs_ofT r rel ha;refine call_set_strsT (I.ok.hd hc) pl hst (by unfold scanBound;omega) fun h' tk hS kk=>?_;refine⟨.ref s.heap.objs.size,_,I.laid (t':=tk) (o:=.ext fun h=>SSet X.prog X.w h s.heap.objs.size (addAll [] ts) (ledOf X.w)) kk (Nat.le_refl _) ?_,rfl,k _ (I.hok.fresh (Nat.le_refl _))⟩;exact⟨hS,by obtain⟨o,_,_,_,e,_⟩:=hS;exact⟨o,e⟩,fun h1 h2 x k=>x.at k⟩
theorem call_lenS:CallR X (.builtin "len") (fun xs H Q=>∃ p ts,xs=[.ref p]/\H p=some (.ext fun h=>SSet X.prog X.w h p ts (ledOf X.w))/\Q (.int ts.length) H):=by
 intro pins s σ H xs us Q I rv h;obtain⟨p,ts,rfl,hp,q⟩:=h;obtain⟨u,rfl,ru⟩:=vals1 rv;cases ru;obtain⟨hS,_,_⟩:=I.hok p _ hp;obtain⟨o,es,ep,t,g1,gx,g2,el,hst,hpm,hb,hf,hl,hpl⟩:=hS;have hn:es.size=ts.length:=by rw[<- hpm.length_eq,List.length_map,Array.length_toList]
 have hb':es.size < 2 ^ 62:=Nat.lt_of_lt_of_le hb (by unfold scanBound;decide);exact call_len_set g1 gx g2 hf (by omega) ⟨.int ts.length,H,I.tok _,⟨_,by rw[hn]⟩,q⟩
theorem lset_sound {Γ:Ctx}{S:Sc}{f:Str}{b:Expr}{p1 p2 p3 p4:Pos}{fb:DE}(C:CxOk Γ S X)(h:lsetOk S f=true)(hp:plainE b=true)(ha:PE X b (LE X.K fb)) :
  PE X (.Call (.Name f p1) [.Call (.Name "set" p2) [b] [] p3] [] p4) (LE X.K (fun ρ=>do let x <- fb ρ;lenSet x)):=by
 unfold lsetOk at h;simp only[Bool.and_eq_true,beq_iff_eq]at h;obtain⟨⟨⟨⟨h1,h2⟩,h3⟩,h4⟩,h5,h6⟩:=h;subst h1;obtain⟨o1,o2,o3⟩:=okName_debug h2;have ps:=pe_callTy (X:=X) (p:=p2) (pos:=p3) (call_setT C.calm) (C.glo h5) (C.bls _ (mem_of_contains h6)) PyProof.Rows.boot_set (pa_cons ha pa_nil (star_plain hp)) (by decide) (by decide) (star_plain hp) rfl;refine PE.imp (pe_callB call_lenS (C.glo h3) (C.bls _ (mem_of_contains h4)) PySem.boot_len (pa_cons ps pa_nil) o3 o1) fun σ H Q q=>?_;obtain⟨ι,ρ,M,d,M',S',R,e,k⟩:=q;obtain⟨x,M1,e1,e⟩:=bind_ok e;refine⟨ι,ρ,M,x,M1,S',R,e1,fun v1 H1 ι1 r1 S1 X1=>?_⟩;cases r1 with
 | tup t q =>
  obtain⟨xs,M3,e3,eb⟩:=bind_ok e;obtain⟨hx,rfl⟩:=lift_ok e3;obtain⟨_,M4,e4,ec⟩:=bind_ok eb;obtain⟨hn,rfl⟩:=need_ok e4;obtain⟨rfl,rfl⟩:=pure_ok ec;refine⟨_,_,ι1,_,xs,rfl,sqt t,q,hx,hn,fun q' hq'=>?_⟩;have X2:Ext X.K ι1 H1 ι1 (upd H1 q' (.ext fun h=>SSet X.prog X.w h q' (addAll [] xs) (ledOf X.w))):=Ext.tupN hq';exact⟨q',addAll [] xs,rfl,upd_same,k _ _ ι1 (.int _) (S1.tupN hq') (X1.trans X2)⟩
 | _=>exact(stop_ok e).elim
end
end L3
namespace L3
open PySem PySem.Spec PyProof.Rows L2
section
variable {X:Cx}{pins:List (Addr×Obj)}{σ:St}{H:Hp}{s:Shared}{h':Heap}
theorem inv_letgo {t':Nat}{p:Addr}{φ:Heap->Prop}(I:Inv X pins σ (upd H p (.ext φ)) s)(hp:H p=none)(hf:X.s₀.heap.objs.size<=p)(k:∀ b o,b≠p->s.heap.get? b=some o->h'.get? b=some o) :
  Inv X pins σ H { s with heap:=h',toks:=t' }:=by
 have np:∀ b u,H b=some u->b≠p:=fun b u e z=>by rw[z,hp]at e;cases e
 have ne:∀ {b u},upd H p (.ext φ) b=some u->u≠.ext φ->b≠p:=fun {b u} e n z=>by
  rw[z,upd_same]at e;cases e;exact n rfl
 have nn:∀ {b},upd H p (.ext φ) b=none->b≠p:=fun {b} e z=>by
  rw[z,upd_same]at e;cases e
 have hL:p≠X.env.locals:=fun z=>nn I.free z.symm;refine I.step (g':=s.gens) (d':=s.drawn) (ch:=[p]) (fun b hb=>?_) (fun b o _ _ hc e _=>k b o (fun z=>hc (by simp[z])) e) (fun b o _ _ hc e _=>⟨o.slots,k b o (fun z=>hc (by simp[z])) e⟩)
  (fun b o hc _ n=>by rw[upd_ne (fun z=>hc (by simp[z]))]at n;exact n)
  (fun b o hc e=>⟨o,k b o (fun z=>hc (by simp[z])) e⟩) (fun b xs e=>by rw[upd_ne (ne e (by intro z;cases z))]at e;exact e) (fun b o u e=>by rw[upd_ne (ne e (by intro z;cases z))]at e;exact e)
  (fun b ps e=>⟨#[],by rw[upd_ne (ne e (by intro z;cases z))]at e;rw[e];simp⟩) (fun m hm=>?_) (fun b u e=>?_) I.bare
 ·have e:b=p:=by simpa using hb
  subst e;exact⟨.inr hf,hL,fun x c e=>nn (I.freeC x c e),fun q hq=>nn (I.pin q hq).2.1⟩
 ·obtain⟨o,es,ep,ho,r⟩:=hm
  exact⟨o,es,ep,k _ o (Ne.symm hL) ho,r⟩
 ·have hb:=np b u e
  refine(I.hok b u (by rw[upd_ne hb];exact e)).stay (fun c v hc q=>k c v ?_ q) ?_ ?_
  ·rcases hc with z | z
   ·rw[z];exact hb
   ·exact ne z (by intro z;cases z)
  ·exact fun c z=>by rw[upd_ne (ne z (by intro z;cases z))]at z;exact z
  ·exact fun c xs z=>by rw[upd_ne (ne z (by intro z;cases z))]at z;exact z
theorem ext_ok {P:Program}{w:World}{H:Hp}{h:Heap}{C t e:Addr}{dd:Option Addr}(x:h.get? e=some (excO C t dd)):ObjOk P w H h e (ExcT C t e dd):=⟨x,⟨_,x⟩,fun _ _ y k=>k _ y⟩
theorem xd_ok {P:Program}{w:World}{H:Hp}{h:Heap}{dx:Addr}{v:V}{u:Value}(r:RelV v u)(n:h.Ns1 dx (fun y=>if y = "at" then some u else none)):ObjOk P w H h dx (.xd [("at",v)]):=by
 refine⟨_,n,fun f=>?_⟩;by_cases hf:f = "at"
 ·subst hf
  exact r
 ·have e:([("at",v)]:List (Str×V)).lookup f=none:=by
   show (match (f=="at") with | true=>some v | false=>none)=none
   rw[show (f=="at")=false from beq_eq_false_iff_ne.mpr hf]
  rw[e,if_neg hf];exact trivial
end
section
variable {P:Program}{w:World}{K:PySem.W.Frag}{mg:Str->Option Value}{base:Heap}{C D fI:Addr}
noncomputable def atBody (p:Nat->Pos):List Stmt:=[.Assign [.Attribute (.Name "self" (p 0)) "at" (p 1)] (.Name "at" (p 2)) (p 3)]
theorem ps_at {X:Cx}{p:Nat->Pos}(Z:ZK X.K X.mg C D fI)(hN:X.N=[("self" : Str),"at"])(sc:∀ x∈X.N,X.env.scope.names.lookup x=some .local) :
  PSs X (atBody p) (fun D' σ H=>∃ e t v,σ[0]?=some (some (.ref e))/\σ[1]?=some (some v)/\H e=some (ExcT C t e none)/\∀ dx,H dx=none->dx≠e->D'.nx σ (upd (upd H e (ExcT C t e (some dx))) dx (.xd [("at",v)]))):=by
 refine PSs.imp (pss_cons (t:=fun D' σ H=>∃ e t v,σ[0]?=some (some (.ref e))/\σ[1]?=some (some v)/\H e=some (ExcT C t e none)/\∀ dx,H dx=none->dx≠e->D'.nx σ (upd (upd H e (ExcT C t e (some dx))) dx (.xd [("at",v)]))) ?_ pss_nil) fun D' σ H h=>let ⟨e,t,v,h0,h1,he,q⟩:=h;⟨e,t,v,h0,h1,he,fun dx a b=>q dx a b⟩;intro pins s σ H D' I h;obtain⟨e,t,v,h0,h1,he,q⟩:=h;have v1:PE X (.Name "at" (p 2)) (tVar 1):=pe_var (by rw[hN];rfl) (.inl (sc _ (by rw[hN];decide)));have v0:PE X (.Name "self" (p 0)) (tVar 0):=pe_var (by rw[hN];rfl) (.inl (sc _ (by rw[hN];decide)));refine plainObj_wpAny_Assign_Attribute (thn (v1 pins s σ H (fun y H1=>y=v/\H1=H) I ⟨_,h1,rfl,rfl⟩) fun u s1 ⟨y,H1,I1,ry,e1,e2⟩=>thn (v0 pins s1 σ H1 (fun x H2=>x=.ref e/\H2=H1) I1 ⟨_,h0,rfl,rfl⟩) fun ov s2 ⟨x,H2,I2,rx,e3,e4⟩=>?_) (by rfl);subst e1 e2 e3 e4;cases rx;obtain⟨hx,_,_⟩:=I2.hok e _ he;have hx:s2.heap.get? e=some (excO C t none):=hx;obtain⟨hh,g,d,tk,os⟩:=s2;refine z_store (Z.zh _ I2.kIn) hx rfl rfl (fun c z=>by cases z) fun h' tk' dx n1 n2 n3 n4 n5=>?_;have hn:H2 dx=none:=I2.hok.fresh n2;have I3:=I2.write (x:=e) (e:=e) (o:=ExcT C t e (some dx)) (t':=tk') (by rw[he];trivial) (.inl rfl) n5 ⟨_,n4⟩ (ext_ok n4);have I4:=inv_adopt I3 (a:=dx) (o:=.xd [("at",y)]) (by rw[upd_ne n3];exact hn) (young_of I2 n2) (xd_ok ry n1);exact⟨σ,_,I4,q dx hn n3⟩
theorem init_fn {st:Stmt}{fd:FuncData}{p:Nat->Pos}(F:Fun K "__init__" "BadWord.__init__" st fI fd)(hS:FnScope ["self","at"] ["self","at"] (defScope st))(hb:defBody st=atBody p)(Z:ZK K mg C D fI)(sc:∀ x∈(["self","at"]:List Str),(defScope st).names.lookup x=some .local) :
  FnOk P w K mg base CX0 1 fI fd ["self","at"] (spI C):=by
 refine F.ok hS (fun vs H Q E h=>by obtain⟨e,t,v,rfl,_⟩:=h;rfl) (fun cdv A outer s H vs Q E hr h=>?_);obtain⟨e,t,v,rfl,he,q⟩:=h;rw[hb];exact⟨_,ps_at (X:=(cxOf CX0 P w K mg base ["self","at"] "BadWord.__init__" (defScope st) fI cdv A outer s H E).nox) (p:=p) Z rfl sc,e,t,v,rfl,rfl,he,fun dx h1 h2=>q dx h1 h2⟩
end
section
variable {X:Cx}{pins:List (Addr×Obj)}{σ:St}{H:Hp}{s:Shared}
structure Made (X:Cx) (pins:List (Addr×Obj)) (σ:St) (H:Hp) (C e:Addr) (v:V) (s':Shared):Prop where
 ex:∃ t dx,Inv X pins σ (upd H dx (.xd [("at",v)])) s'/\H dx=none/\dx≠e/\s'.heap.get? e=some (excO C t (some dx))
 y:Young X pins e
 no:H e=none
theorem run_exc {C D fI:Addr}{fd:FuncData}{k:Nat}{u:Value}{v:V}{Q:Value->Shared->Prop}(Z:ZK X.K X.mg C D fI)(hb:Binds X.K fd ["self","at"] [])(F:FnOk X.prog X.w X.K X.mg X.base CX0 k fI fd ["self","at"] (spI C))(hr:Room (k + 1) X.A)(I:Inv X pins σ H s)(r:RelV v u)
  (q:∀ e s',Made X pins σ H C e v s'->Q (.ref e) s'):wpAny (model X.prog X.w) X.A (call (.ref C) [u]) Q X.xe s:=by
 obtain⟨hh,g,d,tk,os⟩:=s;refine z_call_cls (Z.zh _ I.kIn) (fun h' e md hle=>?_) (by show 1<=sizeLine;decide);obtain⟨t,ho,_,_⟩:=md.there;have ho:h'.get? e=some (excO C t none):=ho;have hn:H e=none:=I.hok.fresh hle;have I1:Inv X pins σ H ⟨h',g,d,tk,os⟩:=I.kept (t':=tk) md.keeps;have I2:=inv_adopt I1 (a:=e) (o:=ExcT C t e none) hn (young_of I hle) (ext_ok ho);have r2:Vals [V.ref e,v] [Value.ref e,u]:=.cons rfl (.cons r .nil);refine wpAny_call (codeAny_mono (F.run _ X.stack ⟨h',g,d,tk,os⟩ (upd H e (ExcT C t e none)) ⟨[.ref e,u],[]⟩ [.ref e,u] [.ref e,v] (fun y H2=>y=.non/\∃ dx,H dx=none/\dx≠e/\H2=upd (upd (upd H e (ExcT C t e none)) e (ExcT C t e (some dx))) dx (.xd [("at",v)])) (fun _ _ _=>False) (hr.make C [u] [])
  (I2.env0.make C [u] []) (by have:=hb ⟨h',g,d,tk,os⟩ [.ref e,u] I2.kIn rfl;rwa [List.append_nil]at this) r2 ⟨e,t,v,rfl,upd_same,fun dx h1 h2=>⟨rfl,dx,by rw[upd_ne h2]at h1;exact h1,h2,rfl⟩⟩) fun rr s' hq'=>?_)
 cases rr with
 | error x=>exact False.elim (by first | exact hq' | (obtain⟨_⟩:=hq';done))
 | ok fl =>
  cases fl with
  | ret u' =>
   obtain⟨y,H',I3,ry,ey,dx,d1,d2,eH⟩:=I2.after hq';subst ey eH;refine⟨ry,q e s' ⟨⟨t,dx,?_,d1,d2,?_⟩,young_of I hle,hn⟩⟩
   ·have eH:upd (upd (upd H e (ExcT C t e none)) e (ExcT C t e (some dx))) dx (.xd [("at",v)])=upd (upd H dx (.xd [("at",v)])) e (ExcT C t e (some dx)):=by
     funext b;unfold upd;by_cases b1:b=dx
     ·subst b1
      rw[if_pos rfl,if_neg d2,if_pos rfl]
     ·rw[if_neg b1,if_neg b1]
      by_cases b2:b=e
      ·rw[if_pos b2,if_pos b2]
      ·rw[if_neg b2,if_neg b2,if_neg b2]
    rw[eH]at I3;exact inv_letgo (t':=s'.toks) (h':=s'.heap) I3 (by rw[upd_ne (Ne.symm d2)];exact hn) (Nat.le_trans I.sz hle) fun b o _ z=>z
   ·have:=I3.hok e (ExcT C t e (some dx)) (by rw[upd_ne (Ne.symm d2),upd_same])
    exact this.1
  | next=>exact False.elim hq'
  | brk=>exact False.elim hq'
  | cont=>exact False.elim hq'
end
end L3
namespace L3
open PySem PySem.Spec PyProof.Rows L2
section
variable {X:Cx}
theorem call_reprI:CallR X (.builtin "repr") (fun xs H Q=>∃ i:Int,xs=[.int i]/\i.natAbs < 2 ^ 64/\Q (.str (Str.ofString (toString i))) H):=by
 intro pins s σ H xs us Q I rv h;obtain⟨i,rfl,hi,q⟩:=h;obtain⟨u,rfl,ru⟩:=vals1 rv;obtain⟨t,rfl⟩:=ru;have h0:i.natAbs.log2 < 1920:=by
  by_cases z:i.natAbs=0
  ·rw[z];decide
  ·exact Nat.lt_trans ((Nat.log2_lt z).mpr hi) (by decide)
 exact PySem.P.repr_of_int h0 ⟨.str _,H,I.tok _,⟨_,rfl⟩,q⟩
theorem exc_call {C D fI:Addr}{fd:FuncData}{k:Nat}{np cpos:Pos}{ea:Expr}{ta:TE}{pins:List (Addr×Obj)}{s:Shared}{σ:St}{H:Hp}{Q:Value->Shared->Prop}(Z:ZK X.K X.mg C D fI)(hb:Binds X.K fd ["self","at"] [])(F:FnOk X.prog X.w X.K X.mg X.base CX0 k fI fd ["self","at"] (spI C))(hr:Room (k + 1) X.A)
  (hg:Gl X "BadWord") (ha:PE X ea ta) (hp:plainE ea=true) (I:Inv X pins σ H s) (h:ta σ H fun v H1=>∀ e s',Made X pins σ H1 C e v s'->Q (.ref e) s') :
  wpAny (model X.prog X.w) X.A (eval (.Call (.Name "BadWord" np) [ea] [] cpos) X.env) Q X.xe s:=by
 refine wpAny_Call_Name_kw (ld_glob I hg Z.np ?_);have pa:PA X [ea] (tCons ta tNil):=pa_cons ha pa_nil (star_plain hp);have hk:∀ h:Heap,X.K.In h->∃ k,(k=Keeper.frame\/k=Keeper.machine\/k=Keeper.boundFrame)/\PySem.W.Looks (model X.prog X.w) h (keeperOf (.ref C)) k:=fun h hh=>by
  obtain⟨⟨N,nm,q,bs,sn,sub,ab,col,dd,k0,k1,k2,k3,k5,mN,hC,_⟩,_⟩:=Z.zh h hh;refine⟨.machine,.inr (.inl rfl),fun A Q E s kp hq=>?_⟩;obtain⟨h2,g,d,t,os⟩:=s;exact wpAny_keeperOf_exc (kp _ _ hC) hq
 have main:wpAny (model X.prog X.w) X.A (spliced (backTo cpos (starEach [ea] X.env))) (fun vs s1=>X.K.In s1.heap/\wpAny (model X.prog X.w) X.A (call (.ref C) ([]++vs)) Q X.xe s1) X.xe s :=
  thn (pa cpos pins s σ H (fun vs H1=>match vs with
   | [v]=>∀ e s',Made X pins σ H1 C e v s'->Q (.ref e) s'
   | _=>False) I h) fun us s1 ⟨vs,H1,I1,r,q⟩=>⟨I1.kIn,by
   match vs,r,q with
   | [v],r,q =>
    obtain⟨u,rfl,ru⟩:=vals1 r;exact run_exc Z hb F hr I1 ru q⟩
 have he:=star_plain (es:=[]) (env:=X.env) hp;rw[he]at main ⊢;exact PySem.W.callWith_of rfl hk (Calls.evalArgs_plain main)
theorem xd_get {h:Heap}{P:Program}{w:World}{H:Hp}{dx:Addr}{v:V}(x:ObjOk P w H h dx (.xd [("at",v)])):∃ mA u,h.Ns1 dx mA/\mA "at" = some u/\RelV v u:=by
 obtain⟨mA,n,r⟩:=x;have r:=r "at";cases e:mA "at" with
 | none=>rw[e]at r;exact False.elim r
 | some u=>rw[e]at r;exact⟨mA,u,n,e,r⟩
theorem pe_mkat {C D fI:Addr}{fd:FuncData}{k:Nat}{np cpos apos:Pos}{ea:Expr}{ta:TE}(Z:ZK X.K X.mg C D fI)(hb:Binds X.K fd ["self","at"] [])(F:FnOk X.prog X.w X.K X.mg X.base CX0 k fI fd ["self","at"] (spI C))(hr:Room (k + 1) X.A)
  (hg:Gl X "BadWord") (ha:PE X ea ta) (hp:plainE ea=true) (hm:∀ (σ:St) (H:Hp) (Q R:VK),(∀ v H',Q v H'->R v H')->ta σ H Q->ta σ H R):PE X (.Attribute (.Call (.Name "BadWord" np) [ea] [] cpos) "at" apos) (fun σ H Q=>ta σ H fun v H1=>(∃ i,v=.int i)/\∀ dx,H1 dx=none->Q v (upd H1 dx (.xd [("at",v)]))):=by
 intro pins s σ H Q I h;refine attr_of rfl (exc_call (X:=X) Z hb F hr hg ha hp I (hm σ H _ _ (fun v H1 q e s' M=>?_) h));obtain⟨⟨i,rfl⟩,q⟩:=q;obtain⟨⟨t,dx,I',d1,d2,he⟩,_,_⟩:=M;obtain⟨mA,u,n1,n2,ru⟩:=xd_get (I'.hok dx _ upd_same);obtain⟨tk,rfl⟩:=ru;obtain⟨hh,g,d,tt,os⟩:=s';exact z_at_attr (Z.zh _ I'.kIn) he rfl rfl (fun c z=>by cases z) n1 n2 rfl ⟨.int i,_,I'.tok _,⟨_,rfl⟩,q dx d1⟩
theorem pe_bw {Γ:Ctx}{S:Sc}(C:CxOk Γ S X)(h1:S.glo "BadWord" = true)(h2:S.glo "repr" = true)(h3:S.bls.contains "repr" = true){p1 p2 p3 p4 p5 p6 p7 p8:Pos}{k k':Nat} :
  PE X (.Compare (.Call (.Name "repr" p1) [.Attribute (.Call (.Name "BadWord" p2) [.Constant (.int 7) k p3] [] p4) "at" p5] [] p6) [.Eq] [.Constant (.str "7") k' p7] p8) (LE X.K (fun _=>pure (.bl true))):=by
 obtain⟨n,Ca,D,fI,fd,Z,hb,F,hr⟩:=C.bw;have a1:=pe_mkat (X:=X) (np:=p2) (cpos:=p4) (apos:=p5) Z hb F hr (C.glo h1) (pe_int (X:=X) (i:=7) (j:=k) (pos:=p3)) rfl (fun σ H Q R m q=>m _ _ q);have a2:=pe_callB (p:=p1) (pos:=p6) call_reprI (C.glo h2) (C.bls _ (mem_of_contains h3)) PyProof.Rows.boot_repr (pa_cons a1 pa_nil (star_plain rfl)) (by decide) (by decide) (star_plain rfl) rfl;refine PE.imp (pe_cmpR (pos:=p8) op_eq a2 (pe_str (X:=X) (x:="7") (j:=k') (pos:=p7)) rfl) fun σ H Q q=>?_;obtain⟨ι,ρ,M,d,M',S',R,e,kk⟩:=q;obtain⟨rfl,rfl⟩:=pure_ok e;refine⟨⟨7,rfl⟩,fun dx hdx=>⟨7,rfl,by decide,rfl,?_⟩⟩;have e7:decide (V.str (Str.ofString (toString (7:Int)))=V.str "7")=true:=by decide +kernel
 rw[e7];exact kk (.bl true) _ ι (.bl true) (S'.tupN hdx) (Ext.tupN hdx)
end
end L3
namespace L3
open PySem PySem.Spec PyProof.Rows L2
section
variable {Γ:Ctx}{n:Nat}
noncomputable def SrtI (Γ:Ctx):Prop:=∀ (S:Sc) (X:Cx) (f m:Str) (o:Expr) (p1 p2 p3 p4:Pos) (fo:DE),CxOk Γ S X->(f==("sorted" : Str)&&m==("items" : Str)&&p2.endLine==p3.line&&okName f&&S.glo f&&S.bls.contains f)=true->PE X o (LE X.K fo)->(∀ a w',attributeBase o a X.env w'=w') ->
 PE X (.Call (.Name f p1) [.Call (.Attribute o m p2) [] [] p3] [] p4) (LE X.K (fun ρ=>do
  let x <- fo ρ
  (match x with
  | .ob k=>do let kvs <- getD k;let ys <- lift (Γ.srt (dicItems kvs));newM (.lst ys)
  | _=>Mo.stop)))
noncomputable def SrtL (Γ:Ctx):Prop:=∀ (S:Sc) (X:Cx) (f:Str) (a:Expr) (p1 p4:Pos) (fa:DE),CxOk Γ S X->(f==("sorted" : Str)&&okName f&&S.glo f&&S.bls.contains f)=true->plainE a=true->PE X a (LE X.K fa) ->
 PE X (.Call (.Name f p1) [a] [] p4) (LE X.K (fun ρ=>do let x <- fa ρ;let ds <- lstD x;let ys <- lift (Γ.srt ds);newM (.lst ys)))
noncomputable def SrtS (_:Ctx):Prop:=True
noncomputable def SrtD (_:Ctx):Prop:=True
noncomputable def SrtOk (Γ:Ctx):Prop:=SrtI Γ/\SrtL Γ/\SrtS Γ/\SrtD Γ
theorem base_of {o:Expr}{a:Str}{env:Env}{w':Sem Value}(h:bsE o=true):attributeBase o a env w'=w':=by
 cases o <;> first
  | rfl
  | exact absurd h Bool.false_ne_true
  | (rename_i f as ks p
     cases as with
     | nil=>exact absurd h Bool.false_ne_true
     | cons e es=>cases f <;> first | rfl | (cases ks <;> rfl))
theorem LE.neg {K:PySem.W.Frag}{fa:DE}(σ:St)(H:Hp)(Q:VK)(h:LE K (fun ρ=>do
  let x <- fa ρ
  (match x with
  | .int i=>pure (.int (-i))
  | _=>Mo.stop)) σ H Q):tUn (rU fun i=>.int (-i)) (LE K fa) σ H Q:=by
 obtain⟨ι,ρ,M,d,M',S,R,e,k⟩:=h;have e0:=bind_ok e;clear e;obtain⟨x,M1,e1,e⟩:=e0;refine⟨ι,ρ,M,x,M1,S,R,e1,fun v H1 ι1 r1 S1 X1=>?_⟩;cases r1 with
 | int i=>have e0:=pure_ok e;clear e;obtain⟨rfl,rfl⟩:=e0;exact⟨i,rfl,k _ H1 ι1 (.int _) S1 X1⟩
 | _=>exact(stop_ok e).elim
theorem not_any {α:Type}{l:List (Bool×α)}(h:l.any (·.1)=false):l.all (fun x=>!x.1)=true:=by
 rw[List.all_eq_true];intro x hx
 have:=List.any_eq_false.mp h x hx
 simpa using this
theorem isi_sound {S:Sc}{X:Cx}{f t:Str}{k:Ty}{a:Expr}{p1 p2 p3:Pos}{fa:DE}(C:CxOk Γ S X)(hs:isiOk S f t=true)(hk:tyOf t=some k)(ha:PE X a (LE X.K fa))(hp:plainE a=true) :
  PE X (.Call (.Name f p1) [a,.Name t p2] [] p3) (LE X.K (fun ρ=>do let x <- fa ρ;let b <- tyD k x;pure (.bl b))):=by
 unfold isiOk at hs;simp only[Bool.and_eq_true,beq_iff_eq]at hs;obtain⟨⟨⟨⟨⟨⟨h1,h2⟩,h3⟩,h4⟩,h5⟩,h6⟩,h7⟩:=hs;subst h1;obtain⟨o1,o2,o3⟩:=okName_debug h2;obtain⟨q1,q2,q3⟩:=okName_debug h5;have pt:PE X (.Name t p2) (tC (.ty (tyName k))):=pe_bltn (C.glo h6) (C.bls _ (mem_of_contains h7)) (ty_boot hk) rfl q3 q1;exact PE.imp (pe_callB (call_isi k) (C.glo h3) (C.bls _ (mem_of_contains h4)) PyProof.Rows.boot_isinstance (pa_cons ha (pa_cons pt pa_nil) (star_plain hp)) o3 o1 (star_plain hp) rfl) LE.isI
theorem call_sound {S:Sc}{X:Cx}{rs:List Expr->Option IEs}(hrs:∀ es i,rs es=some i->PA X es (LA X.K (semEs Γ i))/\es.all plainE=true){f:Str}{p1 pos:Pos}{a:Expr}{as:List Expr}{i:IE}(C:CxOk Γ S X)(h:callK S f (a::as).length (rs (a::as))=some i):PE X (.Call (.Name f p1) (a::as) [] pos) (LE X.K (semE Γ i)):=by
 unfold callK at h;split at h
 ·rename_i hs
  simp only[Bool.and_eq_true]at hs;obtain⟨o1,o2,o3⟩:=okName_debug hs.1;split at h
  ·rename_i hf
   obtain⟨xs,h1,rfl⟩:=Option.map_eq_some_iff.mp h;obtain⟨k,fa,fd,ps,g1,g2,g3,g4,g5,g6⟩:=C.fns f (mem_of_contains hf);obtain⟨pa,pl⟩:=hrs _ _ h1;rw[List.all_cons,Bool.and_eq_true]at pl;exact PE.imp (pe_call g4 g5 (C.glo hs.2) g1 g2 g3 .nil pass0 pa o1 (star_plain pl.1) (back_plain pl.2)) fun σ H Q q=>LE.call σ H Q g6 q
  ·split at h
   ·rename_i hb
    split at h
    ·rename_i b hbl
     obtain⟨xs,h1,rfl⟩:=Option.map_eq_some_iff.mp h;obtain⟨pa,pl⟩:=hrs _ _ h1;rw[List.all_cons,Bool.and_eq_true]at pl;have hbt:=(bl_boot hbl).1;have hmg:=C.bls f (mem_of_contains hb);have hc:=call_bl (X:=X) C.calm C.hu b;unfold blVal at hbt hc;split at hbt
     ·rename_i ht
      rw[if_pos ht]at hc;exact PE.imp (pe_callTy hc (C.glo hs.2) hmg hbt pa o3 o1 (star_plain pl.1) (back_plain pl.2)) LE.blt
     ·rename_i ht
      rw[if_neg ht]at hc;exact PE.imp (pe_callB hc (C.glo hs.2) hmg hbt pa o3 o1 (star_plain pl.1) (back_plain pl.2)) LE.blt
    ·cases h
   ·cases h
 ·cases h
section
variable {S:Sc}{X:Cx}{r:Expr->Option IE}{rs:List Expr->Option IEs}{ro:Option Expr->Option IEo}
theorem name_sound (C:CxOk Γ S X){x:Str}{pos:Pos}{i:IE}(h:nameK S x=some i):PE X (.Name x pos) (LE X.K (semE Γ i)):=by
 unfold nameK at h;split at h
 ·rename_i hok
  obtain⟨o1,o2,o3⟩:=okName_debug hok;split at h
  ·rename_i hv
   obtain⟨j,hs,rfl⟩:=Option.map_eq_some_iff.mp h;exact PE.imp (pe_var (by rw[C.n];exact slot_get hs) (C.vis hv) o1 o2) (LE.var)
  ·split at h
   ·rename_i hg
    cases h;simp only[Bool.and_eq_true]at hg;obtain⟨d,u,v,g1,g2,g3,g4⟩:=C.gls x (mem_of_contains hg.2);refine PE.imp (pe_glob (C.glo hg.1) g2 g3 o1) fun σ H Q h=>?_;refine LE.const g4 σ H Q ?_;have e:semE Γ (.glb x)=fun _=>(pure d:Mo D):=by funext ρ;show lift (Γ.gl x)=_;rw[g1];rfl
    rw[e]at h;exact h
   ·cases h
 ·cases h
theorem const_sound {c:Const}{k:Nat}{pos:Pos}{i:IE}(h:constK c=some i):PE X (.Constant c k pos) (LE X.K (semE Γ i)):=by
 cases c with
 | int j=>cases h;exact PE.imp pe_int (LE.const fun _ _=>.int _)
 | bool j=>cases h;exact PE.imp pe_bl (LE.const fun _ _=>.bl _)
 | none=>cases h;exact PE.imp pe_non (LE.const fun _ _=>.non)
 | str j=>cases h;exact PE.imp pe_str (LE.const fun _ _=>.str _)
 | _=>cases h
variable (hr:∀ e i,r e=some i->PE X e (LE X.K (semE Γ i)))
include hr
theorem cmp_sound (C:CxOk Γ S X){a:Expr}{ops:List CmpOp}{bs:List Expr}{pos:Pos}{i:IE}(h:cmpK r a ops bs=some i):PE X (.Compare a ops bs pos) (LE X.K (semE Γ i))/\PT X (.Compare a ops bs pos) (LT X.K (semC Γ (.cmp i))):=by
 unfold cmpK at h;split at h
 ·split at h
  ·cases h
  ·rename_i hm
   obtain⟨x,h1,h⟩:=obind h;obtain⟨y,h2,h⟩:=obind h;cases h;exact⟨PE.imp (pe_cmpR (op_cmp C.hu _) (hr _ _ h1) (hr _ _ h2) (by simpa using hm)) (LE.bin opS_R2S),PT.imp (pt_cmpR (op_cmp C.hu _) (hr _ _ h1) (hr _ _ h2) (by simpa using hm)) fun σ H Q q=>LE.bin opS_R2S σ H _ (LT.test σ H Q q)⟩
 ·split at h
  ·cases h
  ·rename_i op op' b c hm
   obtain⟨x,h1,h⟩:=obind h;obtain⟨y,h2,h⟩:=obind h;obtain⟨z,h3,h⟩:=obind h;cases h;exact⟨PE.imp (pe_chain (op_cmp C.hu op) (op_cmp C.hu op') (hr _ _ h1) (hr _ _ h2) (hr _ _ h3) (by show behindInMarks op' c=false;simpa using hm)) (LE.chain),PT.imp (pt_chain (op_cmp C.hu op) (op_cmp C.hu op') (hr _ _ h1) (hr _ _ h2) (hr _ _ h3) (by show behindInMarks op' c=false;simpa using hm)) fun σ H Q q=>LE.chain σ H _ (LT.test σ H Q q)⟩
 ·cases h
theorem bool_sound {op:BoolOp}{es:List Expr}{pos:Pos}{i:IE}(h:boolK r op es pos=some i):PE X (.BoolOp op es pos) (LE X.K (semE Γ i)):=by
 unfold boolK at h;split at h
 ·obtain⟨x,h1,h⟩:=obind h
  obtain⟨y,h2,h⟩:=obind h;cases h;cases op with
  | And=>exact PE.imp (pe_and (hr _ _ h1) (pe_one (hr _ _ h2))) (LE.and)
  | Or=>exact PE.imp (pe_or (hr _ _ h1) (pe_one (hr _ _ h2))) (LE.or)
 ·obtain⟨x,h1,h⟩:=obind h
  obtain⟨y,h2,h⟩:=obind h;cases h;cases op with
  | And=>exact PE.imp (pe_and (hr _ _ h1) (hr _ _ h2)) (LE.and)
  | Or=>exact PE.imp (pe_or (hr _ _ h1) (hr _ _ h2)) (LE.or)
 ·cases h
theorem un_sound {op:UnaryOp}{a:Expr}{pos:Pos}{i:IE}(h:unK r op a=some i):PE X (.UnaryOp op a pos) (LE X.K (semE Γ i)):=by
 cases op with
 | Not =>
  obtain⟨x,h1,h⟩:=obind h;cases h;exact PE.imp (pe_not (hr _ _ h1)) (LE.not)
 | USub =>
  obtain⟨x,h1,h⟩:=obind h;cases h;exact PE.imp (pe_un un_neg (hr _ _ h1)) (LE.neg)
 | _=>cases h
theorem sub_sound (C:CxOk Γ S X)(ho:∀ e i,ro e=some i->PO X e (LO X.K (semO Γ i))){a b:Expr}{pos:Pos}{i:IE}(h:subK r ro a b=some i):PE X (.Subscript a b pos) (LE X.K (semE Γ i)):=by
 unfold subK at h;split at h
 ·obtain⟨x,h1,h⟩:=obind h
  obtain⟨l,h2,h⟩:=obind h;obtain⟨q,h3,h⟩:=obind h;cases h;exact PE.imp (pe_slice sl_all (hr _ _ h1) (ho _ _ h2) (ho _ _ h3)) (LE.slc)
 ·split at h
  ·rename_i hix
   obtain⟨x,h1,h⟩:=obind h;obtain⟨y,h2,h⟩:=obind h;cases h;exact PE.imp (pe_ix (ix_get C.hu) (hr _ _ h1) (hr _ _ h2) (plainIx_of hix)) (LE.bin opS_R2S)
  ·cases h
theorem gix_sound (C:CxOk Γ S X){a b:Expr}{pos:Pos}{i:IE}{k:Option IE}(h:gixK S r a b k=some i)(hk:k=some i->PE X (.Subscript a b pos) (LE X.K (semE Γ i))):PE X (.Subscript a b pos) (LE X.K (semE Γ i)):=by
 unfold gixK at h;split at h
 ·rename_i x p hx
  split at h
  ·rename_i hc
   simp only[Bool.and_eq_true]at hc;obtain⟨hn,⟨ho,hgl⟩,hix⟩:=hc;obtain⟨y,h1,rfl⟩:=Option.map_eq_some_iff.mp h;have ha:a=.Name x p:=by
    unfold nmE at hx;split at hx
    ·cases hx;rfl
    ·cases hx
   subst ha;obtain⟨o1,o2,o3⟩:=okName_debug ho;obtain⟨ad,d,ks,g1,g2,g3,g4⟩:=C.gdx x hn;refine PE.imp (pe_ix (ix_gd g4) (pe_glob (v:=.ref ad) (C.glo hgl) g3 rfl o1) (hr _ _ h1) (plainIx_of hix)) fun σ H Q q=>?_;obtain⟨ι,ρ,M,dd,M',S',R,e,kk⟩:=q;have e0:=bind_ok e;clear e;obtain⟨z,M1,e1,e⟩:=e0;refine⟨ι,ρ,M,z,M1,S',R,e1,fun v1 H1 ι1 r1 S1 X1=>?_⟩;clear e1;unfold gixD at e;have e0:=bind_ok e;clear e;obtain⟨ks',M2,e2,e⟩:=e0;have e20:=lift_ok e2;clear e2;obtain⟨q1,rfl⟩:=e20;have e0:=bind_ok e;clear e;obtain⟨kq,M3,e3,e⟩:=e0;have e30:=lift_ok e3;clear e3;obtain⟨q2,rfl⟩:=e30;have e0:=bind_ok e;clear e;obtain⟨vq,M4,e4,e⟩:=e0;have e40:=lift_ok e4;clear e4;obtain⟨q3,rfl⟩:=e40;have e0:=pure_ok e;clear e;obtain⟨rfl,rfl⟩:=e0;rw[g1]at q1;have q1:gdKs d=some ks':=q1;rw[g2]at q1;cases q1;cases r1 <;> first | cases q2 | skip
   exact⟨_,_,rfl,rfl,q3,kk _ H1 ι1 (.str _) S1 X1⟩
  ·exact hk h
 ·exact hk h
theorem items_eq {a o:Expr}{m:Str}{p2 p3:Pos}(h:itemsE a=some (o,m,p2,p3)):a=.Call (.Attribute o m p2) [] [] p3:=by
 unfold itemsE at h;split at h
 ·cases h;rfl
 ·cases h
omit hr in
theorem nm_eq {a:Expr}{m:Str}{p:Pos}(h:nmE a=some (m,p)):a=.Name m p:=by
 unfold nmE at h;split at h
 ·cases h;rfl
 ·cases h
omit hr in
theorem setE_eq {a b:Expr}{p q:Pos}(h:setE a=some (p,b,q)):∃ p',a=.Call (.Name "set" p') [b] [] q:=by
 unfold setE at h;split at h
 ·rename_i g _ _ _
  split at h
  ·rename_i hg
   cases h
   have:g=("set" : Str):=by simpa using hg
   subst this;exact⟨_,rfl⟩
  ·cases h
 ·cases h
theorem sort_sound (hsrt:SrtOk Γ)(C:CxOk Γ S X){f:Str}{as:List Expr}{p1 p4:Pos}{i:IE}(h:sortK S r f as=some i):PE X (.Call (.Name f p1) as [] p4) (LE X.K (semE Γ i)):=by
 unfold sortK at h;split at h
 ·rename_i a
  split at h
  ·rename_i o m p2 p3 hi
   rw[items_eq hr hi];split at h
   ·rename_i hs
    rw[Bool.and_eq_true]at hs;obtain⟨x,h1,h⟩:=obind h;cases h;exact hsrt.1 S X f m o p1 p2 p3 p4 (semE Γ x) C hs.2 (hr _ _ h1) (fun a w'=>base_of hs.1)
   ·cases h
  ·have fin:∀ {i:IE},(
    if plainE a&&(f==("sorted" : Str)&&okName f&&S.glo f&&S.bls.contains f) then do let x <- r a;some (.sortL x) else none)=some i->PE X (.Call (.Name f p1) [a] [] p4) (LE X.K (semE Γ i)):=fun {i} h=>by
    split at h
    ·rename_i hs
     rw[Bool.and_eq_true]at hs;obtain⟨x,h1,h⟩:=obind h;cases h;exact hsrt.2.1 S X f _ p1 p4 (semE Γ x) C hs.2 hs.1 (hr _ _ h1)
    ·cases h
   exact fin h
 ·cases h
omit hr in
theorem rng_eq {b:Expr}{f:Str}{p q:Pos}{as:List Expr}(h:rngE b=some (f,p,as,q)):b=.Call (.Name f p) as [] q:=by
 unfold rngE at h;split at h
 ·cases h;rfl
 ·cases h
theorem cmpR_sound (C:CxOk Γ S X){a:Expr}{ops:List CmpOp}{bs:List Expr}{pos:Pos}{i:IE}(h:cmpR S r a ops bs=some i):PE X (.Compare a ops bs pos) (LE X.K (semE Γ i))/\PT X (.Compare a ops bs pos) (LT X.K (semC Γ (.cmp i))):=by
 unfold cmpR at h;split at h
 ·split at h
  ·cases h
  ·exact cmp_sound hr C h
 ·exact cmp_sound hr C h
theorem isiK_sound (C:CxOk Γ S X){f:Str}{as:List Expr}{p1 p4:Pos}{i:IE}(h:isiK S r f as=some i):PE X (.Call (.Name f p1) as [] p4) (LE X.K (semE Γ i)):=by
 unfold isiK at h;split at h
 ·split at h
  ·rename_i t' p hn
   rw[nm_eq hn];split at h
   ·rename_i hs
    rw[Bool.and_eq_true]at hs;split at h
    ·rename_i kk hk
     obtain⟨x,h1,h⟩:=obind h;cases h;exact isi_sound C hs.1 hk (hr _ _ h1) hs.2
    ·cases h
   ·cases h
  ·cases h
 ·cases h
variable (hrs:∀ es i,rs es=some i->PA X es (LA X.K (semEs Γ i))/\es.all plainE=true)
include hrs
theorem attr_sound (C:CxOk Γ S X){o:Expr}{m:Str}{p2 p3:Pos}{as:List Expr}{i:IE}(h:attrK r rs o m p2 p3 as=some i):PE X (.Call (.Attribute o m p2) as [] p3) (LE X.K (semE Γ i)):=by
 unfold attrK at h;split at h
 ·split at h
  ·rename_i hs
   simp only[Bool.and_eq_true,decide_eq_true_eq]at hs;obtain⟨hbs,hs⟩:=hs;split at h
   ·rename_i kk hk
    obtain⟨x,h1,h⟩:=obind h;obtain⟨xs,h2,h⟩:=obind h;cases h;obtain⟨pa,pl⟩:=hrs _ _ h2;have hnm:=mt_name hk;subst hnm;have pl':=pl;rw[List.all_cons,Bool.and_eq_true]at pl;refine PE.imp (pe_bmx (mt_all C.hu kk) (hr _ _ h1) pa (base_of hbs) ?_ hs.1 (star_plain pl.1) (back_plain pl.2)) LE.mth;rw[Bool.and_eq_true,Bool.and_eq_true];refine⟨⟨not_any (back_plain pl'),rfl⟩,?_⟩
    have:=hs.2
    simp only[List.length_cons,List.length_nil,List.isEmpty_nil,if_true]at this ⊢;exact decide_eq_true (by first | lia | omega)
   ·cases h
  ·cases h
 ·cases h
theorem repK_sound (C:CxOk Γ S X){f:Str}{as:List Expr}{p1 p4:Pos}{i:IE}{k:Option IE}(h:repK S r f as k=some i)(hk:k=some i->PE X (.Call (.Name f p1) as [] p4) (LE X.K (semE Γ i))):PE X (.Call (.Name f p1) as [] p4) (LE X.K (semE Γ i)):=by
 unfold repK at h;split at h
 ·split at h
  ·rename_i ho
   split at h
   ·rename_i hp
    obtain⟨x,h1,h⟩:=obind h;cases h;exact rep_sound C ho hp (hr _ _ h1)
   ·cases h
  ·exact hk h
 ·exact hk h
theorem intK_sound (C:CxOk Γ S X){f:Str}{as:List Expr}{p1 p4:Pos}{i:IE}{k:Option IE}(h:intK S r f as k=some i)(hk:k=some i->PE X (.Call (.Name f p1) as [] p4) (LE X.K (semE Γ i))):PE X (.Call (.Name f p1) as [] p4) (LE X.K (semE Γ i)):=by
 unfold intK at h;split at h
 ·split at h
  ·rename_i ho
   split at h
   ·rename_i hp
    obtain⟨x,h1,h⟩:=obind h;cases h;exact int_sound C ho hp (hr _ _ h1)
   ·cases h
  ·exact hk h
 ·exact hk h
theorem lsetK_sound (C:CxOk Γ S X){f:Str}{as:List Expr}{p1 p4:Pos}{i:IE}{k:Option IE}(h:lsetK S r f as k=some i)(hk:k=some i->PE X (.Call (.Name f p1) as [] p4) (LE X.K (semE Γ i))):PE X (.Call (.Name f p1) as [] p4) (LE X.K (semE Γ i)):=by
 unfold lsetK at h;split at h
 ·split at h
  ·rename_i p2 b q hg
   obtain⟨p2',e⟩:=setE_eq hg;split at h
   ·rename_i ho
    rw[e];split at h
    ·rename_i hp
     obtain⟨x,h1,h⟩:=obind h;cases h;exact lset_sound C ho hp (hr _ _ h1)
    ·cases h
   ·exact hk h
  ·exact hk h
 ·exact hk h
omit hr in
theorem rfsK_sound (C:CxOk Γ S X){f:Str}{a:Expr}{as:List Expr}{p1 p4:Pos}{i:IE}{k:Option IE}(h:rfsK S f (rs (a::as)) k=some i)(hk:k=some i->PE X (.Call (.Name f p1) (a::as) [] p4) (LE X.K (semE Γ i))):PE X (.Call (.Name f p1) (a::as) [] p4) (LE X.K (semE Γ i)):=by
 unfold rfsK at h;split at h
 ·rename_i hs
  unfold rfsOk at hs;simp only[Bool.and_eq_true,beq_iff_eq]at hs;obtain⟨⟨h1,h2⟩,h3⟩:=hs;subst h1;obtain⟨o1,o2,o3⟩:=okName_debug h2;obtain⟨xs,h4,rfl⟩:=Option.map_eq_some_iff.mp h;obtain⟨k',fa,fd,ps,g1,g2,g3,g4,g5,g6⟩:=C.rfs;obtain⟨pa,pl⟩:=hrs _ _ h4;rw[List.all_cons,Bool.and_eq_true]at pl;exact PE.imp (pe_call g4 g5 (C.glo h3) g1 g2 g3 .nil pass0 pa o1 (star_plain pl.1) (back_plain pl.2)) fun σ H Q q=>LE.call σ H Q g6 q
 ·exact hk h
theorem fn_sound (hsrt:SrtOk Γ)(C:CxOk Γ S X){f:Str}{as:List Expr}{p1 p4:Pos}{i:IE}(h:fnK S r rs f as=some i):PE X (.Call (.Name f p1) as [] p4) (LE X.K (semE Γ i)):=by
 unfold fnK at h;split at h
 ·split at h
  ·exact sort_sound hr hsrt C h
  ·split at h
   ·exact isiK_sound hr C h
   ·
    refine repK_sound hr hrs C h fun h=>?_;refine intK_sound hr hrs C h fun h=>?_;refine lsetK_sound hr hrs C h fun h=>?_;refine rfsK_sound hrs C h fun h=>?_;exact call_sound hrs C h
 ·cases h
theorem callE_sound (hsrt:SrtOk Γ)(C:CxOk Γ S X){f:Expr}{as:List Expr}{p:Pos}{i:IE}(h:callE S r rs f as p=some i):PE X (.Call f as [] p) (LE X.K (semE Γ i)):=by
 unfold callE at h;split at h
 ·exact fn_sound hr hrs hsrt C h
 ·exact attr_sound hr hrs C h
 ·cases h
end
theorem gens_eq {gs:List Comprehension}{x:Str}{p:Pos}{iter:Expr}{ifs:List Expr}(h:gensK gs=some (x,p,iter,ifs)):gs=[⟨.Name x p,iter,ifs,0⟩]:=by
 unfold gensK at h;split at h
 ·cases h;rfl
 ·cases h
theorem bwK_sound {S:Sc}{X:Cx}(C:CxOk Γ S X){a:Expr}{ops:List CmpOp}{bs:List Expr}{p:Pos}{i:IE}{k:Option IE}(h:bwK S a ops bs k=some i)(hk:k=some i->PE X (.Compare a ops bs p) (LE X.K (semE Γ i))):PE X (.Compare a ops bs p) (LE X.K (semE Γ i)):=by
 unfold bwK at h;split at h
 ·rename_i y z ha hb
  split at h
  ·split at h
   ·rename_i hs
    cases h;simp only[Bool.and_eq_true]at hs;unfold bwA at ha;split at ha
    ·split at ha
     ·rename_i hq
      simp only[Bool.and_eq_true,beq_iff_eq]at hq;obtain⟨e1,e2,e3⟩:=hq;subst e1 e2 e3;unfold bwB at hb;split at hb
      ·split at hb
       ·rename_i hx
        have hx:=eq_of_beq hx;subst hx;exact pe_bw C hs.1 hs.2.1 hs.2.2
       ·cases hb
      ·cases hb
     ·cases ha
    ·cases ha
   ·cases h
  ·cases h
 ·exact hk h
theorem sound_E (hsrt:SrtOk Γ)(ih:Sound Γ n)(S:Sc)(X:Cx)(e:Expr)(i:IE)(C:CxOk Γ S X)(h:cE S (n + 1) e=some i):PE X e (LE X.K (semE Γ i)):=by
 have hr:∀ e i,cE S n e=some i->PE X e (LE X.K (semE Γ i)):=fun e i h=>ih.E _ _ _ _ C h;have hrs:∀ es i,cEs S n es=some i->PA X es (LA X.K (semEs Γ i))/\es.all plainE=true:=fun e i h=>ih.Es _ _ _ _ C h;cases e with
 | Name x p=>exact name_sound C h
 | Constant c k p=>exact const_sound h
 | BinOp a op b p =>
  have h:(if inDomOp op=true then (do let x <- cE S n a;let y <- cE S n b;some (IE.bin op x y)) else none)=some i:=h;split at h
  ·obtain⟨x,h1,h⟩:=obind h
   obtain⟨y,h2,h⟩:=obind h;cases h;exact PE.imp (pe_op (op_bin op) (hr _ _ h1) (hr _ _ h2)) (LE.bin opS_R2S)
  ·cases h
 | Compare a ops bs p=>exact bwK_sound C h fun h=>(cmpR_sound hr C h).1
 | BoolOp op es p=>exact bool_sound hr h
 | UnaryOp op a p=>exact un_sound hr h
 | IfExp c a b p =>
  obtain⟨k,h0,h⟩:=obind h;obtain⟨x,h1,h⟩:=obind h;obtain⟨y,h2,h⟩:=obind h;cases h;exact PE.imp (pe_ifExp (ih.C _ _ _ _ C h0) (hr _ _ h1) (hr _ _ h2)) (LE.ite)
 | Tuple es k p =>
  obtain⟨x,h1,h⟩:=obind h;cases h;exact PE.imp (pe_tup (hrs _ _ h1).1) (LE.tup)
 | List es p =>
  obtain⟨x,h1,h⟩:=obind h;cases h;exact PE.imp (pe_lst (hrs _ _ h1).1) (LE.lst)
 | Dict ks vs p =>
  cases ks with
  | nil =>
   cases vs with
   | nil=>cases h;exact PE.imp pe_dnewK (LE.dic)
   | cons a l=>cases h
  | cons a l=>cases h
 | Subscript a b p=>exact gix_sound hr C h fun h=>sub_sound hr C (fun e i h=>ih.O _ _ _ _ C h) h
 | Call f as ks p =>
  have h:(if ks.isEmpty=true then callE S (cE S n) (cEs S n) f as p else none)=some i:=h;split at h
  ·rename_i hk
   have hk:ks=[]:=List.isEmpty_iff.mp hk;subst hk;exact callE_sound hr hrs hsrt C h
  ·cases h
 | ListComp elt gs sc p =>
  have h:(match gensK gs with
   | some (x,_,iter,ifs)=>if compOk S sc [x]=true then (do
     let it <- cT S n iter
     let c <- cCo (S.comp sc [x]) n ifs
     let e <- cE (S.comp sc [x]) n elt
     some (IE.comp ((slot S.N x).getD S.N.length) it c e)) else none
   | none=>none)=some i:=h
  split at h
  ·rename_i x px iter ifs hg
   rw[gens_eq hg];split at h
   ·rename_i hc
    obtain⟨it,h1,h⟩:=obind h;obtain⟨c,h2,h⟩:=obind h;obtain⟨y,h3,h⟩:=obind h;cases h;obtain⟨t1,t2⟩:=ih.T _ X (.Name x px) _ _ C h1;exact pe_compS C hc t1 t2 (fun X' C' _=>ih.Co _ _ _ _ C' h2) (fun X' C' _=>ih.E _ _ _ _ C' h3)
   ·cases h
  ·cases h
 | _=>cases h
theorem sound_Es (ih:Sound Γ n)(S:Sc)(X:Cx)(es:List Expr)(i:IEs)(C:CxOk Γ S X)(h:cEs S (n + 1) es=some i):PA X es (LA X.K (semEs Γ i))/\es.all plainE=true:=by
 cases es with
 | nil =>
  cases (show some IEs.nil=some i from h);exact⟨PA.imp pa_nil LA.nil,rfl⟩
 | cons e es =>
  replace h:(if plainE e then (do let x <- cE S n e;let xs <- cEs S n es;some (.cons x xs)) else none)=some i:=h;split at h
  ·rename_i hp
   obtain⟨x,h1,h⟩:=obind h;obtain⟨xs,h2,h⟩:=obind h;cases h;obtain⟨p1,p2⟩:=ih.Es _ _ _ _ C h2;exact⟨PA.imp (pa_cons (ih.E _ _ _ _ C h1) p1 (star_plain hp)) LA.cons,by rw[List.all_cons,hp,p2];rfl⟩
  ·cases h
theorem sound_O (ih:Sound Γ n)(S:Sc)(X:Cx)(e:Option Expr)(i:IEo)(C:CxOk Γ S X)(h:cO S (n + 1) e=some i):PO X e (LO X.K (semO Γ i)):=by
 cases e with
 | none =>
  cases (show some IEo.none=some i from h);exact PO.imp po_none LO.none
 | some e =>
  replace h:(do let x <- cE S n e;some (IEo.some x))=some i:=h;obtain⟨x,h1,h⟩:=obind h;cases h;exact PO.imp (po_some (ih.E _ _ _ _ C h1)) LO.some
theorem sound_Co (ih:Sound Γ n)(S:Sc)(X:Cx)(e:List Expr)(i:ICo)(C:CxOk Γ S X)(h:cCo S (n + 1) e=some i):PTs X e (LT X.K (semCo Γ i)):=by
 rcases e with _ | ⟨c,_ | ⟨c2,l⟩⟩
 ·cases (show some ICo.none=some i from h)
  exact PTs.imp pts_nil fun σ H Q q=>by
   obtain⟨ι,ρ,M,b,M',S,R,e,k⟩:=q;obtain⟨rfl,rfl⟩:=pure_ok e;exact k H ι S Ext.refl
 ·replace h:(do let k <- cC S n c;some (ICo.some k))=some i:=h
  obtain⟨x,h1,h⟩:=obind h;cases h;exact pts_one (ih.C _ _ _ _ C h1)
 ·cases (show (none:Option ICo)=some i from h)
theorem pw_imp {X:Cx}{e:Expr}{t t':TT}(h:PW X e t)(k:∀ σ H Q,t' σ H Q->t σ H Q):PW X e t':=fun whole pins s σ H Q I q=>h whole pins s σ H Q I (k σ H Q q)
theorem rngE_eq {b:Expr}{f:Str}{p q:Pos}{as:List Expr}(h:rngE b=some (f,p,as,q)):b=.Call (.Name f p) as [] q:=by
 unfold rngE at h;split at h
 ·cases h;rfl
 ·cases h
theorem fold_it {e:Expr}{env:Env}(h:itE e=true):∀ x,foldedSetIterable e env x=pure x:=by
 intro x;cases e <;> first | rfl | exact absurd h Bool.false_ne_true
theorem rngK_sound {S:Sc}{X:Cx}{r:Expr->Option IE}(hr:∀ e i,r e=some i->PE X e (LE X.K (semE Γ i)))(C:CxOk Γ S X){tg:Expr}{f:Str}{as:List Expr}{p q:Pos}{i:IT}(h:rngK S r f as=some i):PI X tg (.Call (.Name f p) as [] q) (LI X.K (semT Γ i)):=by
 unfold rngK at h;split at h
 ·rename_i hs
  unfold rngOk at hs;simp only[Bool.and_eq_true,beq_iff_eq]at hs;obtain⟨⟨⟨⟨h1,h2⟩,h3⟩,h4⟩,h5⟩:=hs;subst h1;split at h
  ·simp only[List.all_cons,List.all_nil,Bool.and_true]at h5
   obtain⟨x,g1,h⟩:=obind h;cases h;exact PI.imp (pi_range1 (C.glo h3) (C.bls _ (mem_of_contains h4)) (pa_cons (hr _ _ g1) pa_nil (star_plain h5)) (star_plain h5)) LI.rng1
  ·simp only[List.all_cons,List.all_nil,Bool.and_true,Bool.and_eq_true]at h5
   obtain⟨x,g1,h⟩:=obind h;obtain⟨y,g2,h⟩:=obind h;cases h;exact PI.imp (pi_range2 (C.glo h3) (C.bls _ (mem_of_contains h4)) (pa_cons (hr _ _ g1) (pa_cons (hr _ _ g2) pa_nil (star_plain h5.2)) (star_plain h5.1)) (by rw[star_plain h5.1,star_plain h5.2];rfl) (star_plain h5.2)) LI.rng2
  ·cases h
 ·cases h
theorem sound_T (ih:Sound Γ n)(S:Sc)(X:Cx)(tg e:Expr)(i:IT)(C:CxOk Γ S X)(h:cT S (n + 1) e=some i):PI X tg e (LI X.K (semT Γ i))/\∀ x,foldedSetIterable e X.env x=pure x:=by
 have seq:(cE S n e).map IT.seq=some i->PI X tg e (LI X.K (semT Γ i)):=fun h=>by
  obtain⟨x,h1,rfl⟩:=Option.map_eq_some_iff.mp h;exact PI.imp (pi_any (ih.E _ _ _ _ C h1)) LI.seq
 have h:(match rngE e with
  | some (f,_,as,_)=>if (f==("range" : Str))=true then rngK S (cE S n) f as else (cE S n e).map IT.seq
  | none=>if itE e=true then (cE S n e).map IT.seq else none)=some i:=h
 split at h
 ·rename_i f p as q hg
  have he:=rngE_eq hg;split at h
  ·refine⟨?_,by rw[he];exact fun _=>rfl⟩
   rw[he];exact rngK_sound (fun e i h=>ih.E _ _ _ _ C h) C h
  ·exact⟨seq h,by rw[he];exact fun _=>rfl⟩
 ·split at h
  ·rename_i hit
   exact⟨seq h,fold_it hit⟩
  ·cases h
theorem cond_sound {X:Cx}{r:Expr->Option IC}(hr:∀ e i,r e=some i->PT X e (LT X.K (semC Γ i))){op:BoolOp}{es:List Expr}{pos:Pos}{i:IC}(h:condK r op es=some i):PT X (.BoolOp op es pos) (LT X.K (semC Γ i)):=by
 unfold condK at h;split at h
 ·obtain⟨k,h1,h⟩:=obind h
  obtain⟨j,h2,h⟩:=obind h;cases h;cases op with
  | And=>exact PT.imp (pw_and (hr _ _ h1) (pw_and1 (hr _ _ h2))).pt LT.and
  | Or=>exact PT.imp (pw_or (hr _ _ h1) (pw_or1 (hr _ _ h2))).pt LT.or
 ·obtain⟨k,h1,h⟩:=obind h
  obtain⟨j,h2,h⟩:=obind h;obtain⟨l,h3,h⟩:=obind h;cases h;cases op with
  | And=>exact PT.imp (pw_and (hr _ _ h1) (pw_imp (pw_and (hr _ _ h2) (pw_and1 (hr _ _ h3))) LT.and)).pt LT.and
  | Or=>exact PT.imp (pw_or (hr _ _ h1) (pw_imp (pw_or (hr _ _ h2) (pw_or1 (hr _ _ h3))) LT.or)).pt LT.or
 ·cases h
theorem sound_C (ih:Sound Γ n)(S:Sc)(X:Cx)(e:Expr)(i:IC)(C:CxOk Γ S X)(h:cC S (n + 1) e=some i):PT X e (LT X.K (semC Γ i)):=by
 cases e with
 | UnaryOp op a p =>
  have h:(if (op==.Not)=true then (cC S n a).map IC.not else none)=some i:=h;split at h
  ·rename_i ho
   have ho:op=.Not:=by simpa using ho
   subst ho;obtain⟨k,h1,rfl⟩:=Option.map_eq_some_iff.mp h;exact PT.imp (pt_not (ih.C _ _ _ _ C h1)) LT.not
  ·cases h
 | BoolOp op es p=>exact cond_sound (fun e i h=>ih.C _ _ _ _ C h) h
 | Compare a ops bs p =>
  obtain⟨k,h1,rfl⟩:=Option.map_eq_some_iff.mp (show (cmpR S (cE S n) a ops bs).map IC.cmp=some i from h);exact(cmpR_sound (fun e i h=>ih.E _ _ _ _ C h) C h1).2
 | Name x p =>
  obtain⟨k,h1,rfl⟩:=Option.map_eq_some_iff.mp (show (cE S n (.Name x p)).map IC.tru=some i from h);exact pt_tru (ih.E _ _ _ _ C h1) fun _=>rfl
 | Call f as ks p =>
  obtain⟨k,h1,rfl⟩:=Option.map_eq_some_iff.mp (show (cE S n (.Call f as ks p)).map IC.tru=some i from h);exact pt_tru (ih.E _ _ _ _ C h1) fun _=>rfl
 | Subscript a b p =>
  obtain⟨k,h1,rfl⟩:=Option.map_eq_some_iff.mp (show (cE S n (.Subscript a b p)).map IC.tru=some i from h);exact pt_tru (ih.E _ _ _ _ C h1) fun _=>rfl
 | _=>cases h
theorem sound (hsrt:SrtOk Γ):∀ n,Sound Γ n
 | 0=>⟨(fun _ _ _ i _ h=>by cases (show (none:Option IE)=some i from h)),(fun _ _ _ i _ h=>by cases (show (none:Option IEs)=some i from h)),(fun _ _ _ i _ h=>by cases (show (none:Option IEo)=some i from h)),(fun _ _ _ _ i _ h=>by cases (show (none:Option IT)=some i from h)),(fun _ _ _ i _ h=>by cases (show (none:Option IC)=some i from h)),(fun _ _ _ i _ h=>by cases (show (none:Option ICo)=some i from h))⟩
 | n + 1=>⟨sound_E hsrt (sound hsrt n),sound_Es (sound hsrt n),sound_O (sound hsrt n),sound_T (sound hsrt n),sound_C (sound hsrt n),sound_Co (sound hsrt n)⟩
end
end L3
namespace L3
open PySem PySem.Spec PyProof.Rows L2
section
variable {Γ:Ctx}{n:Nat}{K:PySem.W.Frag}
theorem LS.set {i:Nat}{fe:DE}(D:Ends)(σ:St)(H:Hp)(h:LS K (fun ρ=>do let x <- fe ρ;pure (.nx (ρ.set i (some x)))) D σ H):tAsg (LE K fe) (gName i) D σ H:=by
 obtain⟨ι,ρ,M,fl,M',S,R,e,k⟩:=h;have e0:=bind_ok e;clear e;obtain⟨x,M1,e1,e⟩:=e0;have e0:=pure_ok e;clear e;obtain⟨rfl,rfl⟩:=e0;exact⟨ι,ρ,M,x,_,S,R,e1,fun v H1 ι1 r1 S1 X1=>k H1 ι1 S1 X1 _ ((R.mono X1).set r1 i)⟩
theorem LS.setIx {fo fi fe:DE}(D:Ends)(σ:St)(H:Hp)(h:LS K (fun ρ=>do let v <- fe ρ;let x <- fo ρ;let y <- fi ρ;setIx x y v;pure (.nx ρ)) D σ H):tAsg (LE K fe) (gSub (LE K fo) (LE K fi) (RSet K)) D σ H:=by
 obtain⟨ι,ρ,M,fl,M',S,R,e,k⟩:=h;have e0:=bind_ok e;clear e;obtain⟨v,M1,e1,e⟩:=e0;have e0:=bind_ok e;clear e;obtain⟨x,M2,e2,e⟩:=e0;have e0:=bind_ok e;clear e;obtain⟨y,M3,e3,e⟩:=e0;have e0:=bind_ok e;clear e;obtain⟨u,M4,e4,e⟩:=e0;have e0:=pure_ok e;clear e;obtain⟨rfl,rfl⟩:=e0;refine⟨ι,ρ,M,v,M1,S,R,e1,fun v1 H1 ι1 r1 S1 X1=>?_⟩;refine⟨ι1,ρ,M1,x,M2,S1,R.mono X1,e2,fun v2 H2 ι2 r2 S2 X2=>?_⟩;refine⟨ι2,ρ,M2,y,M3,S2,(R.mono X1).mono X2,e3,fun v3 H3 ι3 r3 S3 X3=>?_⟩;exact⟨ι3,M3,_,x,y,v,u,S3,r2.mono X3,r3,(r1.mono X2).mono X3,e4,fun H4 S4 X4=>k H4 ι3 S4 (((X1.trans X2).trans X3).trans X4) σ ((((R.mono X1).mono X2).mono X3).mono X4)⟩
theorem LS.expr {fe:DE}(D:Ends)(σ:St)(H:Hp)(h:LS K (fun ρ=>do let _ <- fe ρ;pure (.nx ρ)) D σ H):tDrop (LE K fe) D σ H:=by
 obtain⟨ι,ρ,M,fl,M',S,R,e,k⟩:=h;have e0:=bind_ok e;clear e;obtain⟨x,M1,e1,e⟩:=e0;have e0:=pure_ok e;clear e;obtain⟨rfl,rfl⟩:=e0;exact⟨ι,ρ,M,x,_,S,R,e1,fun v H1 ι1 r1 S1 X1=>k H1 ι1 S1 X1 _ (R.mono X1)⟩
theorem LS.ret {fe:DE}(D:Ends)(σ:St)(H:Hp)(h:LS K (fun ρ=>do let x <- fe ρ;pure (.rt x)) D σ H):tRet (LE K fe) D σ H:=by
 obtain⟨ι,ρ,M,fl,M',S,R,e,k⟩:=h;have e0:=bind_ok e;clear e;obtain⟨x,M1,e1,e⟩:=e0;have e0:=pure_ok e;clear e;obtain⟨rfl,rfl⟩:=e0;exact⟨ι,ρ,M,x,_,S,R,e1,fun v H1 ι1 r1 S1 X1=>k H1 ι1 S1 X1 v r1⟩
theorem LS.flow {fl:Ev->Fl}(D:Ends)(σ:St)(H:Hp)(h:LS K (fun ρ=>pure (fl ρ)) D σ H):∃ ι ρ,EnvR K ι H ρ σ/\FlP K D ι H (fl ρ):=by
 obtain⟨ι,ρ,M,f,M',S,R,e,k⟩:=h;have e0:=pure_ok e;clear e;obtain⟨rfl,rfl⟩:=e0;exact⟨ι,ρ,R,k H ι S Ext.refl⟩
theorem LS.ifS {fc:Ev->Mo Bool}{fa fb:Ev->Mo Fl}(D:Ends)(σ:St)(H:Hp)(h:LS K (fun ρ=>do let k <- fc ρ;if k=true then fa ρ else fb ρ) D σ H):tIfS (LT K fc) (LS K fa) (LS K fb) D σ H:=by
 obtain⟨ι,ρ,M,fl,M',S,R,e,k⟩:=h;have e0:=bind_ok e;clear e;obtain⟨b,M1,e1,e⟩:=e0;refine⟨ι,ρ,M,b,M1,S,R,e1,fun H1 ι1 S1 X1=>?_⟩;split at e
 ·rename_i hb
  rw[if_pos hb];exact⟨ι1,ρ,_,fl,M',S1,R.mono X1,e,fun H' ι' S' X'=>k H' ι' S' (X1.trans X')⟩
 ·rename_i hb
  rw[if_neg hb];exact⟨ι1,ρ,_,fl,M',S1,R.mono X1,e,fun H' ι' S' X'=>k H' ι' S' (X1.trans X')⟩
theorem LS.while {fc:Ev->Mo Bool}{fb:Ev->Mo Fl}{wh:Nat}(D:Ends)(σ:St)(H:Hp)(h:LS K (fun ρ=>whileD fc fb wh ρ) D σ H):tWhile (LT K fc) (LS K fb) D σ H:=by
 obtain⟨ι,ρ,M,fl,M',S,R,e,k⟩:=h;refine⟨fun m σ' H'=>∃ ι' ρ' M2,Sim K ι' M2 H'/\EnvR K ι' H' ρ' σ'/\Ext K ι H ι' H'/\whileD fc fb m ρ' M2=some (.ok fl,M'),⟨wh,ι,ρ,M,S,R,Ext.refl,e⟩,?_⟩;rintro m σ' H' ⟨ι',ρ',M2,S2,R2,X2,e2⟩;cases m with
 | zero=>exact(stop_ok e2).elim
 | succ m =>
  unfold whileD at e2;have e20:=bind_ok e2;clear e2;obtain⟨b,M3,e3,e2⟩:=e20;refine⟨ι',ρ',M2,b,M3,S2,R2,e3,fun H3 ι3 S3 X3=>?_⟩;cases b with
  | true =>
   rw[if_pos rfl]at e2 ⊢;have e20:=bind_ok e2;clear e2;obtain⟨f,M4,e4,e2⟩:=e20;refine⟨fun σ4 H4=>∃ ι' ρ' M2,Sim K ι' M2 H4/\EnvR K ι' H4 ρ' σ4/\Ext K ι H ι' H4/\whileD fc fb m ρ' M2=some (.ok fl,M'),fun σ4 H4 q=>⟨m,Nat.lt_succ_self _,q⟩,?_⟩;refine⟨ι3,ρ',M3,f,M4,S3,R2.mono X3,e4,fun H4 ι4 S4 X4=>?_⟩;cases f with
   | nx ρ4=>exact fun σ4 R4=>⟨ι4,ρ4,M4,S4,R4,(X2.trans X3).trans X4,e2⟩
   | ct ρ4=>exact fun σ4 R4=>⟨ι4,ρ4,M4,S4,R4,(X2.trans X3).trans X4,e2⟩
   | bk ρ4 =>
    have e20:=pure_ok e2;clear e2;obtain⟨rfl,rfl⟩:=e20;exact fun σ4 R4=>k H4 ι4 S4 ((X2.trans X3).trans X4) σ4 R4
   | rt v =>
    have e20:=pure_ok e2;clear e2;obtain⟨rfl,rfl⟩:=e20;exact fun v' r'=>k H4 ι4 S4 ((X2.trans X3).trans X4) v' r'
  | false =>
   rw[if_neg Bool.false_ne_true]at e2 ⊢;have e20:=pure_ok e2;clear e2;obtain⟨rfl,rfl⟩:=e20;exact k H3 ι3 S3 (X2.trans X3) σ' (R2.mono X3)
theorem LS.seq {fa fb:Ev->Mo Fl}(D:Ends)(σ:St)(H:Hp)(h:LS K (fun ρ=>do
  let f <- fa ρ
  (match f with
  | .nx ρ'=>fb ρ'
  | .rt v=>pure (.rt v)
  | .bk ρ'=>pure (.bk ρ')
  | .ct ρ'=>pure (.ct ρ'))) D σ H):tSeq (LS K fa) (LS K fb) D σ H:=by
 obtain⟨ι,ρ,M,fl,M',S,R,e,k⟩:=h;have e0:=bind_ok e;clear e;obtain⟨f,M1,e1,e⟩:=e0;refine⟨ι,ρ,M,f,M1,S,R,e1,fun H1 ι1 S1 X1=>?_⟩;cases f with
 | nx ρ1=>exact fun σ1 R1=>⟨ι1,ρ1,M1,fl,M',S1,R1,e,fun H' ι' S' X'=>k H' ι' S' (X1.trans X')⟩
 | rt v=>have e0:=pure_ok e;clear e;obtain⟨rfl,rfl⟩:=e0;exact k H1 ι1 S1 X1
 | bk ρ1=>have e0:=pure_ok e;clear e;obtain⟨rfl,rfl⟩:=e0;exact k H1 ι1 S1 X1
 | ct ρ1=>have e0:=pure_ok e;clear e;obtain⟨rfl,rfl⟩:=e0;exact k H1 ι1 S1 X1
structure SoundS (Γ:Ctx) (n:Nat):Prop where
 S:∀ (S:Sc) (X:Cx) (e:Stmt) (i:IS),CxOk Γ S X->(∀ x,X.fn x=true)->cS S n e=some i->PS X e (LS X.K (semS Γ i))
 Ss:∀ (S:Sc) (X:Cx) (e:List Stmt) (i:ISs),CxOk Γ S X->(∀ x,X.fn x=true)->cSs S n e=some i->PSs X e (LS X.K (semSs Γ i))
end
section
variable {Γ:Ctx}{n:Nat}
theorem sw_sub {e o i:Expr}{p:Pos}{l:Nat}{env:Env}:swapsWithSole [.Subscript o i p] e l env=pure false/\swappedStores [.Subscript o i p] e env=pure none:=by
 constructor
 ·cases e <;> rfl
 ·cases e <;> rfl
theorem sw_name {e:Expr}{x:Str}{p:Pos}{l:Nat}{env:Env}(hn:noComp e=true):swapsWith e (some (.Name x p)) l env=pure false:=by
 cases e <;> first | rfl | cases hn
theorem sw_none {e:Expr}{l:Nat}{env:Env}(hn:noComp e=true):swapsWith e none l env=pure false:=by
 cases e <;> first | rfl | cases hn
theorem as_sub {o i:Expr}{p:Pos}{env:Env}(h:ixE i=true):∀ v,assign (.Subscript o i p) env v=(do
   let ov <- holding [v] (eval o env)
   let iv <- holding [v,ov] (eval i env)
   standAt p
   holding [v,ov,iv] (setItem ov iv v)
   release [v,ov,iv] []):=by
 intro v;cases i <;> first | rfl | exact absurd h Bool.false_ne_true
theorem ps_compS {S:Sc}{X:Cx}{sc:Scope}{x y:Str}{px pos py spos:Pos}{elt iter:Expr}{ifs:List Expr}{j i:Nat}{fs:Ev->Mo Src}{fc:Ev->Mo Bool}{fe:DE}(C:CxOk Γ S X)(h:compOk S sc [x]=true)(hi:PI X (.Name x px) iter (LI X.K fs))(hs:∀ x,foldedSetIterable iter X.env x=pure x)
  (htc:∀ X',CxOk Γ (S.comp sc [x]) X'->X'.K=X.K->PTs X' ifs (LT X'.K fc)) (hte:∀ X',CxOk Γ (S.comp sc [x]) X'->X'.K=X.K->PE X' elt (LE X'.K fe)) (hy:X.N[i]?=some y) (hl:Loc X.env.scope y) (hf:X.fn y=true) :
  PS X (.Assign [.Name y py] (.ListComp elt [⟨.Name x px,iter,ifs,0⟩] sc pos) spos) (LS X.K (fun ρ=>do
   let v <- (do
    let s <- fs ρ
    need (s.ds.length<=sizeLine)
    let ys <- compD s.ck fc fe (ρ.set j none) s.ds
    newM (.lst ys))
   pure (.nx (ρ.set i (some v))))):=by
 intro pins s σ H D I q;have CS:=compOk_sc C I.ok h;have q2:=LS.set D σ H q;exact ps_comp C.calm CS (fun _ _ _ _=>pg_own CS rfl _ _ _ _) hi (fun Ca s H fp=>htc _ (comp_cx C h _ Ca s H fp) rfl) (fun Ca s H fp=>hte _ (comp_cx C h _ Ca s H fp) rfl) hs C.nd hy hl (.inl hf) pins s σ H D I (LE.comp σ H _ q2)
theorem comp_of {v elt:Expr}{gs:List Comprehension}{sc:Scope}(h:compP v=some (elt,gs,sc)):∃ p,v=.ListComp elt gs sc p:=by
 cases v with
 | ListComp a b c p=>cases h;exact⟨p,rfl⟩
 | _=>cases h
theorem enum_sound (hE:∀ n,Sound Γ n){S:Sc}{X:Cx}(C:CxOk Γ S X){es:List Expr}{k1:Nat}{p1 p q:Pos}{f:Str}{as:List Expr}{i:IP}(h1:f = "enumerate")(h:enumK S (cE S n) f as=some i):PI X (.Tuple es k1 p1) (.Call (.Name f p) as [] q) (LI2 X.K (semP Γ i)):=by
 rcases as with _ | ⟨a,_ | ⟨_,_⟩⟩
 ·cases h
 ·replace h:(if okName f&&S.glo f&&S.bls.contains f&&plainE a then (cE S n a).map IP.enum else none)=some i:=h
  split at h
  ·rename_i hs
   simp only[Bool.and_eq_true]at hs;obtain⟨⟨⟨h2,h3⟩,h4⟩,h5⟩:=hs;obtain⟨x,g,rfl⟩:=Option.map_eq_some_iff.mp h;subst h1;exact PI.imp (pi_enum (C.glo h3) (C.bls _ (mem_of_contains h4)) (pa_cons ((hE n).E _ _ _ _ C g) pa_nil (star_plain h5)) (star_plain h5)) LI2.enum
  ·cases h
 ·cases h
theorem sound_P (hE:∀ n,Sound Γ n){S:Sc}{X:Cx}(C:CxOk Γ S X){es:List Expr}{k1:Nat}{p1:Pos}{e:Expr}{i:IP}(h:cP S n e=some i):PI X (.Tuple es k1 p1) e (LI2 X.K (semP Γ i))/\∀ x,foldedSetIterable e X.env x=pure x:=by
 have seq:(cE S n e).map IP.seq=some i->PI X (.Tuple es k1 p1) e (LI2 X.K (semP Γ i)):=fun h=>by
  obtain⟨x,h1,rfl⟩:=Option.map_eq_some_iff.mp h;exact PI.imp (pi_any ((hE n).E _ _ _ _ C h1)) fun σ H R q=>LI.seq σ H R (LI2.to σ H R q)
 delta cP at h;cases hr:rngE e with
 | some q =>
  obtain⟨f,p,as,q⟩:=q;rw[hr]at h;dsimp only at h;have he:=rngE_eq hr;split at h
  ·rename_i hf
   refine⟨?_,by rw[he];exact fun _=>rfl⟩;rw[he];exact enum_sound hE C (by simpa using hf) h
  ·exact⟨seq h,by rw[he];exact fun _=>rfl⟩
 | none =>
  rw[hr]at h;dsimp only at h;have old:(if itE e then (cE S n e).map .seq else none)=some i->PI X (.Tuple es k1 p1) e (LI2 X.K (semP Γ i))/\∀ x,foldedSetIterable e X.env x=pure x:=fun h=>by
   split at h
   ·rename_i hit
    exact⟨seq h,fold_it hit⟩
   ·cases h
  unfold gitK at h;split at h
  ·rename_i o m p2 p3 hit
   split at h
   ·rename_i x p hx
    split at h
    ·rename_i hc
     cases h;simp only[Bool.and_eq_true,beq_iff_eq]at hc;obtain⟨hn,⟨⟨ho,hgl⟩,rfl⟩,hln⟩:=hc;have he:e=.Call (.Attribute o ("items" : Str) p2) [] [] p3:=by
      unfold itemsE at hit;split at hit
      ·cases hit;rfl
      ·cases hit
     have hox:o=.Name x p:=by
      unfold nmE at hx;split at hx
      ·cases hx;rfl
      ·cases hx
     subst hox he;obtain⟨o1,o2,o3⟩:=okName_debug ho;obtain⟨ad,d,ks,g1,g2,g3,g4⟩:=C.gdx x hn;exact⟨PI.imp (pi_gd g4 (C.glo hgl) g3 o1 rfl (by simpa using hln)) fun σ H R q=>LI2.gd g1 g2 σ H R q,fun _=>rfl⟩
    ·exact old h
   ·exact old h
  ·exact old h
theorem nmE_eq {e:Expr}{x:Str}{p:Pos}(h:nmE e=some (x,p)):e=.Name x p:=by
 cases e <;> first | cases h;rfl | cases h
theorem pair_sound (hE:∀ n,Sound Γ n){S:Sc}{X:Cx}(C:CxOk Γ S X)(hf:∀ x,X.fn x=true)(hp:PassesOwn (model X.prog X.w) X.A X.env X.xe){a b iter:Expr}{body:List Stmt}{r:Option ISs}{i:IS}{k1:Nat}{p1 p:Pos}(hb:∀ y,r=some y->PSs X body (LS X.K (semSs Γ y)))
  (h:pair2 S n a b iter r=some i):PS X (.For (.Tuple [a,b] k1 p1) iter body [] p) (LS X.K (semS Γ i)):=by
 delta pair2 at h;cases ha:nmE a with
 | none=>rw[ha]at h;cases h
 | some q =>
  obtain⟨x,pa⟩:=q;rw[ha]at h;dsimp only at h;cases hb2:nmE b with
  | none=>rw[hb2]at h;cases h
  | some q =>
   obtain⟨y,pb⟩:=q;rw[hb2]at h;dsimp only at h;obtain rfl:=nmE_eq ha;obtain rfl:=nmE_eq hb2;split at h
   ·rename_i hl
    rw[Bool.and_eq_true]at hl;obtain⟨i1,h1,h⟩:=obind h;obtain⟨j1,h2,h⟩:=obind h;obtain⟨it,h3,h⟩:=obind h;obtain⟨z,h4,h⟩:=obind h;cases h;have hN1:=slot_get h1;rw[<- C.n]at hN1;have hN2:=slot_get h2;rw[<- C.n]at hN2;obtain⟨t1,t2⟩:=sound_P hE C h3;exact PS.imp (ps_for hp C.calm t1 (pg_tup C.calm (pgs_cons (pg_name C.nd hN1 (C.loc hl.1) (.inl (hf x))) (pgs_cons (pg_name C.nd hN2 (C.loc hl.2) (.inl (hf y))) pgs_nil))) (hb _ h4) t2) LS.lpair
   ·cases h
theorem sound_S (hE:∀ n,Sound Γ n)(ih:SoundS Γ n)(S:Sc)(X:Cx)(e:Stmt)(i:IS)(C:CxOk Γ S X)(hf:∀ x,X.fn x=true)(h:cS S (n + 1) e=some i):PS X e (LS X.K (semS Γ i)):=by
 have hp:PassesOwn (model X.prog X.w) X.A X.env X.xe:=by rw[C.nox];exact PassesOwn.never
 cases e with
 | Assign ts v pos =>
  replace h:asgK S n ts v=some i:=h;rcases ts with _ | ⟨t,_ | ⟨t2,ts⟩⟩
  ·cases h
  ·replace h:asgT S n t v=some i:=h
   cases t with
   | Name x p =>
    replace h:asgN S n x v=some i:=h;delta asgN at h;cases hc:compP v with
    | some q =>
     obtain⟨elt,gs,sc⟩:=q;rw[hc]at h;dsimp only at h;cases hg:gensK gs with
     | none=>rw[hg]at h;cases h
     | some q =>
      obtain⟨y,py,iter,ifs⟩:=q;rw[hg]at h;dsimp only at h;obtain⟨cp,rfl⟩:=comp_of hc;obtain rfl:=gens_eq hg;split at h
      ·rename_i hl
       rw[Bool.and_eq_true]at hl;obtain⟨i',h1,h⟩:=obind h;obtain⟨it,g1,h⟩:=obind h;obtain⟨c,g2,h⟩:=obind h;obtain⟨y',g3,h⟩:=obind h;cases h;have hN:=slot_get h1;rw[<- C.n]at hN;obtain⟨t1,t2⟩:=(hE n).T _ X (.Name y py) _ _ C g1;exact ps_compS C hl.2 t1 t2 (fun X' C' _=>(hE n).Co _ _ _ _ C' g2) (fun X' C' _=>(hE n).E _ _ _ _ C' g3) hN (C.loc hl.1) (hf x)
      ·cases h
    | none =>
     rw[hc]at h;dsimp only at h;split at h
     ·rename_i hl
      rw[Bool.and_eq_true]at hl;obtain⟨j,h1,h⟩:=obind h;obtain⟨y,h2,h⟩:=obind h;cases h;have hN:=slot_get h1;rw[<- C.n]at hN;exact PS.imp (ps_set C.nd hN (C.loc hl.1) ((hE n).E _ _ _ _ C h2) (sw_name hl.2) (.inl (hf x))) LS.set
     ·cases h
   | Subscript o ix p =>
    delta asgT at h;dsimp only at h;split at h
    ·rename_i hix
     obtain⟨y,h1,h⟩:=obind h;obtain⟨a,h2,h⟩:=obind h;obtain⟨b,h3,h⟩:=obind h;cases h;exact PS.imp (ps_asg ((hE n).E _ _ _ _ C h1) (pg_sub ((hE n).E _ _ _ _ C h2) ((hE n).E _ _ _ _ C h3) (set_ix C.hu) (as_sub hix)) sw_sub.1 (sw_sub (l:=0)).2 rfl) LS.setIx
    ·cases h
   | _=>cases h
  ·cases h
 | Expr e pos =>
  replace h:(if noComp e then (do let y <- cE S n e;some (.expr y)) else none)=some i:=h;split at h
  ·rename_i hn
   obtain⟨y,h1,h⟩:=obind h;cases h;exact PS.imp (ps_expr ((hE n).E _ _ _ _ C h1) (sw_none hn)) LS.expr
  ·cases h
 | Return o pos =>
  cases o with
  | some e =>
   replace h:(do let y <- cE S n e;some (.ret y))=some i:=h;obtain⟨y,h1,h⟩:=obind h;cases h;exact PS.imp (ps_ret ((hE n).E _ _ _ _ C h1)) LS.ret
  | none =>
   cases h;exact PS.imp ps_retN fun D σ H q=>by
    obtain⟨ι,ρ,R,k⟩:=LS.flow D σ H q;exact k .non .non
 | Raise a b c =>
  have hz:(∃ e,i=.rz e)\/i=.halt:=by
   have h:some (rzK S (cE S n) a b)=some i:=h;cases h;unfold rzK;split
   ·split
    ·split
     ·split
      ·split
       ·exact .inl ⟨_,rfl⟩
       ·exact .inr rfl
      ·exact .inr rfl
     ·exact .inr rfl
    ·exact .inr rfl
   ·exact .inr rfl
  clear h;rcases hz with ⟨e0,rfl⟩ | rfl
  ·intro pins s σ H D I q
   obtain⟨ι,ρ,M,fl,M',S',R,e,k⟩:=q;exact(stop_ok e).elim
  intro pins s σ H D I q;obtain⟨ι,ρ,M,fl,M',S',R,e,k⟩:=q;exact(stop_ok e).elim
 | Pass p =>
  cases h;exact PS.imp ps_pass fun D σ H q=>by
   obtain⟨ι,ρ,R,k⟩:=LS.flow D σ H q;exact k σ R
 | Break p =>
  cases h;exact PS.imp ps_break fun D σ H q=>by
   obtain⟨ι,ρ,R,k⟩:=LS.flow D σ H q;exact k σ R
 | Continue p =>
  cases h;exact PS.imp ps_continue fun D σ H q=>by
   obtain⟨ι,ρ,R,k⟩:=LS.flow D σ H q;exact k σ R
 | If c a b p =>
  replace h:(do let k <- cC S n c;let x <- cSs S n a;let y <- cSs S n b;some (.ifS k x y))=some i:=h;obtain⟨k,h0,h⟩:=obind h;obtain⟨x,h1,h⟩:=obind h;obtain⟨y,h2,h⟩:=obind h;cases h;exact PS.imp (ps_if ((hE n).C _ _ _ _ C h0) (ih.Ss _ _ _ _ C hf h1) (ih.Ss _ _ _ _ C hf h2)) LS.ifS
 | For t iter b o p =>
  replace h:noneK o (forT S n t iter (cSs S n b))=some i:=h;cases o with
  | cons _ _=>cases h
  | nil =>
   replace h:forT S n t iter (cSs S n b)=some i:=h;cases t with
   | Name x p =>
    replace h:(if S.loc x then (do let i <- slot S.N x;let it <- cT S n iter;let y <- cSs S n b;some (.forS i it y)) else none)=some i:=h;split at h
    ·rename_i hl
     obtain⟨j,h0,h⟩:=obind h;obtain⟨it,h1,h⟩:=obind h;obtain⟨y,h2,h⟩:=obind h;cases h;have hN:=slot_get h0;rw[<- C.n]at hN;obtain⟨t1,t2⟩:=(hE n).T _ X (.Name x p) _ _ C h1;exact PS.imp (ps_for hp C.calm t1 (pg_name C.nd hN (C.loc hl) (.inl (hf x))) (ih.Ss _ _ _ _ C hf h2) t2) LS.loop
    ·cases h
   | Tuple ts k1 p1 =>
    replace h:pairT S n ts iter (cSs S n b)=some i:=h;rcases ts with _ | ⟨a,_ | ⟨b2,_ | ⟨_,_⟩⟩⟩
    ·cases h
    ·cases h
    ·replace h:pair2 S n a b2 iter (cSs S n b)=some i:=h
     exact pair_sound hE C hf hp (fun y h2=>ih.Ss _ _ _ _ C hf h2) h
    ·cases h
   | _=>cases h
 | While c b o p =>
  cases o with
  | cons _ _=>cases h
  | nil =>
   replace h:(do let k <- cC S n c;let y <- cSs S n b;some (.whileS k y))=some i:=h;obtain⟨k,h0,h⟩:=obind h;obtain⟨x,h1,h⟩:=obind h;cases h;exact PS.imp (ps_while hp ((hE n).C _ _ _ _ C h0) (ih.Ss _ _ _ _ C hf h1)) LS.while
 | _=>cases h
theorem sound_Ss (ih:SoundS Γ n)(S:Sc)(X:Cx)(e:List Stmt)(i:ISs)(C:CxOk Γ S X)(hf:∀ x,X.fn x=true)(h:cSs S (n + 1) e=some i):PSs X e (LS X.K (semSs Γ i)):=by
 unfold cSs at h;cases e with
 | nil =>
  cases h;exact PSs.imp pss_nil fun D σ H q=>by
   obtain⟨ι,ρ,R,k⟩:=LS.flow D σ H q;exact k σ R
 | cons s r =>
  obtain⟨x,h1,h⟩:=obind h;obtain⟨y,h2,h⟩:=obind h;cases h;exact PSs.imp (pss_cons (ih.S _ _ _ _ C hf h1) (ih.Ss _ _ _ _ C hf h2)) LS.seq
theorem soundS (hE:∀ n,Sound Γ n):∀ n,SoundS Γ n
 | 0=>⟨(fun _ _ _ _ _ _ h=>by cases h),(fun _ _ _ _ _ _ h=>by unfold cSs at h;cases h)⟩
 | n + 1=>⟨sound_S hE (soundS hE n),sound_Ss (soundS hE n)⟩
end
end L3
namespace L3
open PySem PySem.Spec PyProof.Rows L2
section
variable {X:Cx}{pins:List (Addr×Obj)}{σ:L2.St}{H:Hp}{s:Shared}{h':Heap}
theorem inv_noted {t':Nat}{ch:List Addr}(I:Inv X pins σ H s)
  (hch:∀ b∈ch,X.s₀.heap.get? b=none/\b≠X.env.locals/\(∀ x c,X.env.cells.lookup x=some c->c≠b)/\(∀ p∈X.pn++pins,p.1≠b)/\H b=none) (mv:Mv (frs X.stack) ch s.heap h') :
  Inv X pins σ H { s with heap:=h',toks:=t' }:=by
 have neC:∀ b o,X.s₀.heap.get? b=some o->b ∉ ch:=fun b o e hb=>by rw[(hch b hb).1]at e;cases e
 have neS:∀ b o,X.s₀.heap.get? b=some o->b ∉ X.fs->b ∉ frs X.stack:=fun b o e hb z=>by
  rcases List.mem_cons.mp (I.stkSub b z) with q | q
  ·exact absurd (Nat.lt_of_lt_of_le (Heap.lt_size e) (q ▸ I.ok.above)) (Nat.lt_irrefl _)
  ·exact hb q
 have cellK:∀ x c,X.env.cells.lookup x=some c->∀ v,s.heap.IsCell c v->h'.IsCell c v:=fun x c e v ⟨o,ho,hd⟩=>by
  obtain⟨sl,q⟩:=mv.slot c o (fun z=>(hch c z).2.2.1 x c e rfl) ho;exact⟨_,q,hd⟩
 refine⟨I.ok,I.os,I.bare,⟨fun b o e n hb hx=>?_,fun b o e n hb hx=>?_,fun b o e n hx=>I.base.free b o e n hx,fun b o e hx=>?_,I.base.tups,I.base.frzs,I.base.tbls⟩,?_,fun x c e=>?_,I.free,I.freeC,fun p hp=>?_,?_,I.len⟩
 ·exact mv.keep b o (neS b o e hb) (neC b o e) (I.base.keep b o e n hb hx)
 ·obtain⟨sl,e1⟩:=I.base.slot b o e n hb hx
  obtain⟨sl',e2⟩:=mv.slot b _ (neC b o e) e1;exact⟨sl',e2⟩
 ·obtain⟨o',e1⟩:=I.base.there b o e hx
  exact mv.there b o' e1
 ·obtain⟨m,⟨o,es,ep,ho,r⟩,hl⟩:=I.loc
  obtain⟨sl,q⟩:=mv.slot _ o (fun z=>(hch _ z).2.1 rfl) ho;refine⟨m,⟨_,es,ep,q,r⟩,fun i x v e1 e2 e3=>?_⟩;obtain⟨u,r,l⟩:=hl i x v e1 e2 e3;refine⟨u,r,?_⟩;rcases l with l | ⟨k,c,e,z⟩
  ·exact .inl l
  ·exact .inr ⟨k,c,e,cellK x c e _ z⟩
 ·obtain⟨v,z⟩:=I.cell x c e
  exact⟨v,cellK x c e v z⟩
 ·obtain⟨e,n,ne,nf,d⟩:=I.pin p hp
  refine⟨mv.keep p.1 p.2 (fun z=>(List.mem_cons.mp (I.stkSub _ z)).elim ne nf) (fun z=>(hch p.1 z).2.2.2.1 p hp rfl) e,n,ne,nf,d⟩
 ·intro a o ha
  have kk:∀ b u o',H b=some o'->s.heap.get? b=some u->h'.get? b=some u:=fun b u o' hb q=>mv.keep b u (fun z=>by rw[I.stkFree b z]at hb;cases hb) (fun z=>by rw[(hch b z).2.2.2.2]at hb;cases hb) q;refine(I.hok a o ha).stay (fun b u hb q=>?_) (fun _ q=>q) fun _ _ q=>q;rcases hb with rfl | hb
  ·exact kk _ u _ ha q
  ·exact kk b u _ hb q
end
noncomputable def CXz (P:Program)(w:World):CXT:=fun outer H s E x s'=>∃ e T C dd H',x=.ref e/\s'.os=s.os/\AllBare s'.gens/\Un (frs outer) [] H H' s.heap s'.heap/\HOk P w H' s'.heap/\FlyT e T (.ref C) dd s'.heap /\
 s.heap.get? e=none/\s.heap.get? T=none/\H' e=none/\H' T=none/\E (.ref C) dd H'
section
variable {P:Program}{w:World}{K:PySem.W.Frag}{mg:Str->Option Value}{base:Heap}{N:List Str}{qual:Str}{scope:Scope}{f:Addr}{cd:Value}{A:Around}{outer:List Env}{s:Shared}{H:Hp}{E:XK}
theorem rz_leaves {pins:List (Addr×Obj)}{σ:L2.St}{H1:Hp}{s1:Shared}{e C t:Addr}{dd:Option Addr}(I:Inv (cxOf (CXz P w) P w K mg base N qual scope f cd A outer s H E) pins σ H1 s1)
  (he:s1.heap.get? e=some (excO C t dd)) (h0:s.heap.get? e=none) (hH:H1 e=none) (hl:e≠s.heap.objs.size) (hp:∀ p∈(cxOf (CXz P w) P w K mg base N qual scope f cd A outer s H E).pn++pins,p.1≠e)
  (hc:∀ x c,(envOfC qual scope s.heap.objs.size f cd).cells.lookup x=some c->c≠e) (hz:E (.ref C) dd H1):(cxOf (CXz P w) P w K mg base N qual scope f cd A outer s H E).xe (.ref e) s1:=by
 show wpAny (model P w) (A.deeper (envOfC qual scope s.heap.objs.size f cd)) (leaving (envOfC qual scope s.heap.objs.size f cd) (.ref e)) (fun _ s''=>CXz P w outer H s E (.ref e) s'') (fun e' s''=>CXz P w outer H s E e' s'') s1;refine leaves_made (base:=base) (L:=s.heap.objs.size) I.ok.frames I.stack rfl he rfl rfl fun h3 T hF hT mv=>?_;have I2:=inv_noted (t':=s1.toks) (ch:=[e]) I (fun b hb=>by
  rw[List.mem_singleton.mp hb];exact⟨h0,hl,hc,hp,hH⟩) mv
 have o0:∀ b,s1.heap.get? b=none->s.heap.get? b=none:=fun b q=>by
  cases z:s.heap.get? b with
  | none=>rfl
  | some o =>
   obtain⟨o',e'⟩:=I.base.there b o z (fun z'=>nomatch z');rw[q]at e';cases e'
 have hT1:s1.heap.get? T=none:=Heap.get?_none_of_le hT;have hn:∀ b,s1.heap.get? b=none->H1 b=none:=fun b q=>by
  cases z:H1 b with
  | none=>rfl
  | some u =>
   obtain⟨o,ho⟩:=obj_there (I.hok b u z);rw[q]at ho;cases ho
 exact⟨e,T,C,dd,H1,rfl,I2.os,I2.bare,I2.base,I2.hok,hF,h0,o0 T hT1,hH,hn T hT1,hz⟩
end
end L3
namespace L3
open PySem PySem.Spec PyProof.Rows L2
noncomputable def LX (K:PySem.W.Frag)(Ze:Int->Hp->Prop)(z:Ev->MH->Option (Int×MH)):TS:=fun _ σ H=>∃ ι ρ M i M',Sim K ι M H/\EnvR K ι H ρ σ/\z ρ M=some (i,M')/\∀ H' ι',Sim K ι' M' H'->Ext K ι H ι' H'->Ze i H'
section
variable {X:Cx}{E:Value->Shared->Prop}
theorem PS.nox {st:Stmt}{t:TS}(h:PS X.nox st t):PS X st t:=fun pins s σ H D I hw =>
 wpAny_mono (h pins s σ H D (I.wish _) hw) (fun _ _ q=>q.unwish) fun _ _ z=>False.elim z
theorem PI.nox {tg iter:Expr}{wi:TI}(h:PI X.nox tg iter wi):PI X tg iter wi:=fun pins s σ H R I hw =>
 wpAny_mono (h pins s σ H R (I.wish _) hw) (fun _ _ q=>wpAny_mono q (fun _ _ ⟨it,fp,tn,J,H2,e,I2,T,st2,f2,q⟩=>⟨it,fp,tn,J,H2,e,I2.unwish,T,st2,f2,q⟩) fun _ _ z=>False.elim z) fun _ _ z=>False.elim z
theorem PSs.or {sts:List Stmt}{t u:TS}(h1:PSs X sts t)(h2:PSs X sts u):PSs X sts (fun D σ H=>t D σ H\/u D σ H):=fun pins s σ H D I q=>q.elim (h1 pins s σ H D I) (h2 pins s σ H D I)
theorem PS.or {st:Stmt}{t u:TS}(h1:PS X st t)(h2:PS X st u):PS X st (fun D σ H=>t D σ H\/u D σ H):=fun pins s σ H D I q=>q.elim (h1 pins s σ H D I) (h2 pins s σ H D I)
end
section
variable {K:PySem.W.Frag}{Ze:Int->Hp->Prop}
theorem nx1_ok {o:Option (Out Fl×MH)}{ρ:Ev}{M:MH}(h:nx1 o=some (ρ,M)):o=some (.ok (.nx ρ),M):=by
 unfold nx1 at h;split at h
 ·cases h;rfl
 ·cases h
theorem nx2_ok {o:Option (Out Fl×MH)}{ρ:Ev}{M:MH}(h:nx2 o=some (ρ,M)):o=some (.ok (.nx ρ),M)\/o=some (.ok (.ct ρ),M):=by
 unfold nx2 at h;split at h
 ·cases h;exact .inl rfl
 ·cases h;exact .inr rfl
 ·cases h
theorem LX.seq {fa:Ev->Mo Fl}{za zb:Ev->MH->Option (Int×MH)}(D:Ends)(σ:St)(H:Hp)(h:LX K Ze (fun ρ M=>match nx1 (fa ρ M) with
  | some (ρ',M1)=>zb ρ' M1
  | none=>za ρ M) D σ H):tSeq (fun D σ H=>LS K fa D σ H\/LX K Ze za D σ H) (LX K Ze zb) D σ H:=by
 obtain⟨ι,ρ,M,n,M',S,R,e,k⟩:=h;dsimp only at e;cases q:nx1 (fa ρ M) with
 | none =>
  rw[q]at e;exact .inr ⟨ι,ρ,M,n,M',S,R,e,k⟩
 | some p =>
  obtain⟨ρ1,M1⟩:=p;rw[q]at e;refine .inl ⟨ι,ρ,M,.nx ρ1,M1,S,R,nx1_ok q,fun H1 ι1 S1 X1=>?_⟩;exact fun σ1 R1=>⟨ι1,ρ1,M1,n,M',S1,R1,e,fun H' ι' S' X'=>k H' ι' S' (X1.trans X')⟩
theorem LX.ifS {fc:Ev->Mo Bool}{za zb:Ev->MH->Option (Int×MH)}(D:Ends)(σ:St)(H:Hp)(h:LX K Ze (fun ρ M=>match fc ρ M with
  | some (.ok k,M1)=>if k=true then za ρ M1 else zb ρ M1
  | _=>none) D σ H):tIfS (LT K fc) (LX K Ze za) (LX K Ze zb) D σ H:=by
 obtain⟨ι,ρ,M,n,M',S,R,e,k⟩:=h;dsimp only at e;split at e
 ·rename_i b M1 q
  refine⟨ι,ρ,M,b,M1,S,R,q,fun H1 ι1 S1 X1=>?_⟩;cases b with
  | true=>exact⟨ι1,ρ,M1,n,M',S1,R.mono X1,e,fun H' ι' S' X'=>k H' ι' S' (X1.trans X')⟩
  | false=>exact⟨ι1,ρ,M1,n,M',S1,R.mono X1,e,fun H' ι' S' X'=>k H' ι' S' (X1.trans X')⟩
 ·cases e
theorem LX.lpair {i j:Nat}{fs:Ev->Mo Src}{fb:Ev->Mo Fl}{zb:Ev->MH->Option (Int×MH)}(D:Ends)(σ:St)(H:Hp)(h:LX K Ze (fun ρ M=>match fs ρ M with
  | some (.ok s,M1)=>rzLP s.ck i j fb zb s.ds ρ M1
  | _=>none) D σ H):tFor (LI2 K fs) (gTup K 2 (gCons (gName i) (gCons (gName j) gNil))) (fun D σ H=>LS K fb D σ H\/LX K Ze zb D σ H) D σ H:=by
 obtain⟨ι,ρ,M,nn,M',S,R,e,k⟩:=h;dsimp only at e;split at e
 ·rename_i src M1 e1
  refine⟨ι,ρ,M,src,M1,S,R,e1,fun J H1 ι1 S1 X1 hJ=>?_⟩;refine⟨fun n m σ' H'=>m=src.ds.length - n/\n<=src.ds.length/\∃ ι' ρ' M2,Sim K ι' M2 H'/\EnvR K ι' H' ρ' σ'/\Ext K ι1 H1 ι' H'/\rzLP src.ck i j fb zb (src.ds.drop n) ρ' M2=some (nn,M'),
   ⟨_,rfl,Nat.zero_le _,ι1,ρ,M1,S1,R.mono X1,Ext.refl,e⟩,?_⟩
  rintro n m σ' H' ⟨rfl,hj,ι',ρ',M2,S2,R2,X2,e2⟩;by_cases hlt:n < src.ds.length
  ·right
   rw[List.drop_eq_getElem_cons hlt,rzLP]at e2;cases q:stand src.ck M2 with
   | none=>rw[q]at e2;cases e2
   | some r =>
    rw[q]at e2;dsimp only at e2;obtain⟨ok,rfl⟩:okM src.ck M2/\r=(.ok (),M2):=by
     unfold stand at q;split at q
     ·rename_i ok
      cases q;exact⟨ok,rfl⟩
     ·cases q
    cases hpr:pairD src.ds[n] with
    | none=>rw[hpr]at e2;cases e2
    | some pr =>
     rw[hpr]at e2;dsimp only at e2;obtain⟨go,yld⟩:=(hJ ι' H' _ X2 S2 ok).1 n _ (List.getElem?_eq_getElem hlt);refine⟨go,fun σ3 H3=>∃ ι3 ρ3 M4,Sim K ι3 M4 H3/\EnvR K ι3 H3 ρ3 σ3/\Ext K ι1 H1 ι3 H3/\rzLP src.ck i j fb zb (src.ds.drop (n + 1)) ρ3 M4=some (nn,M'),
      fun σ3 H3 ⟨ι3,ρ3,M4,h1,h2,h3,h4⟩=>⟨src.ds.length - (n + 1),by omega,rfl,hlt,ι3,ρ3,M4,h1,h2,h3,h4⟩,fun x H'' y=>?_⟩
     obtain⟨S5,X5,rx⟩:=yld x H'' y;rw[pairD_eq hpr]at rx;cases rx with
     | tup t q' =>
      cases q' with
      | cons q1 q2 =>
       cases q2 with
       | cons q2 q3 =>
        cases q3;refine⟨_,_,rfl,sqt t,rfl,_,_,rfl,_,_,rfl,rfl,?_⟩;cases q2':nx2 (fb ((ρ'.set i (some pr.1)).set j (some pr.2)) M2) with
        | none =>
         rw[q2']at e2;exact .inr ⟨ι',_,_,nn,M',S5,((R2.mono X5).set q1 i).set q2 j,e2,fun H3 ι3 S3 X3=>k H3 ι3 S3 ((X1.trans X2).trans (X5.trans X3))⟩
        | some p3 =>
         obtain⟨ρ3,M3⟩:=p3;rw[q2']at e2;rcases nx2_ok q2' with q3 | q3
         ·exact .inl ⟨ι',_,_,_,M3,S5,((R2.mono X5).set q1 i).set q2 j,q3,fun H3 ι3 S3 X3 σ3 R3=>⟨ι3,ρ3,M3,S3,R3,X2.trans (X5.trans X3),e2⟩⟩
         ·exact .inl ⟨ι',_,_,_,M3,S5,((R2.mono X5).set q1 i).set q2 j,q3,fun H3 ι3 S3 X3 σ3 R3=>⟨ι3,ρ3,M3,S3,R3,X2.trans (X5.trans X3),e2⟩⟩
  ·exfalso
   have ej:n=src.ds.length:=by omega
   subst ej;rw[List.drop_length]at e2;cases e2
 ·cases e
end
noncomputable def notZ:IS->Bool
 | .rz _=>false
 | .ifS _ _ _=>false
 | .forP _ _ _ _=>false
 | _=>true
mutual
noncomputable def zokS:Nat->Stmt->IS->Bool
 | 0,_,_=>false
 | n + 1,e,i=>match e with
  | .If _ a b _=>(match i with
   | .ifS _ x y=>zokSs n a x&&zokSs n b y
   | _=>false)
  | .For _ _ b _ _=>(match i with
   | .forP _ _ _ y=>zokSs n b y
   | _=>false)
  | .Raise _ _ _=>true
  | _=>notZ i
noncomputable def zokSs:Nat->List Stmt->ISs->Bool
 | 0,_,_=>false
 | n + 1,e,i=>match e with
  | []=>(match i with
   | .nil=>true
   | _=>false)
  | s::r=>(match i with
   | .cons a b=>zokS n s a&&zokSs n r b
   | _=>false)
end
theorem notZ_rz {Γ:Ctx}{i:IS}(h:notZ i=true)(ρ:Ev)(M:MH):rzS Γ i ρ M=none:=by
 cases i <;> first | rfl | cases h
section
variable {Γ:Ctx}{S:Sc}{X:Cx}{Ze:Int->Hp->Prop}(hE:∀ n,Sound Γ n)(hsS:∀ n,SoundS Γ n)(C:CxOk Γ S X.nox)(hf:∀ x,X.fn x=true)(hp:PassesOwn (model X.prog X.w) X.A X.env X.xe)
 (hr:∀ (ea:Expr) (fa:DE) (np cpos pos:Pos),S.glo "BadWord" = true->plainE ea=true->PE X ea (LE X.K fa)->PS X (.Raise (some (.Call (.Name "BadWord" np) [ea] [] cpos)) none pos) (fun _ σ H=>LE X.K fa σ H fun v H1=>∃ i,v=.int i/\Ze i H1))
include hE hsS C hf hp hr
theorem sound_Z:∀ n,(∀ e i,cS S n e=some i->zokS n e i=true->PS X e (LX X.K Ze (rzS Γ i)))/\(∀ e i,cSs S n e=some i->zokSs n e i=true->PSs X e (LX X.K Ze (rzSs Γ i)))
 | 0=>⟨fun e i h _=>(by cases h),fun e i h _=>(by unfold cSs at h;cases h)⟩
 | n + 1=>by
  obtain⟨ihS,ihSs⟩:=sound_Z n;refine⟨fun e i h hz=>?_,fun e i h hz=>?_⟩
  ·have no:notZ i=true->PS X e (LX X.K Ze (rzS Γ i)):=fun hn pins s σ H D I q=>by
    obtain⟨ι,ρ,M,n',M',_,_,q,_⟩:=q;rw[notZ_rz hn]at q;cases q
   cases e with
   | If c a b p =>
    replace h:(do let k <- cC S n c;let x <- cSs S n a;let y <- cSs S n b;some (.ifS k x y))=some i:=h;obtain⟨k,h0,h⟩:=obind h;obtain⟨x,h1,h⟩:=obind h;obtain⟨y,h2,h⟩:=obind h;cases h;replace hz:(zokSs n a x&&zokSs n b y)=true:=hz;rw[Bool.and_eq_true]at hz;exact PS.imp (ps_if (PT.nox ((hE n).C _ _ _ _ C h0)) (ihSs _ _ h1 hz.1) (ihSs _ _ h2 hz.2)) LX.ifS
   | For t iter b o p =>
    replace h:noneK o (forT S n t iter (cSs S n b))=some i:=h;cases o with
    | cons _ _=>cases h
    | nil =>
     replace h:forT S n t iter (cSs S n b)=some i:=h;cases i with
     | forP i' j' it' y' =>
      replace hz:zokSs n b y'=true:=hz;cases t with
      | Name x p =>
       exfalso;replace h:(if S.loc x then (do let i <- slot S.N x;let it <- cT S n iter;let y <- cSs S n b;some (IS.forS i it y)) else none)=some (IS.forP i' j' it' y'):=h
       split at h
       ·obtain⟨_,_,h⟩:=obind h
        obtain⟨_,_,h⟩:=obind h;obtain⟨_,_,h⟩:=obind h;cases h
       ·cases h
      | Tuple ts k1 p1 =>
       replace h:pairT S n ts iter (cSs S n b)=some (.forP i' j' it' y'):=h;rcases ts with _ | ⟨a,_ | ⟨b2,_ | ⟨_,_⟩⟩⟩
       ·cases h
       ·cases h
       ·replace h:pair2 S n a b2 iter (cSs S n b)=some (.forP i' j' it' y'):=h
        delta pair2 at h;cases ha:nmE a with
        | none=>rw[ha]at h;cases h
        | some q =>
         obtain⟨x,pa⟩:=q;rw[ha]at h;dsimp only at h;cases hb2:nmE b2 with
         | none=>rw[hb2]at h;cases h
         | some q =>
          obtain⟨y,pb⟩:=q;rw[hb2]at h;dsimp only at h;obtain rfl:=nmE_eq ha;obtain rfl:=nmE_eq hb2;split at h
          ·rename_i hl
           rw[Bool.and_eq_true]at hl;obtain⟨i1,h1,h⟩:=obind h;obtain⟨j1,h2,h⟩:=obind h;obtain⟨it,h3,h⟩:=obind h;obtain⟨z,h4,h⟩:=obind h;cases h;have en:X.N=S.N:=C.n;have hN1:=slot_get h1;rw[<- en]at hN1;have hN2:=slot_get h2;rw[<- en]at hN2;obtain⟨t1,t2⟩:=sound_P hE C h3;exact PS.imp (ps_for hp C.calm (PI.nox t1) (pg_tup C.calm (pgs_cons (pg_name C.nd hN1 (C.loc hl.1) (.inl (hf x))) (pgs_cons (pg_name C.nd hN2 (C.loc hl.2) (.inl (hf y))) pgs_nil))) (PSs.or (PSs.nox ((hsS n).Ss _ _ _ _ C hf h4)) (ihSs _ _ h4 hz)) t2) LX.lpair
          ·cases h
       ·cases h
      | _=>cases h
     | _=>cases hz
   | Raise a b c =>
    replace h:some (rzK S (cE S n) a b)=some i:=h;cases h;have nh:∀ pins s σ H D,Inv X pins σ H s->LX X.K Ze (rzS Γ IS.halt) D σ H->False:=fun pins s σ H D I q=>by
     obtain⟨ι,ρ,M,n',M',_,_,q,_⟩:=q;cases q
    unfold rzK;split
    ·rename_i e
     split
     ·split
      ·rename_i x np cpos hx
       split
       ·rename_i hg
        split
        ·rename_i i0 h1
         unfold rzX at hx;split at hx
         ·rename_i f p as q hrg
          rw[rng_eq hrg];split at hx
          ·rename_i hfn
           have hfn:=eq_of_beq hfn;subst hfn;split at hx
           ·split at hx
            ·rename_i hpl
             cases hx;refine PS.imp (hr _ (semE Γ i0) _ _ _ hg hpl (PE.nox ((hE n).E _ _ _ _ C h1))) fun D σ H q=>?_;obtain⟨ι,ρ,M,n',M',S',R,e',k⟩:=q;have e':(match semE Γ i0 ρ M with
              | some (.ok (.int i),M1)=>some (i,M1)
              | _=>none)=some (n',M'):=e'
             split at e'
             ·rename_i i1 M1 e2
              cases e';exact⟨ι,ρ,M,.int n',M',S',R,e2,fun v H1 ι1 r1 S1 X1=>⟨n',by cases r1;rfl,k H1 ι1 S1 X1⟩⟩
             ·cases e'
            ·cases hx
           ·cases hx
          ·cases hx
         ·cases hx
        ·exact fun pins s σ H D I q=>(nh pins s σ H D I q).elim
       ·exact fun pins s σ H D I q=>(nh pins s σ H D I q).elim
      ·exact fun pins s σ H D I q=>(nh pins s σ H D I q).elim
     ·exact fun pins s σ H D I q=>(nh pins s σ H D I q).elim
    ·exact fun pins s σ H D I q=>(nh pins s σ H D I q).elim
   | _=>exact no hz
  ·unfold cSs at h
   cases e with
   | nil =>
    cases h;intro pins s σ H D I q;obtain⟨ι,ρ,M,n',M',_,_,q,_⟩:=q;cases q
   | cons s r =>
    obtain⟨x,h1,h⟩:=obind h;obtain⟨y,h2,h⟩:=obind h;cases h;replace hz:(zokS n s x&&zokSs n r y)=true:=hz;rw[Bool.and_eq_true]at hz;exact PSs.imp (pss_cons (PS.or (PS.nox ((hsS n).S _ _ _ _ C hf h1)) (ihS _ _ h1 hz.1)) (ihSs _ _ h2 hz.2)) LX.seq
end
end L3
namespace L3
open PySem PySem.Spec PyProof.Rows L2
section
variable {M:Model}{A:Around}{E:Value->Shared->Prop}{s:Shared}{e C D fI:Addr}
theorem z_raiseStmt {env:Env}{x:Sem Value}{Q:Flow->Shared->Prop}(hh:A.handled=none)
  (h:wpAny M A x (fun v s₁=>∃ e t dd,v=.ref e/\ZH s₁.heap C D fI/\s₁.heap.get? e=some (excO C t dd)/\E (.ref e) s₁) E s) :
  wpAny M A (raiseStmt env (some x) none) Q E s:=by
 unfold raiseStmt;refine wpAny_bind (wpAny_mono h (fun v s₁ h₁=>?_) fun _ _ x=>x);obtain⟨e,t,dd,rfl,z,he,hE⟩:=h₁;obtain⟨⟨N,nm,q,bs,sn,sub,ab,col,dd,k0,k1,k2,k3,k5,mN,hC,_,_,_⟩,_⟩:=z;have hcB:(Value.ref C::Value.ref D::bmV).contains (.type "BaseException")=true:=rfl;unfold excO at he;obtain⟨hp,g,d,tk,os⟩:=s₁
 repeat (first | with_reducible refine wpAny_loadPart_at he ?_ | with_reducible refine wpAny_loadPart_at hC ?_ | (with_reducible refine wpAny_isSubtype_exc hC ?_;rw[hcB]) | wp_step)
 exact wpAny_raiseNew_none hh hE
theorem z_match {Q:Bool->Shared->Prop}{s:Shared}(x:ZE s.heap e C)(z:ZH s.heap C D fI)(hq:Q true s):wpAny M A (excMatches (.ref e) (.ref D)) Q E s:=by
 obtain⟨⟨N,nm,q,bs,sn,sub,ab,col,dd,k0,k1,k2,k3,k5,mN,h1,_,_⟩,⟨hdct',N',nm',q',bs',sn',sub',ab',col',dd',k0',k1',k2',k3',k5',mN',h1',h2',h3'⟩,_⟩:=z;obtain⟨oe,he,hcls⟩:=x;obtain⟨h,g,d,t,os⟩:=s;have hcB:(Value.ref D::bmV).contains (.type "BaseException")=true:=rfl;have hcC:(Value.ref C::Value.ref D::bmV).contains (.ref D)=true:=by simp
 have f:=tc_notTuple;unfold excMatches
 repeat (first | (with_reducible refine wpAny_loadPart_at he ?_;rw[hcls]) | with_reducible refine wpAny_loadPart_at h1' ?_ | (with_reducible refine wpAny_isSubtype_exc h1' ?_;rw[hcB]) | (with_reducible refine wpAny_isSubtype_exc h1 ?_;rw[hcC]) | wp_step)
 exact hq
end
section
variable {X:Cx}{C D fI:Addr}{fd:FuncData}{k:Nat}
theorem rz_raise {np cpos pos:Pos}{ea:Expr}{ta:TE}{Ze:Int->Hp->Prop}(Z:ZK X.K X.mg C D fI)(hb:Binds X.K fd ["self","at"] [])(F:FnOk X.prog X.w X.K X.mg X.base CX0 k fI fd ["self","at"] (spI C))(hr:Room (k + 1) X.A)
  (hg:Gl X "BadWord") (hc:X.calm=true) (ha:PE X ea ta) (hp:plainE ea=true) (hm:∀ (σ:St) (H:Hp) (Q R:VK),(∀ v H',Q v H'->R v H')->ta σ H Q->ta σ H R)
  (hx:∀ (pins:List (Addr×Obj)) (σ:St) (H:Hp) (s:Shared) (e:Addr) (i:Int),Made X pins σ H C e (.int i) s->Ze i H->X.xe (.ref e) s) :
  PS X (.Raise (some (.Call (.Name "BadWord" np) [ea] [] cpos)) none pos) (fun _ σ H=>ta σ H fun v H1=>∃ i,v=.int i/\Ze i H1):=by
 intro pins s σ H D' I h;have main:=exc_call (np:=np) (cpos:=cpos) (Q:=fun v s₁=>∃ e t dd,v=.ref e/\ZH s₁.heap C D fI/\s₁.heap.get? e=some (excO C t dd)/\X.xe (.ref e) s₁) Z hb F hr hg ha hp I (hm σ H _ _ (fun v H1 ⟨i,ev,z⟩ e s' M=>by
  subst ev;obtain⟨t,dx,I',d1,d2,he⟩:=M.ex;exact⟨e,t,some dx,rfl,Z.zh _ I'.kIn,he,hx pins σ H1 s' e i M z⟩) h)
 rw[arm_exec_Raise]
 first
  | exact wpAny_bind (wpAny_standAt (z_raiseStmt (I.ok.hd hc) (wpAny_bind (wpAny_mono main (fun v s₃ h₃=>wpAny_bind (wpAny_standAt (wpAny_pure h₃))) fun _ _ x=>x))))
  | (simp only[evalOpt,Option.map];exact wpAny_bind (wpAny_standAt (z_raiseStmt (I.ok.hd hc) (wpAny_bind (wpAny_mono main (fun v s₃ h₃=>wpAny_bind (wpAny_standAt (wpAny_pure h₃))) fun _ _ x=>x)))))
  | exact wpAny_bind (wpAny_standAt (z_raiseStmt (I.ok.hd hc) main))
end
section
variable {X:Cx}{C D fI e:Addr}{oe:Obj}
theorem z_call_self (hp:(e,oe)∈X.pn)(hc:oe.cls=.ref C):CallR X (.builtin "isinstance") (fun xs H Q=>xs=[.ref e,.ref C]/\Q (.bl true) H):=by
 intro pins s σ H xs us Q I r ⟨ex,q⟩;subst ex;cases r with
 | cons r1 r =>
 cases r with
 | cons r2 r =>
 cases r;cases r1;cases r2;have x:ZE s.heap e C:=⟨oe,(I.pin _ (List.mem_append_left _ hp)).1,hc⟩;refine call_isinstance (S:=fun _ R s=>ZE s.heap e C/\R (.ok (.ret (.bool true))) s) (fun _ _ _ _ _ hs=>isinstance_outer (z_isi_self hs.1 hs.2) (by intro q;cases q)) ⟨x,?_⟩;exact⟨.bl true,H,I,rfl,q⟩
theorem z_call_base (Z:ZK X.K X.mg C D fI)(hp:(e,oe)∈X.pn)(hc:oe.cls=.ref C):CallR X (.builtin "isinstance") (fun xs H Q=>xs=[.ref e,.ty "ValueError"]/\Q (.bl true) H):=by
 intro pins s σ H xs us Q I r ⟨ex,q⟩;subst ex;cases r with
 | cons r1 r =>
 cases r with
 | cons r2 r =>
 cases r;cases r1;cases r2;have x:ZE s.heap e C:=⟨oe,(I.pin _ (List.mem_append_left _ hp)).1,hc⟩;refine call_isinstance (S:=fun _ R s=>(ZE s.heap e C/\ZH s.heap C D fI)/\R (.ok (.ret (.bool true))) s) (fun _ _ _ _ _ hs=>isinstance_outer (z_isi_base hs.1.1 hs.1.2 hs.2) (by intro q;cases q)) ⟨⟨x,Z.zh _ I.kIn⟩,?_⟩;exact⟨.bl true,H,I,rfl,q⟩
end
theorem z_answers {h:Heap}{e C D fI:Addr}(x:ZE h e C)(z:ZH h C D fI):∀ cs:List Value,(∀ c∈cs,∃ B,c=.ref B/\B≠C/\B≠D/\ZB h B)->AnswersAll (fun s=>s.heap=h) (.ref e) cs (cs.map fun _=>false)
 | [],_=>trivial
 | c::cs,hc=>by
  obtain⟨B,rfl,n1,n2,y⟩:=hc c (.head _);refine⟨fun dep tk=>?_,z_answers x z cs fun c hm=>hc c (.tail _ hm)⟩;intro prog w A R s hs;obtain⟨e1,hq⟩:=hs;subst e1;exact z_isi_not x z y n1 n2 (hq _)
theorem z_isi_tup {prog:Program}{w:World}{A:Around}{E:Value->Shared->Prop}{e C D fI tp:Addr}{n:Nat}{cs:List Value}{s:Shared}{Q:Fin->Shared->Prop}(x:ZE s.heap e C)(z:ZH s.heap C D fI)
  (htp:s.heap.get? tp=some { cls:=.type "tuple",data:=.seq cs.toArray n }) (hc:∀ c∈cs,∃ B,c=.ref B/\B≠C/\B≠D/\ZB s.heap B) (hq:∀ tk',Q (.done (.ret (.bool false))) { s with toks:=tk' }) :
  wpAny (model prog w) A (Builtin.«isinstance.nested» ⟨[.ref e,.ref tp,rawInt 0],[]⟩) Q E s:=by
 have ha:=z_answers x z cs hc;obtain⟨oe,he,hcls⟩:=x;obtain⟨h,g,d,t,os⟩:=s;have hne:(Value.ref C==Value.ref tp)=false:=beq_eq_false_iff_ne.mpr fun q=>by
  cases q;obtain⟨_,_,h1,h2,h3⟩:=z.1.cls;rw[htp]at h1;cases h1;cases h3
 have hT2:(⟨h,g,d,t,os⟩:Shared).TypeIs (.ref tp) "tuple":=⟨_,htp,rfl⟩;have f1:=F.isi_sub_tuple;have hv:(cs.map fun _=>false).any id=false:=by simp
 repeat (any_goals (first | assumption | (with_reducible refine wpAny_loadPart_at he ?_;rw[hcls]) | wp_step))
 refine wpAny_arrayLoop ?_;simp only[Option.getD_some,List.toList_toArray];refine isinstance_items (dep:=0) (fun _ tk h=>h) cs _ _ _ ha rfl fun tk'=>?_;rw[hv];simp only[Bool.false_eq_true,if_false]
 repeat (any_goals (first | assumption | wp_step))
 exact hq tk'
section
variable {X:Cx}{C D fI e:Addr}{oe:Obj}
theorem z_call_not (Z:ZK X.K X.mg C D fI)(hp:(e,oe)∈X.pn)(hc:oe.cls=.ref C):CallR X (.builtin "isinstance") (fun xs H Q=>∃ p vs,xs=[.ref e,.ref p]/\H p=some (.tup vs)/\(∀ v∈vs,∃ B,v=.ref B/\B≠C/\B≠D/\∀ h:Heap,X.K.In h->ZB h B)/\Q (.bl false) H):=by
 intro pins s σ H xs us Q I r ⟨p,vs,ex,hh,hv,q⟩;subst ex;obtain⟨_,_,rfl,r1,r2⟩:=vals2 r;cases r1;cases r2;have x:ZE s.heap e C:=⟨oe,(I.pin _ (List.mem_append_left _ hp)).1,hc⟩;obtain⟨_,its,rt,⟨o,ho,hoc,n,hd⟩,hs⟩:=I.hok p _ hh;obtain⟨hs1,hs2⟩:=hs o ho;obtain⟨c,dct,dat,sl⟩:=o;simp only at hoc hd hs1 hs2;subst hoc hd hs1 hs2;have hits:∀ {vs:List V} {its:List Value},Vals vs its->(∀ v∈vs,∃ B,v=.ref B/\B≠C/\B≠D/\∀ h:Heap,X.K.In h->ZB h B)->∀ c∈its,∃ B,c=.ref B/\B≠C/\B≠D/\ZB s.heap B:=by
  intro vs its r;induction r with
  | nil=>intro _ c hc;cases hc
  | cons r1 _ ih =>
   intro hv c hc;rcases List.mem_cons.mp hc with rfl | hc
   ·obtain⟨B,rfl,n1,n2,y⟩:=hv _ (.head _)
    cases r1;exact⟨B,rfl,n1,n2,y _ I.kIn⟩
   ·exact ih (fun v hm=>hv v (.tail _ hm)) c hc
 refine call_isinstance (S:=fun _ R s'=>s'.heap=s.heap/\∀ tk,R (.ok (.ret (.bool false))) { s' with toks:=tk })
  (fun _ _ _ _ s' hs=>isinstance_outer (z_isi_tup (s:=s') (hs.1 ▸ x) (hs.1 ▸ Z.zh _ I.kIn) (hs.1 ▸ ho) (hs.1 ▸ hits rt hv) hs.2) (by intro q;cases q)) ⟨rfl,fun tk=>?_⟩
 exact⟨.bl false,H,I.tok _,rfl,q⟩
end
section
variable {P:Program}{w:World}{K:PySem.W.Frag}{mg:Str->Option Value}{base:Heap}{srt:List D->Option (List D)}{wh:Nat}
theorem env_start {ι:List Addr}{H:Hp}{ds:List D}{vs:List V}{N:List Str}(r:Reps K ι H ds vs):EnvR K ι H (ds.map some++List.replicate (N.length - ds.length) none) (start N vs) where
 len:=by
  unfold L2.start;rw[List.length_append,List.length_append,List.length_map,List.length_map,List.length_replicate,List.length_replicate,r.length]
 val:=fun i d e=>by
  unfold L2.start;by_cases hi:i < ds.length
  ·rw[List.getElem?_append_left (by rw[List.length_map];exact hi),List.getElem?_map]at e
   rw[List.getElem?_append_left (by rw[List.length_map,<- r.length];exact hi),List.getElem?_map];cases q:ds[i]? with
   | none=>rw[q]at e;cases e
   | some d' =>
    rw[q]at e;cases e;obtain⟨v,hv,rv⟩:=r.get q;exact⟨v,by rw[hv];rfl,rv⟩
  ·rw[List.getElem?_append_right (by rw[List.length_map];omega),List.getElem?_replicate]at e
   split at e <;> cases e
noncomputable def spZ (K:PySem.W.Frag)(n:Nat)(z:List D->MH->Option (Int×MH))(C:Addr):Sp:=fun vs H _ E=>vs.length=n/\∃ ι M i M' ds,Sim K ι M H/\Reps K ι H ds vs/\z ds M=some (i,M')/\∀ H' ι' dx,Sim K ι' M' H'->Ext K ι H ι' H'->H' dx=none->E (.ref C) (some dx) (upd H' dx (.xd [("at",.int i)]))
theorem raises_fn {Γ:Ctx}{x:Str}{st:Stmt}{fa C D fI:Addr}{fd fdI:FuncData}{N ps fns gls bls:List Str}{b:ISs}{k kI:Nat}(F:Fun K x x st fa fd)(hS:FnScope N ps (defScope st))(hc:cSs ⟨defScope st,N,fns,gls,bls⟩ 200 (defBody st)=some b)
  (hz:zokSs 200 (defBody st) b=true) (Z:ZK K mg C D fI) (hbI:Binds K fdI ["self","at"] []) (FI:FnOk P w K mg base CX0 kI fI fdI ["self","at"] (spI C)) (hkI:kI + 1<=k) (hE:∀ n,Sound Γ n)
  (hC:∀ (cdv:Value) (A:Around) (outer:List Env) (s:Shared) (H:Hp) (E:XK),Room k (A.deeper (envOfC x (defScope st) s.heap.objs.size fa cdv))->CxOk Γ ⟨defScope st,N,fns,gls,bls⟩ (cxOf (CXz P w) P w K mg base N x (defScope st) fa cdv A outer s H E).nox) :
  FnOk P w K mg base (CXz P w) (k + 1) fa fd ps (spZ K ps.length (fun ds M=>if ds.length=ps.length then rzSs Γ b (ds.map some++List.replicate (N.length - ds.length) none) M else none) C):=by
 obtain⟨oc,od,kV,doc,pm,an,cdv,ct,osl,rfl,lk,hcd⟩:=F.ex;refine fn_of lk hcd hS (fun vs H Q E h=>h.1) fun A outer s H vs Q E hr h=>?_;obtain⟨hl,ι,M,i,M',ds,S,r,e,kk⟩:=h;have C1:=hC cdv A outer s H E hr;dsimp only at e;split at e
 ·refine⟨_,(sound_Z (Ze:=fun i H'=>∀ dx,H' dx=none->E (.ref C) (some dx) (upd H' dx (.xd [("at",.int i)]))) hE (soundS hE) C1 (fun _=>rfl) PassesOwn.leaving (fun ea fa' np cpos pos hg hp ha=>rz_raise (X:=cxOf (CXz P w) P w K mg base N x (defScope st) fa cdv A outer s H E) Z hbI FI (hr.mono hkI) (show Gl _ _ from C1.glo hg) rfl ha hp (fun σ H Q R m ⟨ι,ρ,M,d,M',h1,h2,h3,h4⟩=>⟨ι,ρ,M,d,M',h1,h2,h3,fun v H' ι' r1 r2 r3=>m _ _ (h4 v H' ι' r1 r2 r3)⟩) (fun pins σ H1 s1 e i M z=>?_)) 200).2 _ _ hc hz,?_⟩
  ·obtain⟨t,dx,I',d1,d2,he⟩:=M.ex
   exact rz_leaves I' he (Heap.get?_none_of_le M.y.lo) (by rw[upd_ne (Ne.symm d2)];exact M.no) M.y.fr M.y.pn M.y.cl (z dx d1)
  ·exact⟨ι,_,M,i,M',S,env_start (N:=N) r,e,fun H' ι' S' X' dx hd=>kk H' ι' dx S' X' hd⟩
 ·cases e
end
end L3
namespace L3
open PySem PySem.Spec PyProof.Rows L2
noncomputable abbrev heldX (X:Cx) (e:Addr) (oe:Obj):Cx:={ X with A:=X.A.mark (some (.ref e)),calm:=false,pn:=(e,oe)::X.pn,xe:=fun _ _=>False }
section
variable {X:Cx}{pins:List (Addr×Obj)}{σ:L2.St}{H:Hp}{s:Shared}{e:Addr}{oe:Obj}
theorem inv_held (I:Inv X pins σ H s)(he:s.heap.get? e=some oe)(hH:H e=none)(hl:e≠X.env.locals)(hf:e ∉ X.fs)(hd:∀ v,oe.data≠.cell v):Inv (heldX X e oe) pins σ H s:=by
 have ok:=I.ok;refine⟨⟨ok.mod,ok.kind,ok.glob,ok.blt,ok.above,ok.inj,ok.has,ok.cab,fun z=>(by cases z),ok.frames,ok.stk,ok.exf,ok.bs,ok.bsz,ok.noex,ok.exfs,ok.funs,ok.frf⟩,I.os,I.bare,I.base,I.loc,I.cell,I.free,I.freeC,fun p hp=>?_,I.hok,I.len⟩;rcases List.mem_cons.mp (show p∈(e,oe)::(X.pn++pins) from hp) with rfl | hp
 ·exact⟨he,hH,hl,hf,hd⟩
 ·exact I.pin p hp
theorem inv_unheld (hk:X.Ok)(I:Inv (heldX X e oe) pins σ H s):Inv X pins σ H s :=
 ⟨hk,I.os,I.bare,I.base,I.loc,I.cell,I.free,I.freeC,fun p hp=>I.pin p (show p∈(e,oe)::(X.pn++pins) from .tail _ hp),I.hok,I.len⟩
theorem name_goes {M:Model}{A:Around}{E:Value->Shared->Prop}{i:Nat}{x:Str}{pos:Pos}{Q:Unit->Shared->Prop}(I:Inv X pins σ H s)(hN:X.N.Nodup)(hi:X.N[i]?=some x)(hk:X.env.scope.names.lookup x=some .local)
  (h:∀ s',Inv X pins (σ.set i none) H s'->Q () s'):wpAny M A (do bindName X.env x .none;unbindBehindTheSuite X.env x pos) Q E s:=by
 obtain⟨m,hn,hl⟩:=id I.loc;have hcls:(X.env.scope.kind==.class||(X.env.scope.kind==.module&&X.env.locals != X.env.globals))=false:=by rw[I.ok.kind];rfl
 have hiσ:i < σ.length:=by rw[I.len];exact(List.getElem?_eq_some_iff.mp hi).1
 have cne:=I.cne;refine wpAny_nameGoes_keeps hk hn hcls fun h' v hn' hs=>?_;refine h _ ⟨I.ok,I.os,I.bare,⟨fun b o e n hb hx=>?_,fun b o e n hb hx=>?_,I.base.free,fun b o e hx=>?_,I.base.tups,I.base.frzs,I.base.tbls⟩,⟨_,hn',fun j y v' e1 e2 e3=>?_⟩,fun y c e=>?_,I.free,I.freeC,fun p hp=>?_,fun b ob e=>?_,by simpa using I.len⟩
 ·exact(hs.2 b (Nat.ne_of_lt (Nat.lt_of_lt_of_le (Heap.lt_size e) I.ok.above))).trans (I.base.keep b o e n hb hx)
 ·obtain⟨sl,e1⟩:=I.base.slot b o e n hb hx
  exact⟨sl,(hs.2 b (Nat.ne_of_lt (Nat.lt_of_lt_of_le (Heap.lt_size e) I.ok.above))).trans e1⟩
 ·obtain⟨o',e1⟩:=I.base.there b o e hx
  exact⟨o',(hs.2 b (Nat.ne_of_lt (Nat.lt_of_lt_of_le (Heap.lt_size e) I.ok.above))).trans e1⟩
 ·by_cases hj:j=i
  ·subst hj
   rw[List.getElem?_set_self hiσ]at e2;cases e2
  ·rw[List.getElem?_set_ne (Ne.symm hj)]at e2
   obtain⟨u',r',q⟩:=hl j y v' e1 e2 e3;refine⟨u',r',?_⟩;rcases q with ⟨k,e⟩|⟨k,c,e,z⟩
   ·refine .inl ⟨k,?_⟩
    have:y≠x:=fun e=>hj (nodup_ix hN e1 (e ▸ hi))
    simp[this,e]
   ·exact .inr ⟨k,c,e,z.sameBut hs (cne y c e)⟩
 ·obtain⟨w',z⟩:=I.cell y c e
  exact⟨w',z.sameBut hs (cne y c e)⟩
 ·obtain⟨e,n,ne,nf,d⟩:=I.pin p hp
  exact⟨(hs.2 p.1 ne).trans e,n,ne,nf,d⟩
 ·refine(I.hok b ob e).stay (fun c w' hc q=>(hs.2 c ?_).trans q) (fun _ q=>q) fun _ _ q=>q
  rintro rfl;rcases hc with rfl | hc
  ·rw[I.free]at e;cases e
  ·rw[I.free]at hc;cases hc
end
noncomputable def rfN:List Str:=["_law_way","_law_text","_law_at","_law_right_here","e"]
noncomputable def rfCall (f:Str)(a b c d:Pos):Stmt:=.Expr (.Call (.Name f a) [.Name "_law_text" b] [] c) d
noncomputable def rfIf (p:Nat->Pos):Stmt:=.If (.Compare (.Name "_law_way" (p 0)) [.Eq] [.Constant (.int 0) 0 (p 1)] (p 2)) [rfCall "read_marks" (p 3) (p 4) (p 5) (p 6)] [rfCall "read_askings" (p 7) (p 8) (p 9) (p 10)] (p 11)
noncomputable def rfSuite (p:Nat->Pos):List Stmt:=[
 .Assign [.Name "_law_right_here" (p 12)] (.BoolOp .And [.Call (.Name "isinstance" (p 13)) [.Name "e" (p 14),.Name "BadWord" (p 15)] [] (p 16),.Call (.Name "isinstance" (p 17)) [.Name "e" (p 18),.Name "ValueError" (p 19)] [] (p 20)] (p 21)) (p 22),
 .If (.Call (.Name "isinstance" (p 23)) [.Name "e" (p 24),.Tuple [.Name "BadLine" (p 25),.Name "BadTree" (p 26),.Name "Late" (p 27),.Name "NoPlace" (p 28),.Name "NoStretch" (p 29),.Name "Twice" (p 30),.Name "Unknown" (p 31)] 0 (p 32)] [] (p 33))
  [.Assign [.Name "_law_right_here" (p 34)] (.Constant (.bool false) 0 (p 35)) (p 36)] [] (p 37),
 .If (.BoolOp .And [.Name "_law_right_here" (p 38),.Compare (.Call (.Name "repr" (p 39)) [.Attribute (.Name "e" (p 40)) "at" (p 41)] [] (p 42)) [.NotEq] [.Call (.Name "repr" (p 43)) [.Name "_law_at" (p 44)] [] (p 45)] (p 46)] (p 47))
  [.Assign [.Name "_law_right_here" (p 48)] (.Constant (.bool false) 0 (p 49)) (p 50)] [] (p 51)]
noncomputable def rfTry (p:Nat->Pos):Stmt:=.Try [rfIf p] [.ExceptHandler (some (.Name "HouseError" (p 52))) (some "e") (rfSuite p) (p 53)] [] [] (p 54)
noncomputable def rfBody (p:Nat->Pos):List Stmt:=[.Assign [.Name "_law_right_here" (p 55)] (.Constant (.bool false) 0 (p 56)) (p 57),rfTry p,.Return (some (.Name "_law_right_here" (p 58))) (p 59)]
noncomputable def rfGlo:List Str:=["read_marks","read_askings","HouseError","isinstance","repr","BadWord","ValueError","BadLine","BadTree","Late","NoPlace","NoStretch","Twice","Unknown"]
structure RfSc (sc:Scope):Prop where
 loc:∀ x∈rfN,sc.names.lookup x=some .local
 glo:∀ x∈rfGlo,sc.names.lookup x=some .globalImplicit
section
variable {X:Cx}{C D fI e:Addr}{oe:Obj}{p:Nat->Pos}
theorem pe_at {dx:Addr}{pe pos:Pos}(Z:ZK X.K X.mg C D fI)(hp:(e,oe)∈X.pn)(hc:oe.cls=.ref C)(hdx:oe.dict=some dx)(hnc:∀ c,oe.data≠.cls c)(ve:PE X (.Name "e" pe) (tVar 4)) :
  PE X (.Attribute (.Name "e" pe) "at" pos) (fun σ H Q=>σ[4]?=some (some (.ref e))/\∃ i,H dx=some (.xd [("at",.int i)])/\Q (.int i) H):=by
 intro pins s σ H Q I h;obtain⟨h4,i,hx,q⟩:=h;refine attr_of rfl (thn (ve pins s σ H (fun y H1=>y=.ref e/\H1=H) I ⟨_,h4,rfl,rfl⟩) fun u s1 ⟨y,H1,I1,ry,e1,e2⟩=>?_);subst e1 e2;cases ry;obtain⟨mA,u,n1,n2,ru⟩:=xd_get (I1.hok dx _ hx);obtain⟨tk,rfl⟩:=ru;have he:=(I1.pin _ (List.mem_append_left _ hp)).1;obtain⟨hh,g,d,tt,os⟩:=s1;exact z_at_attr (Z.zh _ I1.kIn) he hc hdx hnc n1 n2 rfl ⟨.int i,_,I1.tok _,⟨_,rfl⟩,q⟩
theorem rf_suite {dx:Addr}(Z:ZK X.K X.mg C D fI)(hp:(e,oe)∈X.pn)(hc:oe.cls=.ref C)(hdx:oe.dict=some dx)(hnc:∀ c,oe.data≠.cls c)(hN:X.N=rfN)(sc:RfSc X.env.scope)(hi:X.mg "isinstance" = none)(hv:X.mg "ValueError" = none)(hre:X.mg "repr" = none) :
  PSs X (rfSuite p) (fun D' σ H=>σ[4]?=some (some (.ref e))/\∃ i:Int,σ[2]?=some (some (.int i))/\i.natAbs < 2 ^ 64/\H dx=some (.xd [("at",.int i)])/\3 < σ.length/\∀ q:Addr,∀ vs,H q=none->D'.nx (σ.set 3 (some (.bl true))) (upd H q (.tup vs))):=by
 have nd:X.N.Nodup:=by rw[hN];decide
 have g:∀ x∈rfGlo,Gl X x:=fun x hx=>sc.glo x hx;have ve:∀ {pos:Pos},PE X (.Name "e" pos) (tVar 4):=pe_var (by rw[hN];rfl) (.inl (sc.loc _ (by decide)));have n0:Gl X "isinstance":=g _ (by decide);have n1:Gl X "repr":=g _ (by decide);obtain⟨B1,b1,c1,d1,z1⟩:=Z.ot "BadLine" (by decide);obtain⟨B2,b2,c2,d2,z2⟩:=Z.ot "BadTree" (by decide);obtain⟨B3,b3,c3,d3,z3⟩:=Z.ot "Late" (by decide);obtain⟨B4,b4,c4,d4,z4⟩:=Z.ot "NoPlace" (by decide);obtain⟨B5,b5,c5,d5,z5⟩:=Z.ot "NoStretch" (by decide);obtain⟨B6,b6,c6,d6,z6⟩:=Z.ot "Twice" (by decide);obtain⟨B7,b7,c7,d7,z7⟩:=Z.ot "Unknown" (by decide);have gl:∀ {x:Str} {B:Addr} {pos:Pos},x∈rfGlo->X.mg x=some (.ref B)->(x==("__debug__" : Str))=false->PE X (.Name x pos) (tC (.ref B)):=fun hx hm hd=>pe_glob (g _ hx) hm rfl hd;have rst:∀ {a b c:Pos},PS X (.Assign [.Name "_law_right_here" a] (.Constant (.bool false) 0 b) c) _:=fun {a b c}=>ps_set (pos:=c) (pos':=a) (X:=X) nd (i:=3) (x:="_law_right_here") (by rw[hN];rfl) (.inl (sc.loc _ (by decide))) (pe_bl (b:=false) (j:=0) (pos:=b)) (by rfl) (.inr (sc.loc _ (by decide)));have s1:=ps_set (pos:=p 22) (pos':=p 12) (X:=X) nd (i:=3) (x:="_law_right_here") (by rw[hN];rfl) (.inl (sc.loc _ (by decide)))
  (pe_and (pos:=p 21) (pe_callB (p:=p 13) (pos:=p 16) (z_call_self hp hc) n0 hi PyProof.Rows.boot_isinstance (pa_cons (ve (pos:=p 14)) (pa_cons (gl (pos:=p 15) (by decide) Z.np (by decide)) pa_nil)))
   (pe_one (pe_callB (p:=p 17) (pos:=p 20) (z_call_base Z hp hc) n0 hi PyProof.Rows.boot_isinstance (pa_cons (ve (pos:=p 18)) (pa_cons (pe_bltn (pos:=p 19) (v:=.ty "ValueError") (u:=.type "ValueError") (g _ (by decide)) hv (by first | rfl | decide +kernel) rfl) pa_nil)))))
  (by rfl) (.inr (sc.loc _ (by decide)))
 have s2:=ps_if (pos:=p 37) (X:=X) (pt_val (pe_callB (p:=p 23) (pos:=p 33) (z_call_not Z hp hc) n0 hi PyProof.Rows.boot_isinstance (pa_cons (ve (pos:=p 24)) (pa_cons (pe_tup (x1:=0) (pos:=p 32)
   (pa_cons (gl (pos:=p 25) (by decide) b1 (by decide)) (pa_cons (gl (pos:=p 26) (by decide) b2 (by decide)) (pa_cons (gl (pos:=p 27) (by decide) b3 (by decide)) (pa_cons (gl (pos:=p 28) (by decide) b4 (by decide))
   (pa_cons (gl (pos:=p 29) (by decide) b5 (by decide)) (pa_cons (gl (pos:=p 30) (by decide) b6 (by decide)) (pa_cons (gl (pos:=p 31) (by decide) b7 (by decide)) pa_nil)))))))) pa_nil))))
  (pss_cons (rst (a:=p 34) (b:=p 35) (c:=p 36)) pss_nil) pss_nil
 have vr:PE X (.Name "_law_right_here" (p 38)) (tVar 3):=pe_var (by rw[hN];rfl) (.inl (sc.loc _ (by decide)));have va:PE X (.Name "_law_at" (p 44)) (tVar 2):=pe_var (by rw[hN];rfl) (.inl (sc.loc _ (by decide)));have r1:=pe_callB (p:=p 39) (pos:=p 42) call_reprI n1 hre PyProof.Rows.boot_repr (pa_cons (pe_at (pos:=p 41) Z hp hc hdx hnc (ve (pos:=p 40))) pa_nil);have r2:=pe_callB (p:=p 43) (pos:=p 45) call_reprI n1 hre PyProof.Rows.boot_repr (pa_cons va pa_nil);have s3:=ps_if (pos:=p 51) (X:=X) (PW.pt (pw_and (pos:=p 47) (pt_val vr) (pw_and1 (pt_cmpR (pos:=p 46) op_ne r1 r2 rfl)))) (pss_cons (rst (a:=p 48) (b:=p 49) (c:=p 50)) pss_nil) pss_nil;refine PSs.imp (pss_cons s1 (pss_cons s2 (pss_cons s3 pss_nil))) fun D' σ H h=>?_;obtain⟨h4,i,h2,hb,hx,hl,k⟩:=h;have l4:∀ v,(σ.set 3 v)[4]?=some (some (.ref e)):=fun v=>by rw[List.getElem?_set_ne (by decide)];exact h4
 refine⟨_,h4,rfl,?_⟩;refine⟨true,rfl,?_⟩;rw[if_pos rfl];refine⟨_,h4,rfl,?_⟩;refine⟨_,l4 _,?_⟩;refine⟨by show 7<=sizeLine;decide,fun q hq=>?_⟩;refine⟨q,_,rfl,upd_same,?_,false,rfl,?_⟩
 ·intro v hm
  simp only[List.mem_cons,List.not_mem_nil,or_false]at hm;rcases hm with rfl | rfl | rfl | rfl | rfl | rfl | rfl
  ·exact⟨_,rfl,c1,d1,z1⟩
  ·exact⟨_,rfl,c2,d2,z2⟩
  ·exact⟨_,rfl,c3,d3,z3⟩
  ·exact⟨_,rfl,c4,d4,z4⟩
  ·exact⟨_,rfl,c5,d5,z5⟩
  ·exact⟨_,rfl,c6,d6,z6⟩
  ·exact⟨_,rfl,c7,d7,z7⟩
 ·dsimp only
  rw[if_neg (by decide)];refine⟨_,List.getElem?_set_self hl,true,rfl,?_⟩;dsimp only;rw[if_pos rfl];have hqx:dx≠q:=fun z=>by rw[<- z,hx]at hq;cases hq
  refine⟨l4 _,i,by rw[upd_ne hqx];exact hx,i,rfl,hb,?_⟩;refine⟨_,by rw[List.getElem?_set_ne (by decide)];exact h2,i,rfl,hb,?_⟩;refine⟨rfl,false,by simp,?_⟩;dsimp only;rw[if_neg (by decide)];exact k q _ hq
end
end L3
namespace L3
open PySem PySem.Spec PyProof.Rows L2
noncomputable def RaisesR (P:Program)(w:World)(K:PySem.W.Frag)(mg:Str->Option Value)(base:Heap)(C:Addr)(k:Nat)(z:Str->List L3.D->MH->Option (Int×MH))(f:Str):Prop:=∃ (ra:Addr) (rd:FuncData) (rps:List Str),mg f=some (.ref ra)/\PySem.W.keepIn K (.ref ra)=true/\Binds K rd rps []/\rps.length=1 /\
 FnOk P w K mg base (CXz P w) k ra rd rps (spZ K 1 (z f) C)/\∀ ds M i M',z f ds M=some (i,M')->ds.length=1
noncomputable def rfF (n:Int):Str:=if n=0 then "read_marks" else "read_askings"
section
variable {X:Cx}{C D fI:Addr}{p:Nat->Pos}{k:Nat}{z:Str->List L3.D->MH->Option (Int×MH)}
theorem rf_try (Z:ZK X.K X.mg C D fI)(hN:X.N=rfN)(sc:RfSc X.env.scope)(hi:X.mg "isinstance" = none)(hv:X.mg "ValueError" = none)(hre:X.mg "repr" = none)(hex:X.ex=[])(hst:X.stack=X.env::X.outer)(hfm:X.env.frame=some X.env.locals)
  (hR:∀ n,RaisesR X.prog X.w X.K X.mg X.base C k z (rfF n)) (hr:Room k X.A) :
  PS X (rfTry p) (fun D' σ H=>∃ ι M M' n i td v1 b,σ=[some (.int n),some v1,some (.int i),some b,none]/\Sim X.K ι M H/\Reps X.K ι H [td] [v1]/\z (rfF n) [td] M=some (i,M')/\i.natAbs < 2 ^ 64/\∀ H' ι',Sim X.K ι' M' H'->Ext X.K ι H ι' H'->D'.nx [some (.int n),some v1,some (.int i),some (.bl true),none] H'):=by
 intro pins s σ H D' I h;obtain⟨ι,M,M',n,i,td,v1,b0,rfl,S,R,ez,hib,kk⟩:=h;refine wpAny_Try_except ?_;generalize hE1:(fun (e:Value) (s₁:Shared)=>wpAny (model X.prog X.w) X.A (noteFrame e X.env) (fun _ s₂=>wpAny (model X.prog X.w) X.A (setFlight e none) (fun _ s₃=>wpAny (model X.prog X.w) X.A (handleBy e X.env [.ExceptHandler (some (.Name "HouseError" (p 52))) (some "e") (rfSuite p) (p 53)]) (SP X pins D') X.xe s₃) X.xe s₂) X.xe s₁)=E1;have Iw:=I.wish E1;have nv:∀ {i:Nat} {x:Str} {pos:Pos},X.N[i]?=some x->x∈rfN->(x==("__debug__" : Str))=false->(x==("__classdict__" : Str))=false->PE (X.wish E1) (.Name x pos) (tVar i):=fun h1 h2 h3 h4=>pe_var h1 (.inl (sc.loc _ h2)) h3 h4;have call:∀ (f:Str) (pa pb pc pd:Pos),f∈rfGlo->f=rfF n->(f==("__debug__" : Str))=false->∀ s0,Inv X pins [some (.int n),some v1,some (.int i),some b0,none] H s0->wpAny (model X.prog X.w) X.A (execs [rfCall f pa pb pc pd] X.env) (fun _ _=>False) E1 s0:=by
  intro f pa pb pc pd hfg hfn hfd s0 I0;obtain⟨ra,rd,rps,hrm,hrk,hrb,hrl,hF,_⟩:=hR n;rw[<- hfn]at hrm hF ez;have ha:PA (X.wish E1) [.Name "_law_text" pb] (tCons (tVar 1) tNil):=pa_cons (nv (by rw[hN];rfl) (by decide) (by decide) (by decide)) pa_nil;refine wpAny_execs_cons (thn (Q:=fun _ _=>False) (wpAny_Expr_any ?_ I0.quiet (by rfl)) fun _ _ z=>z.elim);refine wpAny_Call_Name_kw (ld_glob I0 (sc.glo _ hfg) hrm ?_ hfd);refine PySem.W.callWith_K (h₀:=X.base) I0.ok.mod.kin hrk (thn (ha pc pins s0 _ H (fun vs H1=>vs=[v1]/\H1=H) (I0.wish E1) ⟨v1,rfl,rfl,rfl⟩) fun us s1 ⟨vs,H1,I1,r,q⟩=>⟨I1.kIn,?_⟩) (by rfl) (by rfl);obtain⟨rfl,rfl⟩:=q;replace I1:Inv X pins _ H1 s1:=I1.unwish;have hl:(us++[]).length=rps.length:=by rw[List.append_nil,<- r.length,hrl];rfl
  refine wpAny_call (codeAny_mono (hF.run X.A X.stack s1 H1 ⟨us,[]⟩ us [v1] (fun _ _=>False) (fun cls dd H'=>cls=.ref C/\∃ dx H2 ι',dd=some dx/\H2 dx=none/\H'=upd H2 dx (.xd [("at",.int i)])/\Sim X.K ι' M' H2/\Ext X.K ι H1 ι' H2) hr I1.env0 (by have:=hrb s1 us I1.kIn hl;rwa [List.append_nil]at this) r
   ⟨rfl,ι,M,i,M',[td],S,R,ez,fun H' ι' dx S' X' hd=>⟨rfl,dx,H',ι',rfl,hd,rfl,S',X'⟩⟩) fun r s' hq=>?_)
  cases r with
  | ok fl =>
   cases fl with
   | ret u=>obtain⟨_,_,_,_,_,_,_,q⟩:=hq;exact q
   | next=>exact False.elim hq
   | brk=>exact False.elim hq
   | cont=>exact False.elim hq
  | error x =>
   obtain⟨e,T,C',dd,H',rfl,os,bare,un,hok,fly,e0,T0,eH,TH,ec,dx,H2,ι',edd,hdx,eH2,S2',X2'⟩:=hq;cases ec;subst edd;have S':Sim X.K ι' M' H':=by rw[eH2];exact S2'.tupN hdx
   have X':Ext X.K ι H1 ι' H':=by rw[eH2];exact X2'.trans (Ext.tupN hdx)
   have hxd:H' dx=some (.xd [("at",.int i)]):=by rw[eH2];exact upd_same
   clear eH2;subst hE1;show wpAny (model X.prog X.w) X.A (noteFrame (.ref e) X.env) _ _ s';have I2:Inv X pins _ H' s':=I1.call' (ch:=[]) os un hok bare (fun b z=>absurd z (by simp));have new:∀ b,s1.heap.get? b=none->X.s₀.heap.get? b=none/\b≠X.env.locals/\(∀ x c,X.env.cells.lookup x=some c->c≠b)/\(∀ q∈X.pn++pins,q.1≠b)/\b ∉ X.fs:=fun b hb=>by
    have h0:X.s₀.heap.get? b=none:=by
     cases q:X.s₀.heap.get? b with
     | none=>rfl
     | some o =>
      obtain⟨o',e'⟩:=I1.base.there b o q (by rw[hex];exact fun z=>nomatch z);rw[hb]at e';cases e'
    refine⟨h0,?_,?_,?_,?_⟩
    ·rintro rfl
     obtain⟨m,⟨o,_,_,ho,_⟩,_⟩:=I1.loc;rw[hb]at ho;cases ho
    ·rintro x c hx rfl
     obtain⟨v,o,ho,_⟩:=I1.cell x c hx;rw[hb]at ho;cases ho
    ·rintro q hq rfl
     rw[(I1.pin q hq).1]at hb;cases hb
    ·intro z
     obtain⟨_,o,ho,_⟩:=I1.ok.funs.mem z;rw[h0]at ho;cases ho
   have fr:X.A.frames=some (X.env::X.outer):=hst ▸ I2.ok.frames;have fl:s'.heap.FunFrames X.base (X.env::X.outer):=hst ▸ I2.stack;refine looks_on (base:=X.base) fr fl hfm fly fun h3 T' fly3 hT' mv3=>?_;have hT0:s'.heap.get? T'=none:=Heap.get?_none_of_le hT';have I3:=inv_noted (t':=s'.toks) (ch:=[e,T]) I2 (fun b hb=>by
    simp only[List.mem_cons,List.not_mem_nil,or_false]at hb;rcases hb with rfl | rfl
    ·exact⟨(new _ e0).1,(new _ e0).2.1,(new _ e0).2.2.1,(new _ e0).2.2.2.1,eH⟩
    ·exact⟨(new _ T0).1,(new _ T0).2.1,(new _ T0).2.2.1,(new _ T0).2.2.2.1,TH⟩) (hst ▸ mv3)
   have new':∀ b,s'.heap.get? b=none->X.s₀.heap.get? b=none/\b≠X.env.locals/\(∀ x c,X.env.cells.lookup x=some c->c≠b)/\(∀ q∈X.pn++pins,q.1≠b)/\H' b=none:=fun b hb=>by
    refine⟨?_,?_,?_,?_,?_⟩
    ·cases q:X.s₀.heap.get? b with
     | none=>rfl
     | some o =>
      obtain⟨o',e'⟩:=I2.base.there b o q (by rw[hex];exact fun z=>nomatch z);rw[hb]at e';cases e'
    ·rintro rfl
     obtain⟨m,⟨o,_,_,ho,_⟩,_⟩:=I2.loc;rw[hb]at ho;cases ho
    ·rintro x c hx rfl
     obtain⟨v,o,ho,_⟩:=I2.cell x c hx;rw[hb]at ho;cases ho
    ·rintro q hq rfl
     rw[(I2.pin q hq).1]at hb;cases hb
    ·cases q:H' b with
     | none=>rfl
     | some u =>
      obtain⟨o,ho⟩:=obj_there (I2.hok b u q);rw[hb]at ho;cases ho
   refine wpAny_handleBy_cons (codeAny_handlers_test ?_) (by intro q;cases q);obtain⟨oe,vs,oT,ts,he,hcls,hdd,hd,h1,hTe,hT,hdT,h3'⟩:=id fly3;have nc:∀ v,oe.data≠.cell v:=fun v q=>by rw[hd]at q;cases q
   have I4:Inv (heldX X e oe) pins _ H' { s' with heap:=h3 }:=inv_held I3 he eH (new _ e0).2.1 (new _ e0).2.2.2.2 nc;refine ld_glob (X:=heldX X e oe) I4 (sc.glo _ (by decide)) Z.he ?_;refine z_match ⟨oe,he,hcls⟩ (Z.zh _ I3.kIn) ?_;rw[if_pos rfl];refine codeAny_handlers_suite_as (lands fly3 fun h4 fly4 keep=>?_);have T4:∃ o,h4.get? T'=some o:=let ⟨_,_,oT,_,_,_,_,_,_,_,q,_⟩:=fly4;⟨oT,q⟩;have he4:h4.get? e=some oe:=keep e oe (Ne.symm hTe) he;have I5:=inv_noted (h':=h4) (t':=s'.toks) (ch:=[T']) I3 (fun b hb=>by
    simp only[List.mem_cons,List.not_mem_nil,or_false]at hb;subst hb;exact new' _ hT0) ⟨fun b o _ hb q=>keep b o (by simpa using hb) q,fun b o hb q=>⟨o.slots,keep b o (by simpa using hb) q⟩,fun b o q=>by
     by_cases hb:b=T'
     ·subst hb;exact T4
     ·exact⟨o,keep b o hb q⟩⟩
   have I6:Inv (heldX X e oe) pins _ H' { s' with heap:=h4 }:=inv_held I5 he4 eH (new _ e0).2.1 (new _ e0).2.2.2.2 nc;have nd:(heldX X e oe).N.Nodup:=by show X.N.Nodup;rw[hN];decide
   refine store_ok (X:=heldX X e oe) (v:=.ref e) (i:=4) (x:="e") I6 nd (by show X.N[4]?=_;rw[hN];rfl) (.inl (sc.loc _ (by decide))) rfl (fun s5 I7=>?_) (.inr (sc.loc _ (by decide)));have su:=rf_suite (X:=heldX X e oe) (p:=p) (e:=e) (oe:=oe) Z (.head _) hcls hdd (fun c q=>by rw[hd]at q;cases q) hN sc hi hv hre pins s5 _ H' { nx:=fun σ6 H6=>σ6=[some (.int n),some v1,some (.int i),some (.bl true),some (.ref e)]/\∃ ι6,Sim X.K ι6 M' H6/\Ext X.K ι H1 ι6 H6,rt:=fun _ _=>False } I7
    ⟨rfl,i,rfl,hib,hxd,by show 3 < 5;decide,fun q vs hq=>⟨rfl,ι',S'.tupN hq,X'.trans (Ext.tupN hq)⟩⟩
   refine wpAny_mono su (fun f s6 q=>?_) fun _ _ z=>False.elim z;cases f with
   | next =>
    obtain⟨σ6,H6,I8,rfl,ι6,S6,X6⟩:=q;have I9:=inv_unheld I.ok I8;exact name_goes (i:=4) (x:="e") I9 (by rw[hN];decide) (by rw[hN];rfl) (sc.loc _ (by decide)) fun s7 I10=>⟨_,H6,I10,kk H6 ι6 S6 X6⟩
   | ret u=>obtain⟨_,_,_,_,_,q⟩:=q;exact q.elim
   | brk=>obtain⟨_,_,_,q⟩:=q;exact q.elim
   | cont=>obtain⟨_,_,_,q⟩:=q;exact q.elim
 have body:wpAny (model X.prog X.w) X.A (execs [rfIf p] X.env) (fun _ _=>False) E1 s:=by
  have pt:PT (X.wish E1) (.Compare (.Name "_law_way" (p 0)) [.Eq] [.Constant (.int 0) 0 (p 1)] (p 2)) _:=pt_cmpR op_eq (nv (i:=0) (pos:=p 0) (by rw[hN];rfl) (by decide) (by decide) (by decide)) (pe_int (i:=0) (j:=0) (pos:=p 1)) rfl;refine wpAny_execs_cons (thn (Q:=fun _ _=>False) (wpAny_If (thn (pt pins s _ H (fun d H1=>d=(n==0)/\H1=H) Iw ⟨_,rfl,rfl,_,rfl,dec_int,rfl⟩) fun d s1 ⟨H1,I1,q1,q2⟩=>?_)) fun _ _ z=>z.elim);subst q1 q2;replace I1:Inv X pins _ H1 s1:=I1.unwish;by_cases hn:n=0
  ·rw[show (n==0)=true from beq_iff_eq.mpr hn]
   exact call _ _ _ _ _ (by decide) (by unfold rfF;rw[if_pos hn]) (by decide) s1 I1
  ·rw[show (n==0)=false from beq_eq_false_iff_ne.mpr hn]
   exact call _ _ _ _ _ (by decide) (by unfold rfF;rw[if_neg hn]) (by decide) s1 I1
 exact wpAny_mono body (fun _ _ z=>z.elim) fun _ _ z=>by subst hE1;exact z
theorem rf_body (Z:ZK X.K X.mg C D fI)(hN:X.N=rfN)(sc:RfSc X.env.scope)(hi:X.mg "isinstance" = none)(hv:X.mg "ValueError" = none)(hre:X.mg "repr" = none)(hex:X.ex=[])(hst:X.stack=X.env::X.outer)(hfm:X.env.frame=some X.env.locals)
  (hR:∀ n,RaisesR X.prog X.w X.K X.mg X.base C k z (rfF n)) (hr:Room k X.A) :
  PSs X (rfBody p) (fun D' σ H=>∃ ι M M' n i td v1,σ=[some (.int n),some v1,some (.int i),none,none]/\Sim X.K ι M H/\Reps X.K ι H [td] [v1]/\z (rfF n) [td] M=some (i,M')/\i.natAbs < 2 ^ 64/\∀ H' ι',Sim X.K ι' M' H'->Ext X.K ι H ι' H'->D'.rt (.bl true) H'):=by
 have nd:X.N.Nodup:=by rw[hN];decide
 refine PSs.imp (pss_cons (ps_set (i:=3) (x:="_law_right_here") nd (by rw[hN];rfl) (.inl (sc.loc _ (by decide))) (pe_bl (b:=false) (j:=0) (pos:=p 56)) (by rfl) (.inr (sc.loc _ (by decide))))
   (pss_cons (rf_try (p:=p) Z hN sc hi hv hre hex hst hfm hR hr) (pss_cons (ps_ret (pe_var (i:=3) (x:="_law_right_here") (pos:=p 58) (by rw[hN];rfl) (.inl (sc.loc _ (by decide))))) pss_nil))) fun D' σ H h=>?_
 obtain⟨ι,M,M',n,i,td,v1,rfl,S,R,ez,hib,kk⟩:=h;exact⟨ι,M,M',n,i,td,v1,_,rfl,S,R,ez,hib,fun H' ι' S' X'=>⟨.bl true,rfl,kk H' ι' S' X'⟩⟩
end
noncomputable def rfPs:List Str:=["_law_way","_law_text","_law_at"]
section
variable {P:Program}{w:World}{K:PySem.W.Frag}{mg:Str->Option Value}{base:Heap}{C D fI fa:Addr}{fd:FuncData}{p:Nat->Pos}{k:Nat}{z:Str->List L3.D->MH->Option (Int×MH)}{st:Stmt}{x:Str}
theorem refused_fn (F:Fun K x x st fa fd)(hS:FnScope rfN rfPs (defScope st))(hb:defBody st=rfBody p)(sc:RfSc (defScope st))(Z:ZK K mg C D fI)(hi:mg "isinstance" = none)(hv:mg "ValueError" = none)(hre:mg "repr" = none)
  (hR:∀ n,RaisesR P w K mg base C k z (rfF n)) :
  FnOk P w K mg base CX0 (k + 1) fa fd rfPs (spOf K 3 (fun ds M=>match rf2 z ds M with
   | some M'=>some (.ok (.bl true),M')
   | none=>none)):=by
 refine F.ok hS (fun vs H Q E h=>h.1) (fun cdv A outer s H vs Q E hr h=>?_);obtain⟨hl,ι,M,M',ds,d,S,R,ez,kk⟩:=h;dsimp only at ez;split at ez
 ·rename_i M1 ez1
  cases ez;rw[hb];unfold rf2 at ez1;split at ez1
  ·rename_i n td j
   split at ez1
   ·rename_i i M2 ez2
    split at ez1
    ·rename_i hij
     cases ez1;obtain⟨hij,hib⟩:=hij;subst hij;cases R with
     | cons q0 R =>
     cases R with
     | cons q1 R =>
     cases R with
     | cons q2 R =>
     cases R;cases q0;cases q2;exact⟨_,rf_body (X:=(cxOf CX0 P w K mg base rfN x (defScope st) fa cdv A outer s H E).nox) Z rfl sc hi hv hre rfl rfl rfl hR hr,ι,M,_,n,i,td,_,rfl,S,.cons q1 .nil,ez2,hib,fun H' ι' S' X'=>kk _ H' ι' (.bl true) S' X'⟩
    ·cases ez1
   ·cases ez1
  ·cases ez1
 ·cases ez
end
end L3
namespace L3
open PySem PySem.Spec PyProof.Rows L2
noncomputable def otherOk (h:Heap)(x:Str):Bool:=match h.clsAt mainGlobals x with
 | some (B,o,_)=>decide (o.cls=.type "type")&&!decide (h.nsMap mainGlobals "BadWord" = some (.ref B))&&!decide (h.nsMap mainGlobals "HouseError" = some (.ref B))
 | none=>false
noncomputable def stillOk (h:Heap)(name:Str)(ns:List Str):Bool:=match h.clsAt mainGlobals name with
 | some (_,_,cd)=>ns.all fun n=>(h.nsMap cd.ns n).isNone
 | none=>false
noncomputable def bwOk (h:Heap):Bool:=match h.clsAt mainGlobals "BadWord" with
 | some (C,o,cd)=>decide (o.cls=.type "type")&&decide (cd.mro=.ref C::(h.nsMap mainGlobals "HouseError").getD .none::bmV)&&!cd.hasDel&&decide (o.slots.size=6)&&decide (o.slots[4]?=some (some (.builtin "ValueError.__new__")))&&h.isNs cd.ns&&cd.hasDict&&(stillC.all fun n=>(h.nsMap cd.ns n).isNone) &&
  (match h.fnAt cd.ns "__init__" with
   | some (_,o,_)=>decide (o.cls=.type "function")
   | none=>false)
 | none=>false
noncomputable def iniSh (h:Heap):Option FnShape:=match h.clsAt mainGlobals "BadWord" with
 | some (_,_,cd)=>h.shapeAt cd.ns "__init__"
 | none=>none
noncomputable def zObs (s:Shared):Bool×Option FnShape:=(bwOk s.heap&&s.heap.ownExcOk "HouseError" [] bmV "ValueError.__new__"&&stillOk s.heap "HouseError" stillD&&zOthers.all (otherOk s.heap),iniSh s.heap)
noncomputable def zVal (st:Stmt)(_:World):Bool×Option FnShape:=(true,some ⟨"__init__","BadWord.__init__",defArgs st,.stmts (defBody st),defScope st,mainGlobals,[],.none,.none,none,.none,builtinsNs,true⟩)
noncomputable def ZAt (st:Stmt)(_:World)(h:Heap):Prop:=∃ C D fI,h.nsMap mainGlobals "BadWord" = some (.ref C)/\h.nsMap mainGlobals "HouseError" = some (.ref D)/\ZH h C D fI/\(∀ x∈zOthers,∃ B,h.nsMap mainGlobals x=some (.ref B)/\B≠C/\B≠D/\ZB h B) /\
 ∃ oc od osl doc pm cdv,h.get? fI=some ⟨oc,od,.func (PySem.W.fnOf "__init__" "BadWord.__init__" (defArgs st) (defBody st) (defScope st) .none .none doc pm none cdv .none),osl⟩/\h.CodeRec cdv "BadWord.__init__"
theorem zd_of {h:Heap}{name:Str}{ns:List Str}(x:h.ownExcOk name [] bmV "ValueError.__new__" = true)(y:stillOk h name ns=true):∃ D b,h.nsMap mainGlobals name=some (.ref D)/\ZC h D bmV ns b none:=by
 obtain⟨C,N,nm,q,bs,hdct,sn,sub,ab,col,dd,k0,k1,k2,k3,k5,hb,hC,hN,hi⟩:=Heap.ownExc_of_ok x;refine⟨C,hdct,hb,N,nm,q,bs,sn,sub,ab,col,dd,k0,k1,k2,k3,k5,_,hC,hN,fun n hn=>?_,hi⟩;unfold stillOk at y;cases hf:h.clsAt mainGlobals name with
 | none=>rw[hf]at y;cases y
 | some z =>
  obtain⟨C',o',cd'⟩:=z;rw[hf]at y;obtain⟨hn',ho',hd'⟩:=Heap.clsAt_spec hf;rw[hb]at hn';obtain rfl:C=C':=by injection hn' with q1;injection q1
  rw[hC]at ho';obtain rfl:=Option.some.inj ho';obtain rfl:_=cd':=by injection hd'
  exact Option.isNone_iff_eq_none.mp (List.all_eq_true.mp y n hn)
theorem bw_of {h:Heap}{D:Addr}{st:Stmt}(x:bwOk h=true)(hD:h.nsMap mainGlobals "HouseError" = some (.ref D))(y:iniSh h=some ⟨"__init__","BadWord.__init__",defArgs st,.stmts (defBody st),defScope st,mainGlobals,[],.none,.none,none,.none,builtinsNs,true⟩) :
  ∃ C fI,h.nsMap mainGlobals "BadWord" = some (.ref C)/\ZC h C (.ref D::bmV) stillC true (some (.ref fI)) /\
   ∃ od osl doc pm cdv,h.get? fI=some ⟨.type "function",od,.func (PySem.W.fnOf "__init__" "BadWord.__init__" (defArgs st) (defBody st) (defScope st) .none .none doc pm none cdv .none),osl⟩/\h.CodeRec cdv "BadWord.__init__":=by
 unfold bwOk at x;unfold iniSh at y;cases hf:h.clsAt mainGlobals "BadWord" with
 | none=>rw[hf]at x;cases x
 | some z =>
  obtain⟨C,o,cd⟩:=z;rw[hf]at x y;obtain⟨hn,ho,hd⟩:=Heap.clsAt_spec hf;obtain⟨oc,dd,dt,sl⟩:=o;obtain⟨nm,bs,mro,N,q,hdct,sn,sub,ab,col,hdel⟩:=cd;simp only[Bool.and_eq_true,decide_eq_true_eq,Bool.not_eq_true']at x;obtain⟨⟨⟨⟨⟨⟨⟨⟨hcls,hmro⟩,hdl⟩,hsz⟩,hmk⟩,hns⟩,hhd⟩,hst⟩,hfn⟩:=x;obtain⟨l⟩:=sl;obtain⟨k0,k1,k2,k3,k5,rfl⟩:=six_places (l:=l) (by simpa using hsz) (by simpa using hmk);obtain rfl:oc=.type "type":=hcls;obtain rfl:dt=_:=hd;obtain rfl:hdel=false:=hdl;obtain rfl:hdct=true:=hhd;rw[hD]at hmro;subst hmro;unfold Heap.shapeAt at y;dsimp only at y hfn;cases hg:h.fnAt N "__init__" with
  | none=>rw[hg]at y;cases y
  | some z =>
   obtain⟨fI,o',fd⟩:=z;rw[hg]at y hfn;obtain⟨hn',ho',hd'⟩:=Heap.fnAt_spec hg;obtain⟨n,q',ps,b,sc,g,cl,df,kd,doc,pm,an,code,ct,bi⟩:=fd;simp only[Option.map_some,Option.some.injEq,FnShape.mk.injEq]at y;obtain⟨rfl,rfl,rfl,rfl,rfl,rfl,rfl,rfl,rfl,rfl,rfl,rfl,hc⟩:=y;obtain⟨oc',od',dt',osl'⟩:=o';cases hd';simp only[decide_eq_true_eq]at hfn;subst hfn;refine⟨C,fI,hn,⟨N,nm,q,bs,sn,sub,ab,col,dd,k0,k1,k2,k3,k5,_,ho,.of_isNs hns,fun n hn=>Option.isNone_iff_eq_none.mp (List.all_eq_true.mp hst n hn),hn'⟩,od',osl',doc,pm,code,ho',.of_ok hc⟩
theorem z_of (st:Stmt)(w:World)(s:Shared)(x:zObs s=zVal st w):ZAt st w s.heap:=by
 unfold zObs zVal at x;injection x with x y
 simp only[Bool.and_eq_true]at x;obtain⟨⟨⟨x1,x2⟩,x3⟩,x5⟩:=x;obtain⟨D,b,d1,d2⟩:=zd_of x2 x3;obtain⟨C,fI,c1,c2,od,osl,doc,pm,cdv,f1,f2⟩:=bw_of x1 d1 y;refine⟨C,D,fI,c1,d1,⟨c2,⟨b,d2⟩,_,f1,rfl⟩,fun x hx=>?_,_,od,osl,doc,pm,cdv,f1,f2⟩;have y:=List.all_eq_true.mp x5 x hx;unfold otherOk at y;cases hf:s.heap.clsAt mainGlobals x with
 | none=>rw[hf]at y;cases y
 | some z =>
  obtain⟨B,o,cd⟩:=z;rw[hf]at y;obtain⟨h1,h2,h3⟩:=Heap.clsAt_spec hf;simp only[Bool.and_eq_true,decide_eq_true_eq,Bool.not_eq_true',decide_eq_false_iff_not]at y;obtain⟨⟨y1,y2⟩,y3⟩:=y;exact⟨B,h1,fun q=>y2 (q ▸ c1),fun q=>y3 (q ▸ d1),o,cd,h2,y1,h3⟩
theorem nsMap_keeps {h h':Heap}{a:Addr}{x:Str}{v:Value}(k:∀ b o,h.get? b=some o->h'.get? b=some o)(e:h.nsMap a x=some v):h'.nsMap a x=some v:=by
 unfold Heap.nsMap at e ⊢;split at e
 ·rename_i o ho
  rw[k _ _ ho];exact e
 ·cases e
theorem z_keeps (st:Stmt)(w:World)(h h':Heap)(z:ZAt st w h)(k:∀ b o,h.get? b=some o->h'.get? b=some o):ZAt st w h':=by
 obtain⟨C,D,fI,c,d,zh,ot,oc,od,osl,doc,pm,cdv,f1,f2⟩:=z;refine⟨C,D,fI,nsMap_keeps k c,nsMap_keeps k d,zh.keeps k,fun x hx=>?_,oc,od,osl,doc,pm,cdv,k _ _ f1,f2.keeps k⟩;obtain⟨B,b1,b2,b3,o,cd,b4,b5⟩:=ot x hx;exact⟨B,nsMap_keeps k b1,b2,b3,o,cd,k _ _ b4,b5⟩
noncomputable def zHook (st:Stmt):PySem.W.Hook:=⟨_,zObs,zVal st,ZAt st,z_of st,z_keeps st⟩
noncomputable def twoHooks (a b:PySem.W.Hook):PySem.W.Hook:=⟨_,fun s=>(a.obs s,b.obs s),fun w=>(a.val w,b.val w),fun w h=>a.says w h/\b.says w h,fun w s e=>⟨a.of w s (Prod.mk.inj e).1,b.of w s (Prod.mk.inj e).2⟩,fun w h h' x k=>⟨a.keeps w h h' x.1 k,b.keeps w h h' x.2 k⟩⟩
end L3
namespace L3
open PySem PySem.Spec PyProof.Rows L2
theorem on1 {α:Type}{P:List α->Prop}(h:∀ a,P [a]):∀ us:List α,us.length=1->P us
 | [a],_=>h a
theorem on2 {α:Type}{P:List α->Prop}(h:∀ a b,P [a,b]):∀ us:List α,us.length=2->P us
 | a::r,z9=>on1 (P:=fun r=>P (a::r)) (fun b=>h a b) r (Nat.succ.inj z9)
theorem on3 {α:Type}{P:List α->Prop}(h:∀ a b c,P [a,b,c]):∀ us:List α,us.length=3->P us
 | a::r,z9=>on2 (P:=fun r=>P (a::r)) (fun b c=>h a b c) r (Nat.succ.inj z9)
structure Ent where
 x:Str
 st:Stmt
 N:List Str
 ps:List Str
 b:ISs
noncomputable def tabOf (es:List Ent):List (Str×Fd):=es.map fun e=>(e.x,⟨e.N.length,e.ps.length,e.b⟩)
noncomputable def DefR (K:PySem.W.Frag)(mg:Str->Option Value)(es:List Ent)(gls bls:List Str)(e:Ent):Prop:=∃ (fa:Addr) (fd:FuncData),Fun K e.x e.x e.st fa fd/\mg e.x=some (.ref fa)/\Binds K fd e.ps []/\FnScope e.N e.ps (defScope e.st) /\
 cSs ⟨defScope e.st,e.N,es.map (·.x),gls,bls⟩ 200 (defBody e.st)=some e.b/\(tabOf es).lookup e.x=some ⟨e.N.length,e.ps.length,e.b⟩
noncomputable def GlR (K:PySem.W.Frag)(mg:Str->Option Value)(gl:Str->Option D)(x:Str):Prop:=∃ d u v,gl x=some d/\mg x=some u/\RelV v u/\∀ ι H,Rep K ι H d v
section
variable {P:Program}{w:World}{K:PySem.W.Frag}{mg:Str->Option Value}{base:Heap}{es:List Ent}{gls bls:List Str}{gl:Str->Option D}{srt:List D->Option (List D)}{wh:Nat}
theorem hu100 {A:Around}{k:Nat}(hr:Room k A):A.units + 100 < cLine:=by have:=hr.un;omega
variable (hgd:∀ x,gdName x=true->∃ a d ks,gl x=some d/\gdKs d=some ks/\mg x=some (.ref a)/\GdK K P w a ks)
include hgd
structure RfR (K:PySem.W.Frag) (mg:Str->Option Value) (es:List Ent) (C Dd fI:Addr):Prop where
 Z:ZK K mg C Dd fI
 hi:mg "isinstance" = none
 hv:mg "ValueError" = none
 hre:mg "repr" = none
 ini:∃ (fd:FuncData) (st:Stmt) (p:Nat->Pos),Fun K "__init__" "BadWord.__init__" st fI fd/\Binds K fd ["self","at"] []/\FnScope ["self","at"] ["self","at"] (defScope st)/\defBody st=atBody p/\∀ x∈(["self","at"]:List Str),(defScope st).names.lookup x=some .local
 rf:∃ (fa:Addr) (fd:FuncData) (st:Stmt) (p:Nat->Pos),Fun K "_law_refused" "_law_refused" st fa fd/\mg "_law_refused" = some (.ref fa)/\Binds K fd rfPs []/\FnScope rfN rfPs (defScope st)/\defBody st=rfBody p/\RfSc (defScope st)
 ra:∀ n,∃ e∈es,e.x=rfF n/\e.ps.length=1/\zokSs 200 (defBody e.st) e.b=true
variable {C Dd fI:Addr}(hrf:RfR K mg es C Dd fI)
include hrf
noncomputable def FnA (P:Program)(w:World)(K:PySem.W.Frag)(mg:Str->Option Value)(base:Heap)(Γ:Ctx)(es:List Ent)(k:Nat):Prop:=∀ e:Ent,e∈es->∃ (fa:Addr) (fd:FuncData),Fun K e.x e.x e.st fa fd /\
  mg e.x=some (.ref fa)/\PySem.W.keepIn K (.ref fa)=true/\Binds K fd e.ps []/\FnOk P w K mg base CX0 (k + 2) fa fd e.ps (spOf K e.ps.length (Γ.fn e.x)) /\
  ∀ ds M d M',Γ.fn e.x ds M=some (.ok d,M')->ds.length=e.ps.length
noncomputable def FnRf (P:Program)(w:World)(K:PySem.W.Frag)(mg:Str->Option Value)(base:Heap)(Γ:Ctx)(k:Nat):Prop:=∃ (fa:Addr) (fd:FuncData),mg "_law_refused" = some (.ref fa)/\PySem.W.keepIn K (.ref fa)=true/\Binds K fd rfPs [] /\
  FnOk P w K mg base CX0 (k + 2) fa fd rfPs (spOf K 3 (rfD Γ))/\∀ ds M d M',rfD Γ ds M=some (.ok d,M')->ds.length=3
theorem cx_ok (hg:∀ x∈gls,GlR K mg gl x)(hb:∀ x∈bls,mg x=none){k:Nat}(a:FnA P w K mg base (CtxN (tabOf es) gl srt wh k) es k)(b:FnRf P w K mg base (CtxN (tabOf es) gl srt wh k) k){e:Ent}(hS:FnScope e.N e.ps (defScope e.st))
  (fa:Addr) (cdv:Value) (A:Around) (outer:List Env) (s:Shared) (H:Hp) (E:XK) (hr:Room (k + 2) (A.deeper (envOfC e.x (defScope e.st) s.heap.objs.size fa cdv))) :
  CxOk (CtxN (tabOf es) gl srt wh k) ⟨defScope e.st,e.N,es.map (·.x),gls,bls⟩ (cxOf CX0 P w K mg base e.N e.x (defScope e.st) fa cdv A outer s H E).nox:={
    n:=rfl
    sc:=fun x q hx=>⟨q,hx,.inl rfl⟩
    calm:=rfl
    hu:=hu100 hr
    gd:=hr.gd
    nox:=rfl
    fns:=fun x hx=>by
     obtain⟨e',he',rfl⟩:=List.mem_map.mp hx;obtain⟨fa',fd',_,g1,g2,g3,g4,g5⟩:=a e' he';exact⟨k + 2,fa',fd',e'.ps,g1,g2,g3,g4,hr,g5⟩
    gls:=fun x hx=>by
     obtain⟨d',u,v,g1,g2,g3,g4⟩:=hg x hx;refine⟨d',u,v,?_,g2,g3,g4⟩;cases k <;> exact g1
    bls:=hb
    gdx:=fun x hx=>by
     obtain⟨a,d',ks,g1,g2,g3,g4⟩:=hgd x hx;refine⟨a,d',ks,?_,g2,g3,g4⟩;cases k <;> exact g1
    rfs:=by
     obtain⟨fa',fd',g1,g2,g3,g4,g5⟩:=b;exact⟨k + 2,fa',fd',rfPs,g1,g2,g3,g4,hr,g5⟩
    bw:=by
     obtain⟨fd,st,p,F,hb',hS',hbd,sc⟩:=hrf.ini;exact⟨1,C,Dd,fI,fd,hrf.Z,hb',init_fn F hS' hbd hrf.Z sc,hr.mono (by omega)⟩
    nd:=hS.nd }
theorem fns_all (hsrt:∀ k,SrtOk (CtxN (tabOf es) gl srt wh k))(hd:∀ e∈es,DefR K mg es gls bls e)(hg:∀ x∈gls,GlR K mg gl x)(hb:∀ x∈bls,mg x=none)(k:Nat):FnA P w K mg base (CtxN (tabOf es) gl srt wh k) es k /\
  FnRf P w K mg base (CtxN (tabOf es) gl srt wh k) k/\∀ n,RaisesR P w K mg base C (k + 2) (CtxN (tabOf es) gl srt wh k).rz (rfF n):=by
 obtain⟨fr,fdr,str,pr,Fr,mr,br,Sr,hbr,scr⟩:=hrf.rf;obtain⟨fdI,stI,pI,FI,bI,SI,hbI,scI⟩:=hrf.ini;induction k with
 | zero =>
  refine⟨fun e he=>?_,⟨fr,fdr,mr,Fr.kp,br,⟨fun vs H Q E h=>h.1,fun A outer s H args us vs Q E _ _ _ _ h=>?_⟩,fun ds M d M' h=>?_⟩,fun n=>?_⟩
  ·obtain⟨fa,fd,F,hm,hbn,_⟩:=hd e he
   refine⟨fa,fd,F,hm,F.kp,hbn,⟨fun vs H Q E h=>h.1,fun A outer s H args us vs Q E _ _ _ _ h=>?_⟩,fun ds M d M' h=>?_⟩
   ·obtain⟨_,_,_,_,_,_,_,_,e,_⟩:=h
    exact(stop_ok e).elim
   ·exact(stop_ok h).elim
  ·obtain⟨_,_,_,_,_,_,_,_,e,_⟩:=h
   cases e
  ·cases h
  ·obtain⟨er,her,exr,elr,zr⟩:=hrf.ra n
   obtain⟨fa,fd,F,hm,hbn,_⟩:=hd er her;rw[exr]at hm;refine⟨fa,fd,er.ps,hm,F.kp,hbn,elr,⟨fun vs H Q E h=>h.1.trans elr.symm,fun A outer s H args us vs Q E _ _ _ _ h=>?_⟩,fun ds M i M' h=>?_⟩
   ·obtain⟨_,_,_,_,_,_,_,_,e,_⟩:=h
    cases e
   ·cases h
 | succ k ih =>
  obtain⟨ihA,ihR,ihZ⟩:=ih;refine⟨fun e he=>?_,⟨fr,fdr,mr,Fr.kp,br,?_,fun ds M d M' h=>?_⟩,fun n=>?_⟩
  ·obtain⟨fa,fd,F,hm,hbn,hS,hc,ht⟩:=hd e he
   have hfn:(CtxN (tabOf es) gl srt wh (k + 1)).fn e.x=fun xs=>(do need (xs.length=e.ps.length);semF (CtxN (tabOf es) gl srt wh k) e.N.length e.b xs:Mo D):=by
    funext xs;show (match (tabOf es).lookup e.x with
     | some d=>(do need (xs.length=d.p);semF (CtxN (tabOf es) gl srt wh k) d.n d.b xs:Mo D)
     | none=>Mo.stop)=_
    rw[ht]
   refine⟨fa,fd,F,hm,F.kp,hbn,?_,fun ds M d M' h=>?_⟩
   ·refine F.ok (k:=k + 2) hS (fun vs H Q E h=>h.1) (fun cdv A outer s H vs Q E hr h=>?_)
    obtain⟨hl,ι,M,M',ds,d,S,r,eq,kk⟩:=h;rw[hfn]at eq;obtain⟨_,M0,e1,eq1⟩:=bind_ok eq;obtain⟨hn,hM⟩:=need_ok e1;rw[hM]at eq1;obtain⟨f,M1,e2,eq2⟩:=bind_ok eq1;refine⟨_,(soundS (sound (hsrt k)) 200).Ss _ _ _ _ (cx_ok hgd hrf hg hb ihA ihR hS fa cdv A outer s H E hr) (fun _=>rfl) hc,?_⟩;refine⟨ι,_,_,f,M1,S,env_start (N:=e.N) r,e2,fun H' ι' S' X'=>?_⟩;cases f with
    | nx ρ=>obtain⟨rfl,rfl⟩:=pure_ok eq2;exact fun σ _=>kk .non H' ι' .non S' X'
    | rt v=>obtain⟨rfl,rfl⟩:=pure_ok eq2;exact fun v' r'=>kk v' H' ι' r' S' X'
    | bk ρ=>exact(stop_ok eq2).elim
    | ct ρ=>exact(stop_ok eq2).elim
   ·rw[hfn]at h
    obtain⟨_,_,e1,_⟩:=bind_ok h;exact(need_ok e1).1
  ·exact refused_fn (k:=k + 2) Fr Sr hbr scr hrf.Z hrf.hi hrf.hv hrf.hre ihZ
  ·replace h:(match rf2 (CtxN (tabOf es) gl srt wh k).rz ds M with
    | some M'=>(some (.ok (.bl true),M'):Option (Out D×MH))
    | none=>none)=some (.ok d,M'):=h
   cases q:rf2 (CtxN (tabOf es) gl srt wh k).rz ds M with
   | none=>rw[q]at h;cases h
   | some M1 =>
    unfold rf2 at q;split at q
    ·rfl
    ·cases q
  ·obtain⟨er,her,exr,elr,zr⟩:=hrf.ra n
   obtain⟨fa,fd,F,hm,hbn,hS,hc,ht⟩:=hd er her;have hz:(CtxN (tabOf es) gl srt wh (k + 1)).rz (rfF n)=fun xs M=>if xs.length=er.ps.length then rzSs (CtxN (tabOf es) gl srt wh k) er.b (xs.map some++List.replicate (er.N.length - xs.length) none) M else none:=by
    funext xs M;show (match (tabOf es).lookup (rfF n) with
     | some d=>if xs.length=d.p then rzSs (CtxN (tabOf es) gl srt wh k) d.b (xs.map some++List.replicate (d.n - xs.length) none) M else none
     | none=>none)=_
    rw[<- exr,ht]
   have rr:=raises_fn (P:=P) (w:=w) (base:=base) (Γ:=CtxN (tabOf es) gl srt wh k) (k:=k + 2) F hS hc zr hrf.Z bI (init_fn FI SI hbI hrf.Z scI) (by omega) (sound (hsrt k)) (fun cdv A outer s H E hr=>cx_ok hgd hrf hg hb ihA ihR hS fa cdv A outer s H E hr);unfold RaisesR;rw[hz];rw[elr]at rr ⊢;rw[exr]at hm;refine⟨fa,fd,er.ps,hm,F.kp,hbn,elr,rr,fun ds M i M' h=>?_⟩;dsimp only at h;split at h
   ·assumption
   ·cases h
theorem fns_ok (hsrt:∀ k,SrtOk (CtxN (tabOf es) gl srt wh k))(hd:∀ e∈es,DefR K mg es gls bls e)(hg:∀ x∈gls,GlR K mg gl x)(hb:∀ x∈bls,mg x=none):∀ (k:Nat) (e:Ent),e∈es->∃ (fa:Addr) (fd:FuncData),Fun K e.x e.x e.st fa fd /\
  mg e.x=some (.ref fa)/\PySem.W.keepIn K (.ref fa)=true/\Binds K fd e.ps []/\FnOk P w K mg base CX0 (k + 2) fa fd e.ps (spOf K e.ps.length ((CtxN (tabOf es) gl srt wh k).fn e.x)) /\
  ∀ ds M d M',(CtxN (tabOf es) gl srt wh k).fn e.x ds M=some (.ok d,M')->ds.length=e.ps.length:=fun k=>(fns_all hgd hrf hsrt hd hg hb k).1
theorem law_fn (hsrt:∀ k,SrtOk (CtxN (tabOf es) gl srt wh k))(hd:∀ e∈es,DefR K mg es gls bls e)(hg:∀ x∈gls,GlR K mg gl x)(hb:∀ x∈bls,mg x=none)(k:Nat){e:Ent}(he:e∈es){fa:Addr}{fd:FuncData}(F:Fun K e.x e.x e.st fa fd)(hm:mg e.x=some (.ref fa)) :
  FnOk P w K mg base CX0 (k + 2) fa fd e.ps (spOf K e.ps.length ((CtxN (tabOf es) gl srt wh k).fn e.x)):=by
 obtain⟨fa',fd',F',hm',_,_,g,_⟩:=fns_ok (P:=P) (w:=w) (base:=base) hgd hrf hsrt hd hg hb k e he;rw[hm]at hm';cases hm';obtain⟨_,_,_,_,_,_,_,_,_,_,l1,_⟩:=F.ex;obtain⟨_,_,_,_,_,_,_,_,_,_,l2,_⟩:=F'.ex;rw[l1]at l2;cases l2;exact g
end
theorem ints_reps {K:PySem.W.Frag}{ι:List Addr}{H:Hp}:∀ ns:List Int,Reps K ι H (ns.map D.int) (ns.map V.int)
 | []=>.nil
 | n::r=>.cons (.int n) (ints_reps r)
theorem fz_of {K:PySem.W.Frag}{H:Hp}{a:Addr}{xs:List V}(hO:Only H)(h:SqL K H a xs):FzL K H a xs:=by
 rcases h with (h | h) | h
 ·rcases hO a with z | ⟨o,ys,z⟩
  ·rw[z]at h;cases h
  ·rw[z]at h;cases h
 ·exact .inl h
 ·exact .inr h
theorem sp_law {K:PySem.W.Frag}{H:Hp}{a:Addr}{ns:List Int}{g:List D->Mo D}{E:XK}(hO:Only H)(hS:SqL K H a (ns.map V.int))(hg:∃ M',g [.fl (ns.map .int)] []=some (.ok (.bl true),M')):spOf K 1 g [.ref a] H (fun v _=>v=.bl true) E:=by
 obtain⟨M',e⟩:=hg;refine⟨rfl,[],[],M',_,_,⟨rfl,fun i j a h=>by simp at h,fun i a o h=>by simp at h⟩,.cons (.fl (fz_of hO hS) (ints_reps ns)) .nil,e,fun v H' ι' r _ _=>?_⟩;cases r;rfl
end L3
namespace L3
open PySem PySem.Spec PyProof.Rows L2
noncomputable def evalK {α:Type}(lt:Nat->Nat->Option Bool):PySem.W.KasT α->Option α
 | .ret a=>some a
 | .ask i j k=>match lt i j with
  | none=>none
  | some b=>evalK lt (k b)
theorem evalK_wp {α:Type}{lt:Nat->Nat->Option Bool}{cmp:Nat->Nat->(Bool->Shared->Prop)->Shared->Prop}{s:Shared}{a:α}{Q:α->Shared->Prop}(hc:∀ i j b (C:Bool->Shared->Prop),lt i j=some b->C b s->cmp i j C s)(q:Q a s) :
  ∀ (t:PySem.W.KasT α),evalK lt t=some a->t.kasWp cmp Q s
 | .ret b,h=>by cases h;exact q
 | .ask i j k,h=>by
  unfold evalK at h;cases e:lt i j with
  | none=>rw[e]at h;cases h
  | some b =>
   rw[e]at h;exact hc i j b _ e (evalK_wp hc q (k b) h)
section
variable {prog:Program}{w:World}{A:Around}{E:Value->Shared->Prop}{s:Shared}{a:Addr}{vs:List Value}{n:Nat}{P:PySem.Fin->Shared->Prop}
theorem list_sort_small (ho:s.heap.get? a=some (seqObj "list" vs.toArray n))(h2:vs.length < 2)
  (h:∀ h' c,(∀ b o,b≠a->s.heap.get? b=some o->h'.get? b=some o)->h'.get? a=some (seqObj "list" vs.toArray c)->P (.done (.ret .none)) { s with heap:=h' }) :
  wpAny (model prog w) A (Builtin.«list.sort» ⟨[.ref a],[]⟩) P E s:=by
 rw[list_sort_plain];have ha:a < s.heap.objs.size:=Heap.lt_size ho;refine wpAny_bind (listItems_at ho rfl ?_);refine wpAny_bind (listUpdate_at ho rfl ?_ (by rw[List.size_toArray,sizeLine_eq];omega) (Nat.zero_le _));obtain⟨e1,ho1⟩:∃ e1,(s.heap.update a (Obj.mapSeq fun _=>#[])).get? a=some (seqObj "list" #[] e1):=⟨_,get?_update_seq ho (fun _=>#[])⟩;refine wpAny_bind (seqEpoch_at ho1 rfl ?_);refine wpAny_bind (wpAny_newTuple ?_ (by show vs.length<=_;rw[sizeLine_eq];omega));refine wpAny_bind (wpAny_newList ?_ (Nat.zero_le _));refine wpAny_holding ?_;have ho6:(((s.heap.update a (Obj.mapSeq fun _=>#[])).push (seqObj "tuple" vs.toArray 0)).push (seqObj "list" #[] 0)).get? a=some (seqObj "list" #[] e1):=by
  rw[Heap.get?_push_ne _ _ _ (by rw[size_push',Heap.size_update];exact Nat.ne_of_lt (Nat.lt_succ_of_lt ha)),Heap.get?_push_ne _ _ _ (by rw[Heap.size_update];exact Nat.ne_of_lt ha)];exact ho1
 show wpAny (model prog w) A _ P E { s with heap:=((s.heap.update a (Obj.mapSeq fun _=>#[])).push (seqObj "tuple" vs.toArray 0)).push (seqObj "list" #[] 0) };dsimp only;have hlt:vs.toArray.size < 2:=by rw[List.size_toArray];exact h2
 rw[if_pos hlt,if_pos hlt];refine wpAny_bind (wpAny_pure ?_);rw[StateT.run_pure];refine wpAny_bind (wpAny_pure ?_);dsimp only;have hz:∀ l:List Value,(l.toArray.zip l.toArray).map (fun x=>x.2)=l.toArray:=fun l=>by
  apply Array.toList_inj.mp;simp only[Array.toList_map,Array.toList_zip];induction l with
  | nil=>rfl
  | cons x r ih=>simpa using ih
 refine wpAny_bind (seqEpoch_at ho6 rfl ?_);refine wpAny_bind (listUpdate_at ho6 rfl ?_ (Nat.zero_le _) (hsz2:=by rw[hz,List.size_toArray,sizeLine_eq];omega));simp only[bne_self_eq_false,Bool.false_eq_true,if_false];rw[hz];obtain⟨c2,hc2⟩:∃ c2,((((s.heap.update a (Obj.mapSeq fun _=>#[])).push (seqObj "tuple" vs.toArray 0)).push (seqObj "list" #[] 0)).update a (Obj.mapSeq fun _=>vs.toArray)).get? a=some (seqObj "list" vs.toArray c2):=⟨_,get?_update_seq ho6 fun _=>vs.toArray⟩;refine wpAny_pure (h _ c2 (fun b o hb e=>?_) hc2);have hlt:b < s.heap.objs.size:=Heap.lt_size e;rw[Heap.get?_update_ne _ _ _ _ hb,Heap.get?_push_ne _ _ _ (by rw[size_push',Heap.size_update];exact Nat.ne_of_lt (Nat.lt_succ_of_lt hlt)),Heap.get?_push_ne _ _ _ (by rw[Heap.size_update];exact Nat.ne_of_lt hlt),Heap.get?_update_ne _ _ _ _ hb];exact e
theorem list_sort_any {κ:SortKind}{lt:Nat->Nat->Option Bool}{p:Array Nat}(ho:s.heap.get? a=some (seqObj "list" vs.toArray n))(h2:2<=vs.length)(h64:vs.length < 64)
  (hk:∀ h',(∀ b o,b≠a->s.heap.get? b=some o->h'.get? b=some o)->∀ (Q:SortKind->Shared->Prop),Q κ { s with heap:=h' }->wpAny (model prog w) A (keyKind' vs.toArray) Q (fun _ _=>False) { s with heap:=h' })
  (hc:∀ h',(∀ b o,b≠a->s.heap.get? b=some o->h'.get? b=some o)->∀ i j b (C:Bool->Shared->Prop),lt i j=some b->C b { s with heap:=h' }->PySem.W.kas_ask prog w A κ vs i j C { s with heap:=h' })
  (he:evalK lt (PySem.W.kas_sort vs.length)=some p)
  (h:∀ h' c,p.size=vs.length->(∀ b o,b≠a->s.heap.get? b=some o->h'.get? b=some o)->h'.get? a=some (seqObj "list" (List.toArray (p.toList.map fun i=>vs.getD i Value.none)) c)->P (.done (.ret .none)) { s with heap:=h' }) :
  wpAny (model prog w) A (Builtin.«list.sort» ⟨[.ref a],[]⟩) P E s:=by
 have ha:a < s.heap.objs.size:=Heap.lt_size ho;obtain⟨e1,ho1⟩:∃ e1,(s.heap.update a (Obj.mapSeq fun _=>(#[]:Array Value))).get? a=some (seqObj "list" #[] e1):=⟨_,get?_update_seq ho fun _=>#[]⟩;have keep:∀ b o,b≠a->s.heap.get? b=some o->(((s.heap.update a (Obj.mapSeq fun _=>(#[]:Array Value))).push (seqObj "tuple" vs.toArray 0)).push (seqObj "list" #[] 0)).get? b=some o:=fun b o hb e=>by
  have hlt:b < s.heap.objs.size:=Heap.lt_size e;rw[Heap.get?_push_ne _ _ _ (by rw[size_push',Heap.size_update];exact Nat.ne_of_lt (Nat.lt_succ_of_lt hlt)),Heap.get?_push_ne _ _ _ (by rw[Heap.size_update];exact Nat.ne_of_lt hlt),Heap.get?_update_ne _ _ _ _ hb];exact e
 have ho6:(((s.heap.update a (Obj.mapSeq fun _=>(#[]:Array Value))).push (seqObj "tuple" vs.toArray 0)).push (seqObj "list" #[] 0)).get? a=some (seqObj "list" #[] e1):=by
  rw[Heap.get?_push_ne _ _ _ (by rw[size_push',Heap.size_update];exact Nat.ne_of_lt (Nat.lt_succ_of_lt ha)),Heap.get?_push_ne _ _ _ (by rw[Heap.size_update];exact Nat.ne_of_lt ha)];exact ho1
 rw[list_sort_plain];refine wpAny_bind (listItems_at ho rfl ?_);refine wpAny_bind (listUpdate_at ho rfl ?_ (by rw[List.size_toArray,sizeLine_eq];omega) (Nat.zero_le _));refine wpAny_bind (seqEpoch_at ho1 rfl ?_);refine wpAny_bind (wpAny_newTuple ?_ (by show vs.length<=_;rw[sizeLine_eq];omega));refine wpAny_bind (wpAny_newList ?_ (Nat.zero_le _));refine wpAny_holding ?_;show wpAny (model prog w) A _ P E { s with heap:=((s.heap.update a (Obj.mapSeq fun _=>(#[]:Array Value))).push (seqObj "tuple" vs.toArray 0)).push (seqObj "list" #[] 0) };dsimp only;have hn2:¬ vs.toArray.size < 2:=by rw[List.size_toArray];omega
 rw[if_neg hn2,if_neg hn2];refine wpAny_bind (wpAny_mono (hk _ keep (fun κ' s'=>κ'=κ/\s' = { s with heap:=((s.heap.update a (Obj.mapSeq fun _=>(#[]:Array Value))).push (seqObj "tuple" vs.toArray 0)).push (seqObj "list" #[] 0) }) ⟨rfl,rfl⟩) (fun κ' s0 hq=>?_) fun _ _ x=>x.elim);obtain⟨rfl,rfl⟩:=hq;refine wpAny_bind (wpAny_mono (PySem.W.kat_run (Q:=fun st' s'=>∃ q:Array Nat,q.size=vs.length/\arrOf st'=q.map (PySem.W.kas_item (vs.toArray.zip vs.toArray))/\failedOf st'=none/\q=p/\s' = { s with heap:=((s.heap.update a (Obj.mapSeq fun _=>(#[]:Array Value))).push (seqObj "tuple" vs.toArray 0)).push (seqObj "list" #[] 0) })
  (G:=fun q s'=>q=p/\s' = { s with heap:=((s.heap.update a (Obj.mapSeq fun _=>(#[]:Array Value))).push (seqObj "tuple" vs.toArray 0)).push (seqObj "list" #[] 0) })
  rfl h2 h64 (fun p' st' s' a1 a2 a3 a4=>⟨p',a1,a2,a3,a4.1,a4.2⟩) (evalK_wp (hc _ keep) ⟨rfl,rfl⟩ _ he)) ?_ fun _ _ e=>e)
 rintro ⟨⟨⟩,st'⟩ s' ⟨q,hp,har,hf,rfl,rfl⟩;dsimp only;have hout:=PySem.W.kat_snds rfl har;have hsz:(List.toArray (q.toList.map fun i=>vs.getD i Value.none)).size=vs.length:=by rw[List.size_toArray,List.length_map,Array.length_toList,hp]
 rw[hout];obtain⟨c2,hc2⟩:∃ c2,((((s.heap.update a (Obj.mapSeq fun _=>(#[]:Array Value))).push (seqObj "tuple" vs.toArray 0)).push (seqObj "list" #[] 0)).update a (Obj.mapSeq fun _=>List.toArray (q.toList.map fun i=>vs.getD i Value.none))).get? a=some (seqObj "list" (List.toArray (q.toList.map fun i=>vs.getD i Value.none)) c2):=⟨_,get?_update_seq ho6 fun _=>List.toArray (q.toList.map fun i=>vs.getD i Value.none)⟩;refine wpAny_bind (seqEpoch_at ho6 rfl ?_);refine wpAny_bind (listUpdate_at ho6 rfl ?_ (Nat.zero_le _) (Nat.le_trans (Nat.le_of_eq hsz) (by rw[sizeLine_eq];omega)));rw[hf];simp only[bne_self_eq_false,Bool.false_eq_true,if_false];refine wpAny_pure (h _ c2 hp (fun b o hb e=>?_) hc2);rw[Heap.get?_update_ne _ _ _ _ hb];exact keep b o hb e
end
end L3
namespace L3
open PySem PySem.Spec PyProof.Rows L2
noncomputable def lexK:List D->List D->Option Bool
 | [],[]=>some false
 | [],_::_=>some true
 | _::_,[]=>some false
 | x::xs,y::ys=>if (flatD x&&flatD y)=true then (if eqF x y=true then lexK xs ys else ltD x y) else none
noncomputable def firstStr:D->Bool
 | .tup (.str _::_)=>true
 | _=>false
noncomputable def firstInt:D->Bool
 | .tup (.int _::_)=>true
 | _=>false
noncomputable def cmpT (ds:List D)(i j:Nat):Option Bool:=match ds[i]?,ds[j]? with
 | some (.tup xs),some (.tup ys)=>lexK xs ys
 | _,_=>none
noncomputable def sortT (ds:List D):Option (List D):=if ds.length < 2 then some ds else if (decide (ds.length < 64)&&(ds.all firstStr||ds.all firstInt))=true then
 (evalK (cmpT ds) (PySem.W.kas_sort ds.length)).map fun p=>p.toList.map fun i=>ds.getD i .non else none
noncomputable def sortD (ds:List D):Option (List D):=match sortF ds with
 | some ys=>if ds.length < 64 then some ys else none
 | none=>sortT ds
theorem sortD_str {xs:List Str}(h:xs.length < 64):sortD (xs.map .str)=some ((sortS xs).map .str):=by
 unfold sortD sortF;rw[allS_map];dsimp only;rw[if_pos (by rw[List.length_map];exact h)]
section
variable {X:Cx}{pins:List (Addr×Obj)}{σ:St}{H:Hp}{s:Shared}{ι:List Addr}{A:Around}
noncomputable def TupAt (h:Heap)(u:Value)(us:List Value):Prop:=∃ a o n,u=.ref a/\h.get? a=some o/\o.cls=.type "tuple"/\o.data=.seq us.toArray n
theorem tupAt_of (I:Inv X pins σ H s){d:D}{ds:List D}{v:V}{u:Value}(r:Rep X.K ι H (.tup ds) v)(ru:RelV v u):∃ vs us,Reps X.K ι H ds vs/\Vals vs us/\TupAt s.heap u us:=by
 cases r with
 | tup t q =>
  obtain⟨its,rv,⟨o,h1,h2,n,h3⟩,_⟩:=I.tuple (sqt t);cases ru;exact⟨_,its,q,rv,_,o,n,rfl,h1,h2,h3⟩
theorem lex_wp {b fin:Bool}{Q:Bool->Shared->Prop}:∀ {xs ys:List D} {vs ws:List V} {us zs:List Value} {c:Bool} {i:Nat} {s:Shared},Reps X.K ι H xs vs->Reps X.K ι H ys ws->Vals vs us->Vals ws zs->lexK xs ys=some c->(decide (xs.length < ys.length)=fin) ->
  Q c s->(b=true->i=0->∃ x y xs' ys',xs=x::xs'/\ys=y::ys'/\((∃ p q,x=.str p/\y=.str q)\/∃ p q,x=.int p/\y=.int q))->PySem.W.KatLex X.prog X.w A b fin Q (us.zip zs) i s
 | _,_,_,_,_,_,c,i,s,.nil,.nil,.nil,.nil,h,hf,q,_=>by
  simp only[lexK,Option.some.injEq]at h;subst h
  have:fin=false:=by rw[<- hf];rfl
  subst this;exact PySem.W.kat_nil q
 | _,_,_,_,_,_,c,i,s,.nil,.cons _ _,.nil,.cons _ _,h,hf,q,_=>by
  simp only[lexK,Option.some.injEq]at h;subst h
  have:fin=true:=by rw[<- hf];simp
  subst this;exact PySem.W.kat_nil q
 | _,_,_,_,_,_,c,i,s,.cons _ _,.nil,.cons _ _,.nil,h,hf,q,_=>by
  simp only[lexK,Option.some.injEq]at h;subst h
  have:fin=false:=by rw[<- hf];simp
  subst this;exact PySem.W.kat_nil q
 | x::xs,y::ys,_,_,_,_,c,i,s,.cons r1 t1,.cons r2 t2,.cons g1 k1,.cons g2 k2,h,hf,q,h0=>by
  simp only[lexK]at h;split at h
  ·rename_i hfl
   rw[Bool.and_eq_true]at hfl;rw[List.zip_cons_cons];have eq:=eqAt_V (A:=A) (s:=s) g1 g2 (flat_rep r1 hfl.1) (flat_rep r2 hfl.2);refine PySem.W.kat_cons (eq X.prog X.w _ _ ?_);rw[eq_rep r1 r2 hfl.1 hfl.2];split at h
   ·rename_i he
    rw[he];refine PySem.W.kat_yes (lex_wp t1 t2 k1 k2 h (by rw[<- hf];simp) q fun _ z=>by omega)
   ·rename_i he
    have he':eqF x y=false:=by simpa using he
    rw[he'];refine PySem.W.kat_no ?_;cases hb:(b&&i==0) with
    | true =>
     cases r1 <;> cases r2 <;> simp only[ltD,Option.some.injEq,reduceCtorEq]at h
     ·obtain⟨t,rfl⟩:=g1
      obtain⟨t',rfl⟩:=g2;exact oneLt_int (by rw[h];exact q)
     ·obtain⟨t,rfl⟩:=g1
      obtain⟨t',rfl⟩:=g2;exact oneLt_str (by rw[h];exact q)
    | false =>
     refine PySem.W.kat_one _ _ ?_;cases r1 <;> cases r2 <;> simp only[ltD,Option.some.injEq,reduceCtorEq]at h
     ·obtain⟨t,rfl⟩:=g1
      obtain⟨t',rfl⟩:=g2;exact lt_int (by show Q (decide _) s;rw[h];exact q)
     ·obtain⟨t,rfl⟩:=g1
      obtain⟨t',rfl⟩:=g2;exact lt_str (by show Q (decide _) s;rw[h];exact q)
  ·cases h
end
end L3
namespace L3
open PySem PySem.Spec PyProof.Rows L2
section
variable {X:Cx}{pins:List (Addr×Obj)}{σ:St}{H:Hp}{s:Shared}{ι:List Addr}{M:MH}
theorem adopt_all:∀ (kvs:List (Ky×D)) (ws:List (Key×V)) (rs:List (Key×Value)) (as:List Addr) (H:Hp),Inv X pins σ H s->Sim X.K ι M H->KR X.K ι H kvs ws->KV ws rs->as.length=rs.length->as.Nodup->(∀ a∈as,H a=none/\Young X pins a) ->
  (∀ (j:Nat) (a:Addr),as[j]?=some a->∃ key k x,rs[j]?=some (k,x)/\(mixKind X.prog X.w).is k key=true/\s.heap.get? a=some { cls:=.type "tuple",data:=.seq #[key,x] }) ->
  ∃ H',Inv X pins σ H' s/\Sim X.K ι M H'/\Ext X.K ι H ι H'/\Reps X.K ι H' (dicItems kvs) (as.map V.ref):=by
 intro kvs;induction kvs with
 | nil =>
  intro ws rs as H I S kr kv hl nd hy hp;cases kr;cases kv;cases as with
  | nil=>exact⟨H,I,S,Ext.refl,.nil⟩
  | cons a as=>cases hl
 | cons kd kvs ih =>
  intro ws rs as H I S kr kv hl nd hy hp;cases kr with
  | cons h1 t1 =>
   cases kv with
   | cons h2 t2 =>
    cases as with
    | nil=>cases hl
    | cons a as =>
     rename_i w1 ws r1 rs;obtain⟨k,d⟩:=kd;obtain⟨k1,v⟩:=w1;obtain⟨k2,x⟩:=r1;obtain⟨e1,q1⟩:=h1;obtain⟨e2,q2⟩:=h2;have e1:k=k1:=e1;have e2:k1=k2:=e2;subst e1;subst e2;obtain⟨key,k',x',g1,g2,g3⟩:=hp 0 a rfl;have g1':(k,x)=(k',x'):=Option.some.inj g1;obtain⟨rfl,rfl⟩:=Prod.mk.inj g1';obtain⟨ha,ya⟩:=hy a List.mem_cons_self;obtain⟨n1,n2⟩:=List.nodup_cons.mp nd;have rk:RelV (kV k) key:=by
      rcases keyIs_shape (k:=k) (v:=key) g2 with ⟨i,t,rfl,rfl⟩|⟨z,t,rfl,rfl⟩
      ·exact⟨t,rfl⟩
      ·exact⟨t,rfl⟩
     have I1:Inv X pins σ (upd H a (.tup [kV k,v])) s:=inv_adopt I ha ya ⟨by show 2<=sizeLine;decide,[key,x],.cons rk (.cons q2 .nil),⟨⟨_,g3,rfl,0,rfl⟩,fun o eo=>by rw[g3]at eo;cases eo;exact⟨rfl,rfl⟩⟩⟩;have X1:Ext X.K ι H ι (upd H a (.tup [kV k,v])):=Ext.tupN ha;obtain⟨H',I',S',X',R'⟩:=ih ws rs as _ I1 (S.tupN ha) (KR.mono X1 t1) t2 (by simpa using hl) n2 (fun b hb=>⟨by
       have hba:b≠a:=fun z=>n1 (by rw[<- z];exact hb);rw[upd_ne hba];exact(hy b (List.mem_cons_of_mem _ hb)).1,(hy b (List.mem_cons_of_mem _ hb)).2⟩)
      (fun j b hj=>hp (j + 1) b (by simpa using hj))
     have rd:Rep X.K ι H' (dK k) (kV k):=by
      cases k with
      | inl i=>exact .int i
      | inr z=>exact .str z
     exact⟨H',I',S',X1.trans X',.cons (.tup (X'.tup _ _ upd_same) (.cons rd (.cons ((Rep.mono X1 q1).mono X') .nil))) R'⟩
theorem firsts_of (I:Inv X pins σ H s){T:Value}:∀ {ds:List D} {vs:List V} {us:List Value},Reps X.K ι H ds vs->Vals vs us->(∀ d∈ds,∃ x xs,d=.tup (x::xs)/\∀ (v:V) (u:Value),Rep X.K ι H x v->RelV v u->typeOf u=pure T) ->
  ∃ fs,(∀ h',(∀ b o,s.heap.get? b=some o->o.cls=.type "tuple"->h'.get? b=some o)->PySem.W.KatTups h' us fs)/\fs.length=us.length/\∀ f∈fs,typeOf f=pure T
 | _,_,_,.nil,.nil,_=>⟨[],fun _ _=>.nil,rfl,fun _ h=>by simp at h⟩
 | d::ds,_,u::us,.cons r t,.cons g k,h=>by
  obtain⟨x,xs,rfl,hx⟩:=h d List.mem_cons_self;obtain⟨fs,h1,h2,h3⟩:=firsts_of I t k fun e he=>h e (List.mem_cons_of_mem _ he);obtain⟨vs',us',q,rv,a,o,n,rfl,ho,hc,hd⟩:=tupAt_of (d:=.non) I r g;cases q with
  | cons q1 q2 =>
   cases rv with
   | cons g1 g2 =>
    rename_i v1 vr u1 ur;refine⟨u1::fs,fun h' kk=>PySem.W.KatTups.cons (kk _ _ ho hc) hc hd (by simp) (h1 h' kk),by rw[List.length_cons,List.length_cons,h2],fun f hf=>?_⟩;rcases List.mem_cons.mp hf with rfl | hf
    ·exact hx v1 _ q1 g1
    ·exact h3 f hf
theorem vals_getD {vs:List V}{us:List Value}(r:Vals vs us)(i:Nat):RelV (vs.getD i .non) (us.getD i Value.none):=by
 rw[List.getD_eq_getElem?_getD,List.getD_eq_getElem?_getD];cases e:vs[i]? with
 | none=>rw[r.none_of e];rfl
 | some v =>
  obtain⟨u,hu,ru⟩:=r.get e;rw[hu];exact ru
theorem reps_getD {ds:List D}{vs:List V}(r:Reps X.K ι H ds vs)(i:Nat):Rep X.K ι H (ds.getD i .non) (vs.getD i .non):=by
 rw[List.getD_eq_getElem?_getD,List.getD_eq_getElem?_getD];cases e:ds[i]? with
 | none =>
  have:vs[i]?=none:=List.getElem?_eq_none_iff.mpr (by rw[<- r.length];exact List.getElem?_eq_none_iff.mp e)
  rw[this];exact .non
 | some d =>
  obtain⟨v,hv,rv⟩:=r.get e;rw[hv];exact rv
theorem vals_map {α:Type}{f:α->V}{g:α->Value}(h:∀ i,RelV (f i) (g i)):∀ l:List α,Vals (l.map f) (l.map g)
 | []=>.nil
 | i::l=>.cons (h i) (vals_map h l)
theorem reps_map {α:Type}{f:α->D}{g:α->V}(h:∀ i,Rep X.K ι H (f i) (g i)):∀ l:List α,Reps X.K ι H (l.map f) (l.map g)
 | []=>.nil
 | i::l=>.cons (h i) (reps_map h l)
theorem strsA:∀ {xs:List Str} {vs:List V} {us:List Value},Reps X.K ι H (xs.map .str) vs->Vals vs us->StrsAre us xs
 | [],_,_,.nil,.nil=>.nil
 | x::xs,_,_,.cons r t,.cons g k=>by
  cases r;obtain⟨t',rfl⟩:=g;exact .cons x t' (strsA t k)
theorem ofStrsA:∀ {xs:List Str} {us:List Value},StrsAre us xs->Vals (xs.map V.str) us/\Reps X.K ι H (xs.map .str) (xs.map V.str)
 | _,_,.nil=>⟨.nil,.nil⟩
 | _,_,.cons x t h=>⟨.cons ⟨t,rfl⟩ (ofStrsA h).1,.cons (.str x) (ofStrsA h).2⟩
theorem ofIntsA:∀ {xs:List Int} {us:List Value},IntsAre us xs->Vals (xs.map V.int) us/\Reps X.K ι H (xs.map .int) (xs.map V.int)
 | _,_,.nil=>⟨.nil,.nil⟩
 | _,_,.cons x t h=>⟨.cons ⟨t,rfl⟩ (ofIntsA h).1,.cons (.int x) (ofIntsA h).2⟩
theorem rising_pw:∀ {p:Str} {l:List Str},risingS p l=true->(p::l).Pairwise fun a b=>leS a b=true
 | p,[],_=>List.pairwise_singleton _ _
 | p,x::r,h=>by
  have h:(!ltCps x.cps.toList p.cps.toList&&risingS x r)=true:=h;rw[Bool.and_eq_true,ltCps_eq]at h;have h2:=rising_pw h.2;refine List.pairwise_cons.mpr ⟨fun b hb=>?_,h2⟩;rcases List.mem_cons.mp hb with rfl | hb
  ·exact h.1
  ·exact leS_trans _ _ _ h.1 (List.rel_of_pairwise_cons h2 hb)
theorem sorted_pw {l:List Str}(h:sortedS l=true):l.Pairwise fun a b=>leS a b=true:=by
 cases l with
 | nil=>exact .nil
 | cons x r=>exact rising_pw h
theorem sort_tracked {A:Around}{E:Value->Shared->Prop}(hu:A.units + 10 < cLine)(I:Inv X pins σ H s){l:Addr}{vs:List V}{ds ys:List D}(hl:H l=some (.lst vs))(r:Reps X.K ι H ds vs)(hs:sortD ds=some ys){Q:Value->Shared->Prop}
  (q:∀ (ws:List V) (s':Shared),Reps X.K ι H ys ws->Inv X pins σ (upd H l (.lst ws)) s'->Q .none s'):wpAny (model X.prog X.w) A (call (.builtin "list.sort") [.ref l]) Q E s:=by
 obtain⟨hz,its,n,rv,hg⟩:=I.hok l _ hl;have hlen:ds.length=its.length:=by rw[r.length,rv.length]
 have fin:∀ (ws:List V) (us:List Value) (h':Heap) (c:Nat),Reps X.K ι H ys ws->Vals ws us->ws.length<=sizeLine->(∀ b o,b≠l->s.heap.get? b=some o->h'.get? b=some o)->h'.get? l=some (seqObj "list" us.toArray c)->Q .none { s with heap:=h' }:=fun ws us h' c hr hv hw kk hg' =>
  q ws _ hr (I.write (x:=l) (e:=l) (t':=s.toks) (by rw[hl];trivial) (.inl rfl) kk ⟨_,hg'⟩ ⟨hw,us,c,hv,hg'⟩)
 refine wpAny_call_entry slot_list_sort ⟨_,hg,rfl⟩ entry_list_sort ?_ (args_list_sort _);have hout:∀ {out:Array Value} (b:Addr) (o:Obj),b≠l->s.heap.get? b=some o->(sortedHeap s.heap l its out).get? b=some o:=fun b o hb e=>by
  rw[sortedHeap_old hb (Heap.lt_size e)];exact e
 unfold sortD at hs;split at hs
 ·rename_i ys' hf
  split at hs
  ·rename_i h64
   cases hs;have h64':its.length < 64:=by rw[<- hlen];exact h64
   unfold sortF at hf;split at hf
   ·rename_i xs hx
    cases hf;have ex:=allS_eq hx;subst ex;have hS:=strsA r rv;refine list_sort_treeK strKind_oneLt hg hS.keysOf (fun v₁ v₂ rest e=>keyKind_strs (by rw[<- e];exact hS)) h64' fun st' hp hs=>?_;obtain⟨ss',h1,h2,h3⟩:=sorted_out_str hS hp hs;have e:=sortS_uniq h2 (sorted_pw h3);subst e;obtain⟨g1,g2⟩:=ofStrsA (X:=X) (H:=H) (ι:=ι) h1;obtain⟨c,hc⟩:=sortedHeap_at (out:=(arrOf st').map (·.2)) hg;exact⟨_,rfl,fin _ _ _ c g2 g1 (by rw[List.length_map,(sortS_perm xs).length_eq,sizeLine_eq];rw[List.length_map]at h64;omega) hout (by rw[hc])⟩
   ·split at hf
    ·rename_i xs hx
     cases hf;have ex:=allI_eq hx;subst ex;have hS:=intsA r rv;refine list_sort_tree hg hS h64' fun out ss' h1 h2 h3=>?_;have e:=sortI_uniq h2 h3;subst e;obtain⟨g1,g2⟩:=ofIntsA (X:=X) (H:=H) (ι:=ι) h1;obtain⟨c,hc⟩:=sortedHeap_at (out:=out) hg;exact⟨_,rfl,fin _ _ _ c g2 g1 (by rw[List.length_map,(sortI_perm xs).length_eq,sizeLine_eq];rw[List.length_map]at h64;omega) hout (by rw[hc])⟩
    ·cases hf
  ·cases hs
 unfold sortT at hs;split at hs
 ·rename_i h2
  cases hs;exact list_sort_small hg (by rw[<- hlen];exact h2) fun h' c kk hg'=>⟨_,rfl,fin vs its h' c r rv hz kk hg'⟩
 ·rename_i h2
  split at hs
  ·rename_i hb
   simp only[Bool.and_eq_true,decide_eq_true_eq,Bool.or_eq_true]at hb;cases he:evalK (cmpT ds) (PySem.W.kas_sort ds.length) with
   | none=>rw[he]at hs;cases hs
   | some p =>
    rw[he]at hs;simp only[Option.map_some,Option.some.injEq]at hs;subst hs;have key:∀ T:Value,(T==T)=true->(∀ d∈ds,∃ x xs,d=.tup (x::xs)/\∀ (v:V) (u:Value),Rep X.K ι H x v->RelV v u->typeOf u=pure T)->T≠.type "tuple" ->
      wpAny (model X.prog X.w) A.in1 (Builtin.«list.sort» ⟨[.ref l],[]⟩) (fun fin s'=>∃ v,fin=.done (.ret v)/\Q v s') E s:=fun T hT hd hne=>by
     obtain⟨fs,f1,f2,f3⟩:=firsts_of I r rv hd;have tk:∀ {h':Heap},(∀ b o,b≠l->s.heap.get? b=some o->h'.get? b=some o)->∀ b o,s.heap.get? b=some o->o.cls=.type "tuple"->h'.get? b=some o:=fun {h'} kk b o e hc=>kk b o (fun z=>by
      subst z;rw[hg]at e;cases e;exact absurd hc (by show ¬ (Value.type "list" = Value.type "tuple");decide)) e
     refine list_sort_any (κ:=tuples' (T != Value.type "tuple")) (lt:=cmpT ds) (p:=p) hg (by first | lia | omega) (by first | lia | omega) (fun h' kk Q' hq=>?_) (fun h' kk i j b C hlt hC=>?_) (by rw[<- hlen];exact he) (fun h' c hps kk hg'=>?_)
     ·exact PySem.W.kat_kind (f1 h' (tk kk)) (by rw[f2];omega) (fun f hf=>PySem.W.Looks.of_pure (f3 f hf)) hT hq
     ·unfold cmpT at hlt
      split at hlt
      ·rename_i xs ys hx hy
       obtain⟨v1,hv1,q1⟩:=r.get hx;obtain⟨v2,hv2,q2⟩:=r.get hy;obtain⟨u1,hu1,ru1⟩:=rv.get hv1;obtain⟨u2,hu2,ru2⟩:=rv.get hv2;have hmx:=hd _ (List.mem_of_getElem? hx);have hmy:=hd _ (List.mem_of_getElem? hy);obtain⟨vs1,us1,g1,g2,a1,o1,n1,e1,ho1,hc1,hd1⟩:=tupAt_of (d:=.non) I q1 ru1;obtain⟨vs2,us2,k1,k2,a2,o2,n2,e2,ho2,hc2,hd2⟩:=tupAt_of (d:=.non) I q2 ru2;unfold PySem.W.kas_ask;have z1:its.getD i Value.none=.ref a1:=by rw[List.getD_eq_getElem?_getD,hu1,e1];rfl
       have z2:its.getD j Value.none=.ref a2:=by rw[List.getD_eq_getElem?_getD,hu2,e2];rfl
       rw[z1,z2];refine PySem.W.kat_lt (s:={ s with heap:=h' }) (tk kk _ _ ho1 hc1) hd1 (tk kk _ _ ho2 hc2) hd2 ?_;refine lex_wp (X:=X) (xs:=xs) (ys:=ys) g1 k1 (by simpa using g2) (by simpa using k2) hlt ?_ hC ?_
       ·have l1:=g1.length
        have l2:=g2.length;have l3:=k1.length;have l4:=k2.length;simp only[List.size_toArray];congr 1;rw[eq_iff_iff];first | lia | omega
       ·intro _ _
        obtain⟨x,xr,ex,hx'⟩:=hmx;obtain⟨y,yr,ey,hy'⟩:=hmy;cases ex;cases ey;rcases hb.2 with z | z
        ·have a1:=List.all_eq_true.mp z _ (List.mem_of_getElem? hx)
         have a2:=List.all_eq_true.mp z _ (List.mem_of_getElem? hy);cases x <;> simp[firstStr]at a1;cases y <;> simp[firstStr]at a2;exact⟨_,_,_,_,rfl,rfl,.inl ⟨_,_,rfl,rfl⟩⟩
        ·have a1:=List.all_eq_true.mp z _ (List.mem_of_getElem? hx)
         have a2:=List.all_eq_true.mp z _ (List.mem_of_getElem? hy);cases x <;> simp[firstInt]at a1;cases y <;> simp[firstInt]at a2;exact⟨_,_,_,_,rfl,rfl,.inr ⟨_,_,rfl,rfl⟩⟩
      ·cases hlt
     ·refine⟨_,rfl,fin (p.toList.map fun i=>vs.getD i .non) _ h' c (reps_map (fun i=>reps_getD r i) _) (vals_map (fun i=>vals_getD rv i) _) ?_ kk hg'⟩
      rw[List.length_map,Array.length_toList,hps,sizeLine_eq];omega
    rcases hb.2 with z | z
    ·refine key (.type "str") (by decide) (fun d hd=>?_) (by decide)
     have a1:=List.all_eq_true.mp z _ hd;cases d <;> simp[firstStr]at a1;rename_i ds';cases ds' with
     | nil=>simp[firstStr]at a1
     | cons x xs =>
      cases x <;> simp[firstStr]at a1;refine⟨_,_,rfl,fun v u r1 r2=>?_⟩;cases r1;obtain⟨t,rfl⟩:=r2;rfl
    ·refine key (.type "int") (by decide) (fun d hd=>?_) (by decide)
     have a1:=List.all_eq_true.mp z _ hd;cases d <;> simp[firstInt]at a1;rename_i ds';cases ds' with
     | nil=>simp[firstInt]at a1
     | cons x xs =>
      cases x <;> simp[firstInt]at a1;refine⟨_,_,rfl,fun v u r1 r2=>?_⟩;cases r1;obtain⟨t,rfl⟩:=r2;rfl
  ·cases hs
end
end L3
namespace L3
open PySem PySem.Spec PyProof.Rows L2
section
variable {X:Cx}
noncomputable def rItems:V->List V->Hp->VK->Prop:=fun x vs H Q=>∃ a kvs,x=.ref a/\vs=[]/\H a=some (.dK kvs)/\∀ p,H p=none->Q (.ref p) (upd H p (.ext fun h=>h.IsItemsView p a))
theorem mt_items:MtR X "dict.items" rItems:=by
 intro pins s σ H x xs v us Q I rx rv h;obtain⟨a,kvs,rfl,rfl,ha,q⟩:=h;cases rx;cases rv;obtain⟨z,hd,vs,rel,dd⟩:=dk_rd I.hok (.inl ha);refine call_meetsIn PySem.F.slot_dict_items dd.typeIs PySem.F.entry_dict_items (PySem.F.args_dict_items_1 _) (meets_dict_items (mixKind X.prog X.w) a hd) ⟨⟨vs,dd⟩,?_⟩;refine⟨.ref s.heap.objs.size,_,I.laid (t':=s.toks) (o:=.ext fun h=>h.IsItemsView s.heap.objs.size a) (fun b o e=>Heap.get?_push_of_some _ e) (Nat.le_refl _) ?_,rfl,q _ (I.hok.fresh (Nat.le_refl _))⟩;exact⟨⟨_,Heap.get?_push_size _ rfl,rfl,rfl⟩,⟨_,Heap.get?_push_size _ rfl⟩,fun h1 h2 ⟨o,e1,e2⟩ k=>⟨o,k o e1,e2⟩⟩
theorem call_sortedI (hc:X.calm=true)(hu:X.A.units + 100 < cLine):CallR X (.builtin "sorted") (fun xs H Q=>∃ p a ws ι M kvs ys,xs=[.ref p]/\H p=some (.ext fun h=>h.IsItemsView p a)/\H a=some (.dK ws)/\Sim X.K ι M H/\KR X.K ι H kvs ws/\sortD (dicItems kvs)=some ys /\
  ∀ v H' ι',Rep X.K ι' H' (.ob M.length) v->Sim X.K ι' (M++[.lst ys]) H'->Ext X.K ι H ι' H'->Q v H'):=by
 intro pins s σ H xs us Q I rv h;obtain⟨p,a,ws,ι,M,kvs,ys,rfl,hp,ha,S,kr,hs,k⟩:=h;obtain⟨u,rfl,ru⟩:=vals1 rv;cases ru;obtain⟨z,hd,rs,rel,dd⟩:=dk_rd I.hok (.inl ha);obtain⟨ep,hat⟩:=dd.dictAt;obtain⟨vw,_,_⟩:=I.hok p _ hp;have hh:X.A.in1.handled=none:=I.ok.hd hc;have hlen:rs.length<=sizeLine:=by rw[<- rel.length];exact z
 refine Calls.call_function_entry kind_sorted plain_sorted entry_sorted (args_sorted1 _) ?_;unfold Builtin.«sorted»;refine wpAny_bind (m:=checkCount "sorted" 1 1 _) (wpAny_pure ?_);refine wpAny_bind (PySem.W.kdx_collect (A:=X.A.in1) (knd:=mixKind X.prog X.w) (kvs:=rs) (ep:=ep) hh vw hat hlen fun h' tk as hk hl hG=>?_);have I1:Inv X pins σ H { s with heap:=h',toks:=tk }:=I.kept hk;have hnd:as.Nodup:=hG.rise.imp fun hlt=>Nat.ne_of_lt hlt;obtain⟨H2,I2,S2,X2,R2⟩:=adopt_all kvs ws rs as H I1 S kr rel hl hnd (fun b hb=>⟨I.hok.fresh (Nat.le_of_lt (hG.above b hb)),young_of I (Nat.le_of_lt (hG.above b hb))⟩) hG.pairs;refine wpAny_bind (wpAny_newList ?_ (by rw[List.length_map,hl];exact hlen));have rvs:∀ l:List Addr,Vals (l.map V.ref) (l.map Value.ref):=fun l=>by
  induction l with
  | nil=>exact .nil
  | cons x r ih=>exact .cons rfl ih
 have fr:H2 h'.objs.size=none:=I2.hok.fresh (Nat.le_refl _);have I3:Inv X pins σ (upd H2 h'.objs.size (.lst (as.map V.ref))) { s with heap:=h'.push { cls:=.type "list",data:=.seq (as.map Value.ref).toArray },toks:=tk } :=
  I2.laid (fun b o e=>Heap.get?_push_of_some _ e) (Nat.le_refl _) ⟨by rw[List.length_map,hl];exact hlen,as.map Value.ref,0,rvs as,Heap.get?_push_size _ rfl⟩
 have X3:Ext X.K ι H2 (ι++[h'.objs.size]) (upd H2 h'.objs.size (.lst (as.map V.ref))):=Ext.new fr;have R3:=R2.mono (Ext.tupN (ho:=.lst (as.map V.ref)) fr);refine wpAny_bind (wpAny_holding (sort_tracked (ι:=ι) (by first | (show X.A.units + 1 + 10 < cLine;omega) | (show X.A.units + 10 < cLine;omega)) I3 upd_same R3 hs fun ws' s' hr hI=>?_))
 refine wpAny_pure ⟨_,rfl,?_⟩;rw[upd_upd]at hI;have X4:Ext X.K ι H2 (ι++[h'.objs.size]) (upd H2 h'.objs.size (.lst ws')):=Ext.new fr;have W:Ext X.K ι (upd H2 h'.objs.size (.lst (as.map V.ref))) ι (upd (upd H2 h'.objs.size (.lst (as.map V.ref))) h'.objs.size (.lst ws')):=Ext.write upd_same (mut_l _);rw[upd_upd]at W;have R4:Reps X.K (ι++[h'.objs.size]) (upd H2 h'.objs.size (.lst ws')) ys ws':=hr.mono { W with pre:=fun i b e=>(by rw[List.getElem?_append_left (List.getElem?_eq_some_iff.mp e).1];exact e) };exact⟨.ref h'.objs.size,_,hI,rfl,k _ _ _ (.ob (by rw[<- S.len,List.getElem?_append_right (Nat.le_refl _),Nat.sub_self];rfl)) (S2.new fr ⟨ws',rfl,R4⟩) (X2.trans X4)⟩
end
section
variable {X:Cx}
theorem call_sortedL (hu:X.A.units + 100 < cLine):CallR X (.builtin "sorted") (fun xs H Q=>∃ p vs ι M ds ys,xs=[.ref p]/\SqL X.K H p vs/\Sim X.K ι M H/\Reps X.K ι H ds vs/\sortD ds=some ys /\
  ∀ v H' ι',Rep X.K ι' H' (.ob M.length) v->Sim X.K ι' (M++[.lst ys]) H'->Ext X.K ι H ι' H'->Q v H'):=by
 intro pins s σ H xs us Q I rv h;obtain⟨p,vs,ι,M,ds,ys,rfl,hp,S,r,hs,k⟩:=h;obtain⟨u,rfl,ru⟩:=vals1 rv;cases ru;obtain⟨its,rel,pl,hz⟩:=I.list hp;have hl:its.length<=sizeLine:=by rw[<- rel.length];exact hz
 refine Calls.call_function_entry kind_sorted plain_sorted entry_sorted (args_sorted1 _) ?_;unfold Builtin.«sorted»;refine wpAny_bind (m:=checkCount "sorted" 1 1 _) (wpAny_pure ?_);refine wpAny_bind (collect_list pl.isList ?_ hl);generalize hh:(s.heap.push (seqObj "list" #[] 0)).update s.heap.objs.size (Obj.mapSeq (·++its.toArray))=h';have keep:∀ b o,s.heap.get? b=some o->h'.get? b=some o:=fun b o q=>by
  have hlt:b < s.heap.objs.size:=Heap.lt_size q;rw[<- hh,Heap.get?_update_ne _ _ _ _ (Nat.ne_of_lt hlt),Heap.get?_push_ne _ _ _ (Nat.ne_of_lt hlt)];exact q
 have I1:Inv X pins σ H { s with heap:=h' }:=I.kept (t':=s.toks) keep;refine wpAny_bind (wpAny_newList ?_ hl);have fr:H h'.objs.size=none:=I1.hok.fresh (Nat.le_refl _);have I3:Inv X pins σ (upd H h'.objs.size (.lst vs)) { s with heap:=h'.push { cls:=.type "list",data:=.seq its.toArray } } :=
  I1.laid (t':=s.toks) (fun b o e=>Heap.get?_push_of_some _ e) (Nat.le_refl _) ⟨hz,its,0,rel,Heap.get?_push_size _ rfl⟩
 have R3:=r.mono (Ext.tupN (ho:=.lst vs) fr);refine wpAny_bind (wpAny_holding (sort_tracked (ι:=ι) (by first | (show X.A.units + 1 + 10 < cLine;omega) | (show X.A.units + 10 < cLine;omega)) I3 upd_same R3 hs fun ws' s' hr hI=>?_))
 refine wpAny_pure ⟨_,rfl,?_⟩;rw[upd_upd]at hI;have X4:Ext X.K ι H (ι++[h'.objs.size]) (upd H h'.objs.size (.lst ws')):=Ext.new fr;have W:Ext X.K ι (upd H h'.objs.size (.lst vs)) ι (upd (upd H h'.objs.size (.lst vs)) h'.objs.size (.lst ws')):=Ext.write upd_same (mut_l _);rw[upd_upd]at W;have R4:Reps X.K (ι++[h'.objs.size]) (upd H h'.objs.size (.lst ws')) ys ws':=hr.mono { W with pre:=fun i b e=>(by rw[List.getElem?_append_left (List.getElem?_eq_some_iff.mp e).1];exact e) };exact⟨.ref h'.objs.size,_,hI,rfl,k _ _ _ (.ob (by rw[<- S.len,List.getElem?_append_right (Nat.le_refl _),Nat.sub_self];rfl)) (S.new fr ⟨ws',rfl,R4⟩) X4⟩
end
theorem srt_l {Γ:Ctx}(hs:Γ.srt=sortD):SrtL Γ:=by
 intro S X f a p1 p4 fa C h hp ha;simp only[Bool.and_eq_true,beq_iff_eq]at h;obtain⟨⟨⟨h1,h2⟩,h3⟩,h4⟩:=h;subst h1;obtain⟨o1,o2,o3⟩:=okName_debug h2;refine PE.imp (pe_callB (call_sortedL C.hu) (C.glo h3) (C.bls _ (mem_of_contains h4)) PyProof.Rows.boot_sorted (pa_cons ha pa_nil (star_plain hp)) o3 o1 (star_plain hp) rfl) fun σ H Q q=>?_;obtain⟨ι,ρ,M,d,M',S',R,e,k⟩:=q;obtain⟨x,M1,e1,ea⟩:=bind_ok e;obtain⟨ds,M2,e2,eb⟩:=bind_ok ea;obtain⟨ys,M3,e3,ec⟩:=bind_ok eb;obtain⟨hy,hM3⟩:=lift_ok e3;rw[hM3]at ec;refine⟨ι,ρ,M,x,M1,S',R,e1,fun v1 H1 ι1 r1 S1 X1=>?_⟩;have fact:M2=M1/\∃ p vs,v1=.ref p/\SqL X.K H1 p vs/\Reps X.K ι1 H1 ds vs:=by
  cases r1 with
  | fl t q=>obtain⟨rfl,rfl⟩:=pure_ok e2;exact⟨rfl,_,_,rfl,t.seq,q⟩
  | ob t =>
   obtain⟨g,rfl⟩:=getL_ok e2;obtain⟨p,ws,g1,g2,g3,g4⟩:=sim_list S1 (.ob t) g;exact⟨rfl,p,ws,g1,SqL.of g3,g4⟩
  | _=>exact(stop_ok e2).elim
 obtain⟨rfl,p,vs,rfl,hq,hr⟩:=fact;obtain⟨rfl,rfl⟩:=newM_ok ec;exact⟨p,vs,ι1,_,ds,ys,rfl,hq,S1,hr,by rw[<- hs];exact hy,fun v H' ι' r' S'' X'=>k v H' ι' r' S'' (X1.trans X')⟩
theorem srt_i {Γ:Ctx}(hs:Γ.srt=sortD):SrtI Γ:=by
 intro S X f m o p1 p2 p3 p4 fo C h ho hb;simp only[Bool.and_eq_true,beq_iff_eq]at h;obtain⟨⟨⟨⟨⟨h1,h2⟩,h3⟩,h4⟩,h5⟩,h6⟩:=h;subst h1 h2;obtain⟨o1,o2,o3⟩:=okName_debug h4;have pi:=pe_bm0 (X:=X) (apos:=p2) (cpos:=p3) PySem.F.plainAttrs_dict PySem.F.slot_dict_items PySem.F.type_dict_items mt_items ho (hb _ _) (by simpa using h3);refine PE.imp (pe_callB (call_sortedI C.calm C.hu) (C.glo h5) (C.bls _ (mem_of_contains h6)) PyProof.Rows.boot_sorted (pa_cons pi pa_nil) o3 o1) fun σ H Q q=>?_;obtain⟨ι,ρ,M,d,M',S',R,e,k⟩:=q;obtain⟨x,M1,e1,e⟩:=bind_ok e;refine⟨ι,ρ,M,x,M1,S',R,e1,fun v1 H1 ι1 r1 S1 X1=>?_⟩;cases r1 with
 | ob t =>
  rename_i k0 a0;obtain⟨kvs,M2,e2,e⟩:=bind_ok e;have e20:=getD_ok e2;obtain⟨g,hM⟩:=e20;rw[hM]at e;obtain⟨ys,M3,e3,e⟩:=bind_ok e;obtain⟨hy,hM3⟩:=lift_ok e3;rw[hM3]at e;obtain⟨rfl,rfl⟩:=newM_ok e;obtain⟨a,ws,g1,g2,g3,g4⟩:=sim_dict S1 (.ob t) g;cases g1;refine⟨.inr (.inr (.inl ⟨rfl,.inl ⟨ws,g3⟩⟩)),_,ws,rfl,rfl,g3,fun p hp=>?_⟩;have X2:Ext X.K ι1 H1 ι1 (upd H1 p (.ext fun h=>h.IsItemsView p a0)):=Ext.tupN hp;refine⟨p,a0,ws,ι1,M1,kvs,ys,rfl,upd_same,by rw[upd_ne (ne_of_none g3 hp)];exact g3,S1.tupN hp,KR.mono X2 g4,by rw[<- hs];exact hy,fun v H' ι' r' S'' X'=>k v H' ι' r' S'' ((X1.trans X2).trans X')⟩
 | _=>exact(stop_ok e).elim
end L3
namespace L3
open PySem PySem.Spec PyProof.Rows L2
section
variable {X:Cx}{pins:List (Addr×Obj)}{σ:St}{H:Hp}{s:Shared}
end
theorem srt_s {Γ:Ctx}:SrtS Γ:=trivial
theorem srt_d {Γ:Ctx}:SrtD Γ:=trivial
theorem srt_ok {Γ:Ctx}(hs:Γ.srt=sortD):SrtOk Γ:=⟨srt_i hs,srt_l hs,srt_s,srt_d⟩
end L3
namespace L3
open PySem PySem.Spec PySem.Calls PyProof.Rows L2
noncomputable def heapK (h:Heap):PySem.W.Frag:=(List.range h.objs.size).filterMap fun a=>(h.get? a).map fun o=>(a,o)
theorem look_fm {h:Heap}{a:Addr}:∀ l:List Nat,(l.filterMap fun a=>(h.get? a).map fun o=>(a,o)).lookup a=if a∈l then h.get? a else none
 | []=>rfl
 | b::l=>by
  rw[List.filterMap_cons];by_cases e:a=b
  ·subst e
   rw[if_pos (List.mem_cons_self ..)];cases g:h.get? a with
   | none =>
    simp only[Option.map_none];rw[look_fm l,g];split <;> rfl
   | some o=>simp only[Option.map_some,List.lookup_cons_self]
  ·have hb:(a==b)=false:=by simpa using e
   have hm:(a∈b::l)=(a∈l):=by simp[e]
   simp only[hm];cases g:h.get? b with
   | none=>simp only[Option.map_none];exact look_fm l
   | some o=>simp only[Option.map_some,List.lookup_cons,hb];exact look_fm l
theorem heapK_look {h:Heap}{a:Addr}{o:Obj}(e:h.get? a=some o):(heapK h).lookup a=some o:=by
 unfold heapK;rw[look_fm,if_pos,e];rw[List.mem_range];unfold Heap.get? at e;by_cases q:a < h.objs.size
 ·exact q
 ·rw[Array.getElem?_eq_none (Nat.le_of_not_lt q)]at e
  simp at e
theorem heapK_in (h:Heap):(heapK h).In h:=by
 intro a o e;unfold heapK at e;rw[look_fm]at e;split at e
 ·exact e
 ·cases e
theorem code_in {h:Heap}{cd:Value}{x:Str}(c:h.CodeRec cd x):PySem.W.codeIn (heapK h) cd x=true:=by
 obtain⟨c,o,vs,t,rfl,e,d,v⟩:=c;have e':=heapK_look e;obtain⟨oc,od,da,sl⟩:=o;cases d;unfold PySem.W.codeIn;simp only[e'];rw[<- Array.getElem?_toList]at v;cases q:vs.toList with
 | nil=>rw[q]at v;cases v
 | cons y r =>
  cases r with
  | nil=>rw[q]at v;cases v
  | cons z r =>
   rw[q]at v;cases v;simp
noncomputable def defPos:Stmt->Pos
 | .FunctionDef _ _ _ _ _ _ _ _ _ pos=>pos
 | _=>⟨0,0,0,0⟩
noncomputable def recT (x:Str)(st:Stmt):DefRec:=⟨x,defArgs st,defBody st,defScope st,defPos st⟩
section
variable {q:Program}{lo:List Str}{mean:ExcName->Option Value}{mg mb:Str->Option Value}{h:Heap}{es:List Ent}{gls bls:List Str}{gl:Str->Option D}
theorem DefR.mkT (T:Top q lo mean mg mb h){rs:List DefRec}(hr:recsOf q=rs)(i:Nat){e:Ent}(hm:rs[i]?=some (recT e.x e.st))
  (hb:∀ (kV doc pm:Value) (an:Option Addr) (cdv ct:Value) (us:List Value),us.length=e.ps.length->bindArgs (PySem.W.fnOf e.x e.x (defArgs e.st) (defBody e.st) (defScope e.st) .none kV doc pm an cdv ct) ⟨us,[]⟩=pure (e.ps.zip us))
  (S:FnScope e.N e.ps (defScope e.st)) (hc:cSs ⟨defScope e.st,e.N,es.map (·.x),gls,bls⟩ 200 (defBody e.st)=some e.b) (ht:(tabOf es).lookup e.x=some ⟨e.N.length,e.ps.length,e.b⟩):DefR (heapK h) mg es gls bls e:=by
 obtain⟨a,o,pm,code,doc,h1,h2,h3,h4⟩:=T.fn _ (List.mem_of_getElem? (hr ▸ hm));obtain⟨oc,od,da,sl⟩:=o;cases h3;have l:=heapK_look h2;have F:Fun (heapK h) e.x e.x e.st a _:=fun_mk (st:=e.st) (cdv:=code) l (code_in h4) (by unfold PySem.W.keepIn;simp only[l]);exact⟨a,_,F,h1,F.binds hb,S,hc,ht⟩
theorem GlR.strT (T:Top q lo mean mg mb h){x s:Str}(hv:valOf q x=some (.str s))(hg:gl x=some (.str s)):GlR (heapK h) mg gl x:=by
 obtain⟨v,h1,h2⟩:=T.const x _ hv;cases h2 h;exact⟨.str s,_,.str s,hg,h1,⟨_,rfl⟩,fun _ _=>.str s⟩
theorem GlR.intT (T:Top q lo mean mg mb h){x:Str}{i:Int}(hv:valOf q x=some (.int i))(hg:gl x=some (.int i)):GlR (heapK h) mg gl x:=by
 obtain⟨v,h1,h2⟩:=T.const x _ hv;cases h2 h;exact⟨.int i,_,.int i,hg,h1,⟨_,rfl⟩,fun _ _=>.int i⟩
noncomputable def freeB (q:Program)(lo bls:List Str):Bool:=bls.all fun x=>!(startupNames.contains x||lo.contains x||((recsOf q).map (·.name)).contains x||((litsOf q).map (·.1)).contains x||((clssOf q lo).map (·.name)).contains x)
theorem free_of (T:Top q lo mean mg mb h)(e:freeB q lo bls=true):∀ x∈bls,mg x=none:=by
 intro x hx
 have:=List.all_eq_true.mp e x hx
 simp only[Bool.not_eq_true',Bool.or_eq_false_iff,List.contains_eq_mem,decide_eq_false_iff_not]at this;obtain⟨⟨⟨⟨h1,h2⟩,h3⟩,h4⟩,h5⟩:=this;exact T.free x h1 h2 h3 h4 h5
theorem gd_kept {P:Program}{w:World}{x:Str}{ks:List (Str×Str)}(hn:h.Ns mainGlobals mg)(g:GdAt x ks w h):∃ a,mg x=some (.ref a)/\GdK (heapK h) P w a ks:=by
 obtain⟨a,ha,hs,g⟩:=g;obtain⟨vs,rel,o,es,ep,ho,r⟩:=g P;refine⟨a,?_,hs,vs,ep,rel,fun h' hi=>⟨o,es,hi a o (heapK_look ho),r⟩⟩;obtain⟨o',es',ep',h1,h2,_,h4⟩:=hn;rw[<- ha,<- h4 x];unfold Heap.nsMap;rw[h1];dsimp only;rw[h2]
variable {P:Program}{w:World}(hgd:∀ x,gdName x=true->∃ a d ks,gl x=some d/\gdKs d=some ks/\mg x=some (.ref a)/\GdK (heapK h) P w a ks)
include hgd
omit hgd in
theorem zk_kept {w:World}{st:Stmt}(hn:h.Ns mainGlobals mg)(z:ZAt st w h):∃ C D fI,ZK (heapK h) mg C D fI/\∃ oc od osl doc pm cdv,h.get? fI=some ⟨oc,od,.func (PySem.W.fnOf "__init__" "BadWord.__init__" (defArgs st) (defBody st) (defScope st) .none .none doc pm none cdv .none),osl⟩/\h.CodeRec cdv "BadWord.__init__":=by
 obtain⟨C,D,fI,c,d,zh,ot,f⟩:=z;have e:=hn.eq_nsMap;have k:∀ h':Heap,(heapK h).In h'->∀ b o,h.get? b=some o->h'.get? b=some o:=fun h' hi b o q=>hi b o (heapK_look q);refine⟨C,D,fI,⟨by rw[e];exact c,by rw[e];exact d,fun h' hi=>zh.keeps (k h' hi),fun x hx=>?_⟩,f⟩;obtain⟨B,b1,b2,b3,o,cd,b4,b5⟩:=ot x hx;exact⟨B,by rw[e];exact b1,b2,b3,fun h' hi=>⟨o,cd,k h' hi _ _ b4,b5⟩⟩
omit hgd in
theorem RfR.mkT {w:World}{sti:Stmt}(T:Top q lo mean mg mb h)(Y:ZAt sti w h){rs:List DefRec}(hr:recsOf q=rs)(i:Nat){st:Stmt}(hm:rs[i]?=some (recT "_law_refused" st)){p pI:Nat->Pos}
  (hb:∀ (kV doc pm:Value) (an:Option Addr) (cdv ct:Value) (us:List Value),us.length=3->bindArgs (PySem.W.fnOf "_law_refused" "_law_refused" (defArgs st) (defBody st) (defScope st) .none kV doc pm an cdv ct) ⟨us,[]⟩=pure (rfPs.zip us))
  (hbI:∀ (kV doc pm:Value) (an:Option Addr) (cdv ct:Value) (us:List Value),us.length=2->bindArgs (PySem.W.fnOf "__init__" "BadWord.__init__" (defArgs sti) (defBody sti) (defScope sti) .none kV doc pm an cdv ct) ⟨us,[]⟩=pure ((["self","at"]:List Str).zip us))
  (S:FnScope rfN rfPs (defScope st)) (hbd:defBody st=rfBody p) (sc:RfSc (defScope st)) (SI:FnScope ["self","at"] ["self","at"] (defScope sti)) (hbdI:defBody sti=atBody pI) (scI:∀ x∈(["self","at"]:List Str),(defScope sti).names.lookup x=some .local)
  (hi:mg "isinstance" = none) (hv:mg "ValueError" = none) (hre:mg "repr" = none) (ra:∀ n,∃ e∈es,e.x=rfF n/\e.ps.length=1/\zokSs 200 (defBody e.st) e.b=true):∃ C D fI,RfR (heapK h) mg es C D fI:=by
 obtain⟨C,D,fI,Z,oc',od',osl',doc',pm',cdv',f1,f2⟩:=zk_kept T.g Y;obtain⟨a,o,pm,code,doc,h1,h2,h3,h4⟩:=T.fn _ (List.mem_of_getElem? (hr ▸ hm));obtain⟨oc,od,da,sl⟩:=o;cases h3;have l:=heapK_look h2;have F:Fun (heapK h) "_law_refused" "_law_refused" st a _:=fun_mk (st:=st) (cdv:=code) l (code_in h4) (by unfold PySem.W.keepIn;simp only[l]);have lI:=heapK_look f1;have FI:Fun (heapK h) "__init__" "BadWord.__init__" sti fI _:=fun_mk (st:=sti) (cdv:=cdv') lI (code_in f2) (by unfold PySem.W.keepIn;simp only[lI]);exact⟨C,D,fI,Z,hi,hv,hre,⟨_,sti,pI,FI,FI.binds hbI,SI,hbdI,scI⟩,⟨a,_,st,p,F,h1,F.binds hb,S,hbd,sc⟩,ra⟩
theorem law_mkT {C Dd fI:Addr}(hrf:RfR (heapK h) mg es C Dd fI){srt:List D->Option (List D)}{wh:Nat}(hsrt:∀ k,SrtOk (CtxN (tabOf es) gl srt wh k))(hd:∀ e∈es,DefR (heapK h) mg es gls bls e)(hg:∀ x∈gls,GlR (heapK h) mg gl x)(hb:∀ x∈bls,mg x=none)(k:Nat){e:Ent}(he:e∈es){x:Str}(hx:e.ps=[x])
  (hb1:∀ (kV doc pm:Value) (an:Option Addr) (cdv ct u:Value),bindArgs (PySem.W.fnOf e.x e.x (defArgs e.st) (defBody e.st) (defScope e.st) .none kV doc pm an cdv ct) ⟨[u],[]⟩=pure [(x,u)]) {fa:Addr} (hfa:mg e.x=some (.ref fa)) :
  ∃ fd:FuncData,(∀ (s:Shared) (u:Value),BindsTo s fd ⟨[u],[]⟩ [(x,u)])/\∀ base:Heap,(heapK h).In base->base.Ns mainGlobals mg->FnOk P w (heapK h) mg base CX0 (k + 2) fa fd [x] (spOf (heapK h) 1 ((CtxN (tabOf es) gl srt wh k).fn e.x)):=by
 obtain⟨fa',fd,F,hm,_⟩:=hd e he;rw[hfa]at hm;cases hm;refine⟨fd,fun s u=>?_,fun base _ _=>?_⟩
 ·obtain⟨_,_,kV,doc,pm,an,cdv,ct,_,rfl,_⟩:=F.ex
  exact .of_eq (hb1 kV doc pm an cdv ct u)
 ·have:=law_fn (P:=P) (w:=w) (base:=base) hgd hrf hsrt hd hg hb k he F hfa
  rw[hx]at this;exact this
end
theorem walkY {l:PySem.W.OpenLaw}{q:Program}{loose:List Str}{XP:(Str->Option Value)->Heap->Prop}{YP:World->Heap->Prop}{d:DefRec}{x:Str}{k:Nat}{g:List D->Mo D}(hk:Room k callerA)(hn:l.most=some 63)(hdf:d.params.defaults=[])
  (hg:∀ ns:List Int,ns.length<=63->∃ M',g [.fl (ns.map .int)] []=some (.ok (.bl true),M'))
  (F:∀ (w:World) (mean:ExcName->Option Value) (mg mb:Str->Option Value) (fa:Addr) (h:Heap),Top q (PySem.W.looseW q loose) mean mg mb h->YP w h->mg d.name=some (.ref fa) ->
   ∃ fd:FuncData,(∀ (s:Shared) (u:Value),BindsTo s fd ⟨[u],[]⟩ [(x,u)])/\∀ base:Heap,(heapK h).In base->base.Ns mainGlobals mg->FnOk l.prog w (heapK h) mg base CX0 k fa fd [x] (spOf (heapK h) 1 g)) :
  PySem.W.WalkO q loose XP YP l.row.toRowW d [] (fun f vs=>PySem.call f vs):=by
 refine Att.attach_call hn hdf fun w s₀ s₁ mg mb fa o pm cd doc a vs ns G Y ho hd hcd hmg hobj hints hlen hg'=>?_;obtain⟨fd,hb,hF⟩:=F w _ mg mb fa _ G.T Y hmg;exact law_call (heapK_in _) G.T.g G.T.b G.T.builtins G.T.nolimit hg' hobj hints (Nat.le_trans hlen (by decide)) hk hF hb (fun H hO hS=>sp_law hO hS (hg ns hlen)) fun _ _ _ z=>z
end L3
namespace L3
open PySem
theorem q_semE_var {Γ:Ctx}:∀ i ρ,semE Γ (.var i) ρ=(varD ρ i):=fun _ _=>rfl
theorem q_semE_cint {Γ:Ctx}:∀ i ρ,semE Γ (.cint i) ρ=(pure (.int i)):=fun _ _=>rfl
theorem q_semE_cbl {Γ:Ctx}:∀ b ρ,semE Γ (.cbl b) ρ=(pure (.bl b)):=fun _ _=>rfl
theorem q_semE_cnon {Γ:Ctx}:∀ ρ,semE Γ (.cnon) ρ=(pure .non):=fun _=>rfl
theorem q_semE_cstr {Γ:Ctx}:∀ x ρ,semE Γ (.cstr x) ρ=(pure (.str x)):=fun _ _=>rfl
theorem q_semE_glb {Γ:Ctx}:∀ x ρ,semE Γ (.glb x) ρ=(lift (Γ.gl x)):=fun _ _=>rfl
theorem q_semE_bin {Γ:Ctx}:∀ op a b ρ,semE Γ (.bin op a b) ρ=(do let x <- semE Γ a ρ;let y <- semE Γ b ρ;opD op x y):=fun _ _ _ _=>rfl
theorem q_semE_cmp {Γ:Ctx}:∀ op a b ρ,semE Γ (.cmp op a b) ρ=(do let x <- semE Γ a ρ;let y <- semE Γ b ρ;let k <- cmpD op x y;pure (.bl k)):=fun _ _ _ _=>rfl
theorem q_semE_cmp2 {Γ:Ctx}:∀ op op' a b c ρ,semE Γ (.cmp2 op op' a b c) ρ=(do
  let x <- semE Γ a ρ
  let y <- semE Γ b ρ
  let k <- cmpD op x y
  if k=true then do let z <- semE Γ c ρ;let k' <- cmpD op' y z;pure (.bl k') else pure (.bl false)):=fun _ _ _ _ _ _=>rfl
theorem q_semE_and {Γ:Ctx}:∀ a b ρ,semE Γ (.and a b) ρ=(do let x <- semE Γ a ρ;let k <- lift (boolD x);if k=true then semE Γ b ρ else pure (.bl false)):=fun _ _ _=>rfl
theorem q_semE_or {Γ:Ctx}:∀ a b ρ,semE Γ (.or a b) ρ=(do let x <- semE Γ a ρ;let k <- lift (boolD x);if k=true then pure (.bl true) else semE Γ b ρ):=fun _ _ _=>rfl
theorem q_semE_not {Γ:Ctx}:∀ a ρ,semE Γ (.not a) ρ=(do let x <- semE Γ a ρ;let k <- lift (boolD x);pure (.bl (!k))):=fun _ _=>rfl
theorem q_semE_ifE {Γ:Ctx}:∀ c a b ρ,semE Γ (.ifE c a b) ρ=(do let k <- semC Γ c ρ;if k=true then semE Γ a ρ else semE Γ b ρ):=fun _ _ _ _=>rfl
theorem q_semE_tup {Γ:Ctx}:∀ es ρ,semE Γ (.tup es) ρ=(do let xs <- semEs Γ es ρ;need (xs.length<=sizeLine);pure (.tup xs)):=fun _ _=>rfl
theorem q_semE_lst {Γ:Ctx}:∀ es ρ,semE Γ (.lst es) ρ=(do let xs <- semEs Γ es ρ;need (xs.length<=sizeLine);newM (.lst xs)):=fun _ _=>rfl
theorem q_semE_dic0 {Γ:Ctx}:∀ ρ,semE Γ (.dic0) ρ=(newM (.dic [])):=fun _=>rfl
theorem q_semE_idx {Γ:Ctx}:∀ a b ρ,semE Γ (.idx a b) ρ=(do let x <- semE Γ a ρ;let y <- semE Γ b ρ;getIx x y):=fun _ _ _=>rfl
theorem q_semE_slc {Γ:Ctx}:∀ a lo hi ρ,semE Γ (.slc a lo hi) ρ=(do let x <- semE Γ a ρ;let l <- semO Γ lo ρ;let h <- semO Γ hi ρ;sliceD x l h):=fun _ _ _ _=>rfl
theorem q_semE_call {Γ:Ctx}:∀ f es ρ,semE Γ (.call f es) ρ=(do let xs <- semEs Γ es ρ;Γ.fn f xs):=fun _ _ _=>rfl
theorem q_semE_blt {Γ:Ctx}:∀ b es ρ,semE Γ (.blt b es) ρ=(do let xs <- semEs Γ es ρ;blD b xs):=fun _ _ _=>rfl
theorem q_semE_sortItems {Γ:Ctx}:∀ a ρ,semE Γ (.sortItems a) ρ=(do
  let x <- semE Γ a ρ
  (match x with
  | .ob k=>do let kvs <- getD k;let ys <- lift (Γ.srt (dicItems kvs));newM (.lst ys)
  | _=>Mo.stop)):=fun _ _=>rfl
theorem q_semE_comp {Γ:Ctx}:∀ j it c e ρ,semE Γ (.comp j it c e) ρ=(do
  let s <- semT Γ it ρ
  need (s.ds.length<=sizeLine)
  let ys <- compD s.ck (semCo Γ c) (semE Γ e) (ρ.set j none) s.ds
  newM (.lst ys)):=fun _ _ _ _ _=>rfl
theorem q_semE_sortL {Γ:Ctx}:∀ a ρ,semE Γ (.sortL a) ρ=(do
  let x <- semE Γ a ρ
  let ds <- lstD x
  let ys <- lift (Γ.srt ds)
  newM (.lst ys)):=fun _ _=>rfl
theorem q_semE_intB {Γ:Ctx}:∀ a ρ,semE Γ (.intB a) ρ=(do let x <- semE Γ a ρ;let b <- lift (boolD x);pure (.int (if b then 1 else 0))):=fun _ _=>rfl
theorem q_semE_rep {Γ:Ctx}:∀ a ρ,semE Γ (.rep a) ρ=(do let x <- semE Γ a ρ;reprO x):=fun _ _=>rfl
theorem q_semE_neg {Γ:Ctx}:∀ a ρ,semE Γ (.neg a) ρ=(do
  let x <- semE Γ a ρ
  (match x with
  | .int i=>pure (.int (-i))
  | _=>Mo.stop)):=fun _ _=>rfl
theorem q_semE_isI {Γ:Ctx}:∀ a t ρ,semE Γ (.isI a t) ρ=(do let x <- semE Γ a ρ;let k <- tyD t x;pure (.bl k)):=fun _ _ _=>rfl
theorem q_semE_mth {Γ:Ctx}:∀ m a es ρ,semE Γ (.mth m a es) ρ=(do let x <- semE Γ a ρ;rcvD m x;let xs <- semEs Γ es ρ;mtD m x xs):=fun _ _ _ _=>rfl
theorem q_semEs_nil {Γ:Ctx}:∀ ρ,semEs Γ (.nil) ρ=(pure []):=fun _=>rfl
theorem q_semEs_cons {Γ:Ctx}:∀ e es ρ,semEs Γ (.cons e es) ρ=(do let x <- semE Γ e ρ;let xs <- semEs Γ es ρ;pure (x::xs)):=fun _ _ _=>rfl
theorem q_semO_none {Γ:Ctx}:∀ ρ,semO Γ (.none) ρ=(pure none):=fun _=>rfl
theorem q_semO_some {Γ:Ctx}:∀ e ρ,semO Γ (.some e) ρ=(do
  let x <- semE Γ e ρ
  (match x with
  | .int i=>pure (some i)
  | _=>Mo.stop)):=fun _ _=>rfl
theorem q_semT_seq {Γ:Ctx}:∀ e ρ,semT Γ (.seq e) ρ=(do let x <- semE Γ e ρ;srcD x):=fun _ _=>rfl
theorem q_semT_rng1 {Γ:Ctx}:∀ a ρ,semT Γ (.rng1 a) ρ=(do
  let x <- semE Γ a ρ
  (match x with
  | .int i=>do need (small i);pure ⟨none,rngD 0 i⟩
  | _=>Mo.stop)):=fun _ _=>rfl
theorem q_semT_rng2 {Γ:Ctx}:∀ a b ρ,semT Γ (.rng2 a b) ρ=(do
  let x <- semE Γ a ρ
  let y <- semE Γ b ρ
  (match x,y with
  | .int i,.int j=>do need (small i/\small j);pure ⟨none,rngD i j⟩
  | _,_=>Mo.stop)):=fun _ _ _=>rfl
theorem q_semC_cmp {Γ:Ctx}:∀ e ρ,semC Γ (.cmp e) ρ=(do let x <- semE Γ e ρ;lift (boolD x)):=fun _ _=>rfl
theorem q_semC_tru {Γ:Ctx}:∀ e ρ,semC Γ (.tru e) ρ=(do let x <- semE Γ e ρ;truD x):=fun _ _=>rfl
theorem q_semC_not {Γ:Ctx}:∀ c ρ,semC Γ (.not c) ρ=(do let k <- semC Γ c ρ;pure (!k)):=fun _ _=>rfl
theorem q_semC_and {Γ:Ctx}:∀ a b ρ,semC Γ (.and a b) ρ=(do let k <- semC Γ a ρ;if k=true then semC Γ b ρ else pure false):=fun _ _ _=>rfl
theorem q_semC_or {Γ:Ctx}:∀ a b ρ,semC Γ (.or a b) ρ=(do let k <- semC Γ a ρ;if k=true then pure true else semC Γ b ρ):=fun _ _ _=>rfl
theorem q_semCo_none {Γ:Ctx}:∀ ρ,semCo Γ (.none) ρ=(pure true):=fun _=>rfl
theorem q_semCo_some {Γ:Ctx}:∀ c ρ,semCo Γ (.some c) ρ=(semC Γ c ρ):=fun _ _=>rfl
theorem q_semP_seq {Γ:Ctx}:∀ e ρ,semP Γ (.seq e) ρ=(do let x <- semE Γ e ρ;srcD x):=fun _ _=>rfl
theorem q_semP_enum {Γ:Ctx}:∀ e ρ,semP Γ (.enum e) ρ=(do let x <- semE Γ e ρ;enumS x):=fun _ _=>rfl
theorem q_semS_set {Γ:Ctx}:∀ i e ρ,semS Γ (.set i e) ρ=(do let x <- semE Γ e ρ;pure (.nx (ρ.set i (some x)))):=fun _ _ _=>rfl
theorem q_semS_setIx {Γ:Ctx}:∀ o i e ρ,semS Γ (.setIx o i e) ρ=(do let v <- semE Γ e ρ;let x <- semE Γ o ρ;let y <- semE Γ i ρ;setIx x y v;pure (.nx ρ)):=fun _ _ _ _=>rfl
theorem q_semS_expr {Γ:Ctx}:∀ e ρ,semS Γ (.expr e) ρ=(do let _ <- semE Γ e ρ;pure (.nx ρ)):=fun _ _=>rfl
theorem q_semS_ret {Γ:Ctx}:∀ e ρ,semS Γ (.ret e) ρ=(do let x <- semE Γ e ρ;pure (.rt x)):=fun _ _=>rfl
theorem q_semS_retN {Γ:Ctx}:∀ ρ,semS Γ (.retN) ρ=(pure (.rt .non)):=fun _=>rfl
theorem q_semS_pass {Γ:Ctx}:∀ ρ,semS Γ (.pass) ρ=(pure (.nx ρ)):=fun _=>rfl
theorem q_semS_brk {Γ:Ctx}:∀ ρ,semS Γ (.brk) ρ=(pure (.bk ρ)):=fun _=>rfl
theorem q_semS_cnt {Γ:Ctx}:∀ ρ,semS Γ (.cnt) ρ=(pure (.ct ρ)):=fun _=>rfl
theorem q_semS_halt {Γ:Ctx}:∀ ρ,semS Γ (.halt) ρ=(Mo.stop):=fun _=>rfl
theorem q_semS_ifS {Γ:Ctx}:∀ c a b ρ,semS Γ (.ifS c a b) ρ=(do let k <- semC Γ c ρ;if k=true then semSs Γ a ρ else semSs Γ b ρ):=fun _ _ _ _=>rfl
theorem q_semS_forS {Γ:Ctx}:∀ i it b ρ,semS Γ (.forS i it b) ρ=(do let s <- semT Γ it ρ;loopD s.ck i (semSs Γ b) s.ds ρ):=fun _ _ _ _=>rfl
theorem q_semS_forP {Γ:Ctx}:∀ i j it b ρ,semS Γ (.forP i j it b) ρ=(do let s <- semP Γ it ρ;loopP s.ck i j (semSs Γ b) s.ds ρ):=fun _ _ _ _ _=>rfl
theorem q_semS_whileS {Γ:Ctx}:∀ c b ρ,semS Γ (.whileS c b) ρ=(whileD (semC Γ c) (semSs Γ b) Γ.wh ρ):=fun _ _ _=>rfl
theorem q_semSs_nil {Γ:Ctx}:∀ ρ,semSs Γ (.nil) ρ=(pure (.nx ρ)):=fun _=>rfl
theorem q_semSs_cons {Γ:Ctx}:∀ s r ρ,semSs Γ (.cons s r) ρ=(do
  let f <- semS Γ s ρ
  (match f with
  | .nx ρ'=>semSs Γ r ρ'
  | .rt v=>pure (.rt v)
  | .bk ρ'=>pure (.bk ρ')
  | .ct ρ'=>pure (.ct ρ'))):=fun _ _ _=>rfl
end L3
namespace L3
open PySem
theorem need_run {p:Prop}[Decidable p](h:p)(M:MH):need p M=some (.ok (),M):=by unfold need;rw[if_pos h];rfl
theorem lift_run {α:Type}(a:α)(M:MH):lift (some a) M=some (.ok a,M):=rfl
theorem getM_run {i:Nat}{o:MO}{M:MH}(h:M[i]?=some o):getM i M=some (.ok o,M):=by unfold getM;rw[h]
theorem getL_run {i:Nat}{ds:List D}{M:MH}(h:M[i]?=some (.lst ds)):getL i M=some (.ok ds,M):=by unfold getL;rw[h]
theorem getD_run {i:Nat}{ds:List (Ky×D)}{M:MH}(h:M[i]?=some (.dic ds)):getD i M=some (.ok ds,M):=by unfold getD;rw[h]
theorem newM_run (o:MO)(M:MH):newM o M=some (.ok (.ob M.length),M++[o]):=rfl
theorem putM_run {i:Nat}{o:MO}{M:MH}(h:i < M.length):putM i o M=some (.ok (),M.set i o):=by unfold putM;rw[if_pos h]
theorem atD_nat {α:Type}{xs:List α}{j:Nat}{v:α}(h:xs[j]?=some v):atD xs (j:Int)=some v:=by
 have hj:j < xs.length:=(List.getElem?_eq_some_iff.mp h).1;unfold atD ixD;rw[if_pos (by first | lia | omega),if_pos (by first | lia | omega)]
 simpa using h
theorem get_new (M:MH)(o:MO):(M++[o])[M.length]?=some o:=by simp
structure Gr (M M':MH):Prop where
 keep:∀ (i:Nat) (o:MO),M[i]?=some o->M'[i]?=some o
 len:M.length<=M'.length
theorem Gr.refl {M:MH}:Gr M M:=⟨fun _ _ h=>h,Nat.le_refl _⟩
theorem Gr.trans {M M1 M2:MH}(a:Gr M M1)(b:Gr M1 M2):Gr M M2:=⟨fun i o e=>b.keep i o (a.keep i o e),Nat.le_trans a.len b.len⟩
theorem Gr.app (M X:MH):Gr M (M++X):=⟨fun i o e=>by rw[List.getElem?_append_left (List.getElem?_eq_some_iff.mp e).1];exact e,by rw[List.length_append];omega⟩
theorem Gr.snoc {M M1:MH}(g:Gr M M1)(o:MO):Gr M (M1++[o]):=g.trans (Gr.app _ _)
theorem Gr.set {M M1:MH}(g:Gr M M1){j:Nat}(h:M.length<=j)(o:MO):Gr M (M1.set j o):=⟨fun i q e=>by
 have hi:i < M.length:=(List.getElem?_eq_some_iff.mp e).1;rw[List.getElem?_set_ne (by first | lia | omega)]
 exact g.keep i q e,by rw[List.length_set];exact g.len⟩
theorem set_get {M:MH}{j:Nat}{o q:MO}(h:M[j]?=some q):(M.set j o)[j]?=some o:=List.getElem?_set_self (List.getElem?_eq_some_iff.mp h).1
theorem lt_of_get {α:Type}{M:List α}{j:Nat}{q:α}(h:M[j]?=some q):j < M.length:=(List.getElem?_eq_some_iff.mp h).1
theorem mapM_bools (bs:List Bool):(bs.map D.bl).mapM boolD=some bs:=by
 induction bs with
 | nil=>rfl
 | cons b r ih=>rw[List.map_cons,List.mapM_cons,ih];rfl
theorem mapM_strs (bs:List Str):(bs.map D.str).mapM strD=some bs:=by
 induction bs with
 | nil=>rfl
 | cons b r ih=>rw[List.map_cons,List.mapM_cons,ih];rfl
theorem ev_var {Γ:Ctx}{ρ:Ev}{M:MH}{d:D}{i:Nat}(h:ρ[i]?=some (some d)):semE Γ (.var i) ρ M=some (.ok d,M):=by
 show varD ρ i M=_;unfold varD;rw[h];rfl
theorem rng_len {lo hi:Int}:(rngD lo hi).length=(hi - lo).toNat:=by unfold rngD;rw[List.length_map,List.length_range]
theorem rng_get {lo hi:Int}{j:Nat}{d:D}(h:(rngD lo hi)[j]?=some d):d=.int (lo + j)/\j < (hi - lo).toNat:=by
 unfold rngD at h;rw[List.getElem?_map]at h;cases q:(List.range (hi - lo).toNat)[j]? with
 | none=>rw[q]at h;cases h
 | some n =>
  rw[q]at h;obtain⟨h1,h2⟩:=List.getElem?_eq_some_iff.mp q;rw[List.length_range]at h1;rw[List.getElem_range]at h2;subst h2;cases h;exact⟨rfl,h1⟩
end L3
namespace L3
open PySem
theorem atD_in {α:Type}{xs:List α}{i:Int}(h0:0<=i)(h1:i < xs.length):∃ v,atD xs i=some v/\v∈xs:=by
 obtain⟨n,rfl⟩:=Int.eq_ofNat_of_zero_le h0;have hj:n < xs.length:=by first | lia | omega
 exact⟨xs[n],atD_nat (List.getElem?_eq_getElem hj),List.getElem_mem hj⟩
theorem len_app (x y:Str):(x++y).length=x.length + y.length:=by
 show (x.cps++y.cps).size=x.cps.size + y.cps.size;simp
theorem len_toList (x:Str):x.cps.toList.length=x.length:=by simp[Str.length]
theorem len_cut (x:Str)(lo hi:Option Int):(Str.length ⟨(cutD x.cps.toList lo hi).toArray⟩)<=x.length:=by
 show ((cutD x.cps.toList lo hi).toArray).size<=x.length;unfold cutD;simp[Str.length];first | lia | omega
theorem line_big:(100000:Nat)<=sizeLine:=by unfold sizeLine;decide
end L3
namespace L3
open PySem
noncomputable def Wp {α:Type}(m:Mo α)(M:MH)(Q:α->MH->Prop):Prop:=∃ a M',m M=some (.ok a,M')/\Q a M'
inductive Dum {α:Type} (Q:α->MH->Prop):Type where
 | mk
noncomputable def W {α:Type}(m:Mo α)(M:MH)(Q:α->MH->Prop)(_:Dum Q:=.mk):Prop:=Wp m M Q
theorem W_eq {α:Type}{m:Mo α}{M:MH}{Q R:α->MH->Prop}(h:∀ a M,Q a M=R a M):W m M Q=W m M R:=by
 have:Q=R:=funext fun a=>funext fun M=>h a M
 subst this;rfl
theorem W.mono {α:Type}{m:Mo α}{M:MH}{Q R:α->MH->Prop}(h:W m M Q)(f:∀ a M',Q a M'->R a M'):W m M R:=by
 obtain⟨a,M',e,q⟩:=h;exact⟨a,M',e,f a M' q⟩
theorem W.of {α:Type}{m:Mo α}{M M':MH}{a:α}{Q:α->MH->Prop}(e:m M=some (.ok a,M'))(q:Q a M'):W m M Q:=⟨a,M',e,q⟩
theorem w_pure {α:Type}(a:α)(M:MH)(Q:α->MH->Prop):W (pure a:Mo α) M Q=Q a M:=by
 refine propext ⟨fun ⟨b,M',e,q⟩=>?_,fun q=>⟨a,M,rfl,q⟩⟩;cases e;exact q
theorem w_ret {α:Type}(a:α)(M:MH)(Q:α->MH->Prop):W (fun M=>some (.ok a,M)) M Q=Q a M:=w_pure a M Q
theorem w_bind {α β:Type}(m:Mo α)(k:α->Mo β)(M:MH)(Q:β->MH->Prop):W (m >>= k) M Q=W m M fun a M'=>W (k a) M' Q:=by
 refine propext ⟨fun ⟨b,M',e,q⟩=>?_,fun ⟨a,M1,e,b,M2,e2,q⟩=>⟨b,M2,by rw[ok_bind e];exact e2,q⟩⟩;obtain⟨a,M1,e1,e2⟩:=bind_ok e;exact⟨a,M1,e1,b,M',e2,q⟩
theorem w_need {p:Prop}[Decidable p](M:MH)(Q:Unit->MH->Prop):W (need p) M Q=(p/\Q () M):=by
 refine propext ⟨fun ⟨b,M',e,q⟩=>?_,fun ⟨hp,q⟩=>⟨(),M,need_run hp M,q⟩⟩;unfold need at e;split at e
 ·rename_i hp
  cases e;exact⟨hp,q⟩
 ·cases e
theorem w_lift {α:Type}(o:Option α)(M:MH)(Q:α->MH->Prop):W (lift o) M Q = ∃ a,o=some a/\Q a M:=by
 refine propext ⟨fun ⟨b,M',e,q⟩=>?_,fun ⟨a,ho,q⟩=>⟨a,M,by rw[ho];rfl,q⟩⟩;cases o with
 | none=>cases e
 | some a=>cases e;exact⟨_,rfl,q⟩
theorem w_getM (i:Nat)(M:MH)(Q:MO->MH->Prop):W (getM i) M Q = ∃ o,M[i]?=some o/\Q o M:=by
 refine propext ⟨fun ⟨b,M',e,q⟩=>?_,fun ⟨a,ho,q⟩=>⟨a,M,getM_run ho,q⟩⟩;unfold getM at e;split at e
 ·rename_i o h;cases e;exact⟨_,h,q⟩
 ·cases e
theorem w_getL (i:Nat)(M:MH)(Q:List D->MH->Prop):W (getL i) M Q = ∃ ds,M[i]?=some (.lst ds)/\Q ds M:=by
 refine propext ⟨fun ⟨b,M',e,q⟩=>?_,fun ⟨a,ho,q⟩=>⟨a,M,getL_run ho,q⟩⟩;unfold getL at e;split at e
 ·rename_i o h;cases e;exact⟨_,h,q⟩
 ·cases e
theorem w_getD (i:Nat)(M:MH)(Q:List (Ky×D)->MH->Prop):W (getD i) M Q = ∃ ds,M[i]?=some (.dic ds)/\Q ds M:=by
 refine propext ⟨fun ⟨b,M',e,q⟩=>?_,fun ⟨a,ho,q⟩=>⟨a,M,getD_run ho,q⟩⟩;unfold getD at e;split at e
 ·rename_i o h;cases e;exact⟨_,h,q⟩
 ·cases e
theorem w_newM (o:MO)(M:MH)(Q:D->MH->Prop):W (newM o) M Q=Q (.ob M.length) (M++[o]):=by
 refine propext ⟨fun ⟨b,M',e,q⟩=>?_,fun q=>⟨_,_,newM_run o M,q⟩⟩;cases e;exact q
theorem w_putM (i:Nat)(o:MO)(M:MH)(Q:Unit->MH->Prop):W (putM i o) M Q=(i < M.length/\Q () (M.set i o)):=by
 refine propext ⟨fun ⟨b,M',e,q⟩=>?_,fun ⟨h,q⟩=>⟨_,_,putM_run h,q⟩⟩;unfold putM at e;split at e
 ·rename_i h;cases e;exact⟨h,q⟩
 ·cases e
theorem w_stop {α:Type}(M:MH)(Q:α->MH->Prop):W (Mo.stop:Mo α) M Q=False:=by
 refine propext ⟨fun ⟨b,M',e,q⟩=>?_,fun q=>q.elim⟩;cases e
theorem w_if {α:Type}(b:Bool)(m n:Mo α)(M:MH)(Q:α->MH->Prop):W (if b=true then m else n) M Q=((b=true->W m M Q)/\(b=false->W n M Q)):=by
 cases b <;> simp
section
variable {α β:Type}
theorem v_pure (a:α)(M:MH)(Q:α->MH->Prop):Wp (pure a:Mo α) M Q=Q a M:=w_pure a M Q
theorem v_bind (m:Mo α)(k:α->Mo β)(M:MH)(Q:β->MH->Prop):Wp (m >>= k) M Q=Wp m M fun a M'=>Wp (k a) M' Q:=w_bind m k M Q
theorem v_need {p:Prop}[Decidable p](M:MH)(Q:Unit->MH->Prop):Wp (need p) M Q=(p/\Q () M):=w_need M Q
theorem v_lift (o:Option α)(M:MH)(Q:α->MH->Prop):Wp (lift o) M Q = ∃ a,o=some a/\Q a M:=w_lift o M Q
theorem v_getM (i:Nat)(M:MH)(Q:MO->MH->Prop):Wp (getM i) M Q = ∃ o,M[i]?=some o/\Q o M:=w_getM i M Q
theorem v_getL (i:Nat)(M:MH)(Q:List D->MH->Prop):Wp (getL i) M Q = ∃ ds,M[i]?=some (.lst ds)/\Q ds M:=w_getL i M Q
theorem v_getD (i:Nat)(M:MH)(Q:List (Ky×D)->MH->Prop):Wp (getD i) M Q = ∃ ds,M[i]?=some (.dic ds)/\Q ds M:=w_getD i M Q
theorem v_newM (o:MO)(M:MH)(Q:D->MH->Prop):Wp (newM o) M Q=Q (.ob M.length) (M++[o]):=w_newM o M Q
theorem v_putM (i:Nat)(o:MO)(M:MH)(Q:Unit->MH->Prop):Wp (putM i o) M Q=(i < M.length/\Q () (M.set i o)):=w_putM i o M Q
theorem v_stop (M:MH)(Q:α->MH->Prop):Wp (Mo.stop:Mo α) M Q=False:=w_stop M Q
theorem v_if (b:Bool)(m n:Mo α)(M:MH)(Q:α->MH->Prop):Wp (if b=true then m else n) M Q=((b=true->Wp m M Q)/\(b=false->Wp n M Q)):=w_if b m n M Q
end
section
variable {Γ:Ctx}{ρ:Ev}{M:MH}{a b c:IE}{Q:D->MH->Prop}{es:IEs}
theorem we_var {i:Nat}:W (semE Γ (.var i) ρ) M Q = ∃ d,ρ[i]?=some (some d)/\Q d M:=by
 refine propext ⟨fun ⟨b,M',e,q⟩=>?_,fun ⟨d,h,q⟩=>⟨d,M,ev_var h,q⟩⟩;simp only[q_semE_var]at e;unfold varD at e;cases h:ρ[i]? with
 | none=>rw[h]at e;cases e
 | some o =>
  rw[h]at e;cases o with
  | none=>cases e
  | some d=>cases e;exact⟨_,rfl,q⟩
theorem we_int {i:Int}:W (semE Γ (.cint i) ρ) M Q=Q (.int i) M:=w_pure _ M Q
theorem we_bl {i:Bool}:W (semE Γ (.cbl i) ρ) M Q=Q (.bl i) M:=w_pure _ M Q
theorem we_non:W (semE Γ .cnon ρ) M Q=Q .non M:=w_pure _ M Q
theorem we_str {i:Str}:W (semE Γ (.cstr i) ρ) M Q=Q (.str i) M:=w_pure _ M Q
theorem we_glb {i:Str}:W (semE Γ (.glb i) ρ) M Q = ∃ d,Γ.gl i=some d/\Q d M:=w_lift _ M Q
theorem we_bin {op:Operator}:W (semE Γ (.bin op a b) ρ) M Q=W (semE Γ a ρ) M fun x M1=>W (semE Γ b ρ) M1 fun y M2=>W (opD op x y) M2 Q:=by
 delta W;simp only[q_semE_bin,v_bind]
theorem we_cmp {op:CmpOp}:W (semE Γ (.cmp op a b) ρ) M Q=W (semE Γ a ρ) M fun x M1=>W (semE Γ b ρ) M1 fun y M2=>W (cmpD op x y) M2 fun k M3=>Q (.bl k) M3:=by
 delta W;simp only[q_semE_cmp,v_bind,v_pure]
theorem we_cmp2 {op op':CmpOp}:W (semE Γ (.cmp2 op op' a b c) ρ) M Q=W (semE Γ a ρ) M fun x M1=>W (semE Γ b ρ) M1 fun y M2=>W (cmpD op x y) M2 fun k M3=>(k=true->W (semE Γ c ρ) M3 fun z M4=>W (cmpD op' y z) M4 fun k' M5=>Q (.bl k') M5)/\(k=false->Q (.bl false) M3):=by
 delta W;simp only[q_semE_cmp2,v_bind,v_pure,v_if]
theorem we_and:W (semE Γ (.and a b) ρ) M Q=W (semE Γ a ρ) M fun x M1=>∃ k,boolD x=some k/\(k=true->W (semE Γ b ρ) M1 Q)/\(k=false->Q (.bl false) M1):=by
 delta W;simp only[q_semE_and,v_bind,v_pure,v_if,v_lift]
theorem we_ifE {q:IC}:W (semE Γ (.ifE q a b) ρ) M Q=W (semC Γ q ρ) M fun k M1=>(k=true->W (semE Γ a ρ) M1 Q)/\(k=false->W (semE Γ b ρ) M1 Q):=by
 delta W;simp only[q_semE_ifE,v_bind,v_if]
theorem we_tup:W (semE Γ (.tup es) ρ) M Q=W (semEs Γ es ρ) M fun xs M1=>xs.length<=sizeLine/\Q (.tup xs) M1:=by
 delta W;simp only[q_semE_tup,v_bind,v_pure,v_need]
theorem we_lst:W (semE Γ (.lst es) ρ) M Q=W (semEs Γ es ρ) M fun xs M1=>xs.length<=sizeLine/\Q (.ob M1.length) (M1++[.lst xs]):=by
 delta W;simp only[q_semE_lst,v_bind,v_newM,v_need]
theorem we_dic0:W (semE Γ .dic0 ρ) M Q=Q (.ob M.length) (M++[.dic []]):=w_newM _ M Q
theorem we_idx:W (semE Γ (.idx a b) ρ) M Q=W (semE Γ a ρ) M fun x M1=>W (semE Γ b ρ) M1 fun y M2=>W (getIx x y) M2 Q:=by
 delta W;simp only[q_semE_idx,v_bind]
theorem we_slc {lo hi:IEo}:W (semE Γ (.slc a lo hi) ρ) M Q=W (semE Γ a ρ) M fun x M1=>W (semO Γ lo ρ) M1 fun l M2=>W (semO Γ hi ρ) M2 fun h M3=>W (sliceD x l h) M3 Q:=by
 delta W;simp only[q_semE_slc,v_bind]
theorem we_call {f:Str}:W (semE Γ (.call f es) ρ) M Q=W (semEs Γ es ρ) M fun xs M1=>W (Γ.fn f xs) M1 Q:=by
 delta W;simp only[q_semE_call,v_bind]
theorem q_semE_rfs {Γ:Ctx}:∀ es ρ,semE Γ (.rfs es) ρ=(do let xs <- semEs Γ es ρ;rfD Γ xs):=fun _ _=>rfl
theorem we_rfs:W (semE Γ (.rfs es) ρ) M Q=W (semEs Γ es ρ) M fun xs M1=>∃ M2,Γ.rf xs M1=some M2/\Q (.bl true) M2:=by
 rw[q_semE_rfs,w_bind];refine W_eq (fun xs M1=>?_);refine propext ⟨fun ⟨d,M',e,q⟩=>?_,fun ⟨M2,e,q⟩=>⟨_,M2,by unfold rfD;rw[e],q⟩⟩;unfold rfD at e;cases h:Γ.rf xs M1 with
 | none=>rw[h]at e;cases e
 | some M2=>rw[h]at e;cases e;exact⟨_,rfl,q⟩
theorem we_bwc:W (semE Γ .bwc ρ) M Q=Q (.bl true) M:=w_pure _ M Q
theorem we_blt {f:Bl}:W (semE Γ (.blt f es) ρ) M Q=W (semEs Γ es ρ) M fun xs M1=>W (blD f xs) M1 Q:=by
 delta W;simp only[q_semE_blt,v_bind]
theorem we_comp {j:Nat}{it:IT}{cc:ICo}:W (semE Γ (.comp j it cc a) ρ) M Q=W (semT Γ it ρ) M fun s M1=>s.ds.length<=sizeLine/\W (compD s.ck (semCo Γ cc) (semE Γ a) (ρ.set j none) s.ds) M1 fun ys M2=>Q (.ob M2.length) (M2++[.lst ys]):=by
 delta W;simp only[q_semE_comp,v_bind,v_newM,v_need]
theorem wes_nil {Q:List D->MH->Prop}:W (semEs Γ .nil ρ) M Q=Q [] M:=w_pure _ M Q
theorem wes_cons {Q:List D->MH->Prop}:W (semEs Γ (.cons a es) ρ) M Q=W (semE Γ a ρ) M fun x M1=>W (semEs Γ es ρ) M1 fun xs M2=>Q (x::xs) M2:=by
 delta W;simp only[q_semEs_cons,v_bind,v_pure]
theorem wo_none {Q:Option Int->MH->Prop}:W (semO Γ .none ρ) M Q=Q none M:=w_pure _ M Q
theorem wo_some {Q:Option Int->MH->Prop}:W (semO Γ (.some a) ρ) M Q=W (semE Γ a ρ) M fun x M1=>∃ i,x=.int i/\Q (some i) M1:=by
 delta W;simp only[q_semO_some,v_bind];refine congrArg _ (funext fun x=>funext fun M1=>?_);cases x <;> simp[v_stop,v_pure]
theorem wt_seq {Q:Src->MH->Prop}:W (semT Γ (.seq a) ρ) M Q=W (semE Γ a ρ) M fun x M1=>W (srcD x) M1 Q:=by
 delta W;simp only[q_semT_seq,v_bind]
theorem wt_rng1 {Q:Src->MH->Prop}:W (semT Γ (.rng1 a) ρ) M Q=W (semE Γ a ρ) M fun x M1=>∃ i,x=.int i/\small i/\Q ⟨none,rngD 0 i⟩ M1:=by
 delta W;simp only[q_semT_rng1,v_bind];refine congrArg _ (funext fun x=>funext fun M1=>?_);cases x <;> simp[v_stop,v_pure,v_bind,v_need]
section
variable {Q:Bool->MH->Prop}{q r:IC}
theorem wc_cmp:W (semC Γ (.cmp a) ρ) M Q=W (semE Γ a ρ) M fun x M1=>∃ k,boolD x=some k/\Q k M1:=by delta W;simp only[q_semC_cmp,v_bind,v_lift]
theorem wc_tru:W (semC Γ (.tru a) ρ) M Q=W (semE Γ a ρ) M fun x M1=>W (truD x) M1 Q:=by delta W;simp only[q_semC_tru,v_bind]
theorem wc_not:W (semC Γ (.not q) ρ) M Q=W (semC Γ q ρ) M fun k M1=>Q (!k) M1:=by delta W;simp only[q_semC_not,v_bind,v_pure]
theorem wc_and:W (semC Γ (.and q r) ρ) M Q=W (semC Γ q ρ) M fun k M1=>(k=true->W (semC Γ r ρ) M1 Q)/\(k=false->Q false M1):=by delta W;simp only[q_semC_and,v_bind,v_if,v_pure]
theorem wc_or:W (semC Γ (.or q r) ρ) M Q=W (semC Γ q ρ) M fun k M1=>(k=true->Q true M1)/\(k=false->W (semC Γ r ρ) M1 Q):=by delta W;simp only[q_semC_or,v_bind,v_if,v_pure]
theorem wco_none:W (semCo Γ .none ρ) M Q=Q true M:=w_pure _ M Q
theorem wco_some:W (semCo Γ (.some q) ρ) M Q=W (semC Γ q ρ) M Q:=by delta W;simp only[q_semCo_some]
end
section
variable {Q:Fl->MH->Prop}{s:IS}{r s1 s2:ISs}{q:IC}
noncomputable def nxt (Γ:Ctx)(r:ISs)(Q:Fl->MH->Prop)(f:Fl)(M:MH):Prop:=match f with
 | .nx ρ=>W (semSs Γ r ρ) M Q
 | .rt v=>Q (.rt v) M
 | .bk ρ=>Q (.bk ρ) M
 | .ct ρ=>Q (.ct ρ) M
theorem nxt_nx:nxt Γ r Q (.nx ρ) M=W (semSs Γ r ρ) M Q:=rfl
theorem nxt_rt {v:D}:nxt Γ r Q (.rt v) M=Q (.rt v) M:=rfl
theorem nxt_bk:nxt Γ r Q (.bk ρ) M=Q (.bk ρ) M:=rfl
theorem nxt_ct:nxt Γ r Q (.ct ρ) M=Q (.ct ρ) M:=rfl
theorem ws_nil:W (semSs Γ .nil ρ) M Q=Q (.nx ρ) M:=w_pure _ M Q
theorem ws_cons:W (semSs Γ (.cons s r) ρ) M Q=W (semS Γ s ρ) M (nxt Γ r Q):=by
 delta W;simp only[q_semSs_cons,v_bind];refine congrArg _ (funext fun f=>funext fun M1=>?_);cases f <;> simp[nxt,v_pure,W]
theorem ws_set {i:Nat}:W (semS Γ (.set i a) ρ) M Q=W (semE Γ a ρ) M fun x M1=>Q (.nx (ρ.set i (some x))) M1:=by delta W;simp only[q_semS_set,v_bind,v_pure]
theorem ws_setIx:W (semS Γ (.setIx a b c) ρ) M Q=W (semE Γ c ρ) M fun v M1=>W (semE Γ a ρ) M1 fun x M2=>W (semE Γ b ρ) M2 fun y M3=>W (setIx x y v) M3 fun _ M4=>Q (.nx ρ) M4:=by delta W;simp only[q_semS_setIx,v_bind,v_pure]
theorem ws_expr:W (semS Γ (.expr a) ρ) M Q=W (semE Γ a ρ) M fun _ M1=>Q (.nx ρ) M1:=by delta W;simp only[q_semS_expr,v_bind,v_pure]
theorem ws_ret:W (semS Γ (.ret a) ρ) M Q=W (semE Γ a ρ) M fun x M1=>Q (.rt x) M1:=by delta W;simp only[q_semS_ret,v_bind,v_pure]
theorem ws_retN:W (semS Γ .retN ρ) M Q=Q (.rt .non) M:=w_pure _ M Q
theorem ws_pass:W (semS Γ .pass ρ) M Q=Q (.nx ρ) M:=w_pure _ M Q
theorem ws_brk:W (semS Γ .brk ρ) M Q=Q (.bk ρ) M:=w_pure _ M Q
theorem ws_cnt:W (semS Γ .cnt ρ) M Q=Q (.ct ρ) M:=w_pure _ M Q
theorem ws_if:W (semS Γ (.ifS q s1 s2) ρ) M Q=W (semC Γ q ρ) M fun k M1=>(k=true->W (semSs Γ s1 ρ) M1 Q)/\(k=false->W (semSs Γ s2 ρ) M1 Q):=by delta W;simp only[q_semS_ifS,v_bind,v_if]
noncomputable def selS:Bool->ISs->ISs->ISs
 | true,a,_=>a
 | false,_,b=>b
theorem sel_t {a b:ISs}:selS true a b=a:=rfl
theorem sel_f {a b:ISs}:selS false a b=b:=rfl
theorem ws_sel:W (semS Γ (.ifS q s1 s2) ρ) M Q=W (semC Γ q ρ) M fun k M1=>W (semSs Γ (selS k s1 s2) ρ) M1 Q:=by
 rw[ws_if];refine congrArg _ (funext fun k=>funext fun M1=>?_);cases k <;> simp[selS]
theorem ws_for {i:Nat}{it:IT}:W (semS Γ (.forS i it s1) ρ) M Q=W (semT Γ it ρ) M fun s M1=>W (loopD s.ck i (semSs Γ s1) s.ds ρ) M1 Q:=by delta W;simp only[q_semS_forS,v_bind]
end
noncomputable def endF (Q:D->MH->Prop)(f:Fl)(M:MH):Prop:=match f with
 | .nx _=>Q .non M
 | .rt v=>Q v M
 | _=>False
theorem end_nx:endF Q (.nx ρ) M=Q .non M:=rfl
theorem end_rt {v:D}:endF Q (.rt v) M=Q v M:=rfl
theorem wf {n p:Nat}{b:ISs}{xs:List D}:W (do need (xs.length=p);semF Γ n b xs:Mo D) M Q=(xs.length=p/\W (semSs Γ b (xs.map some++List.replicate (n - xs.length) none)) M (endF Q)):=by
 rw[w_bind,w_need];unfold semF;rw[w_bind];refine congrArg _ (W_eq fun f M1=>?_);cases f <;> simp[endF,w_pure,w_stop]
end
end L3
namespace L3
open PySem
section
variable {M:MH}{Q:D->MH->Prop}{B:Bool->MH->Prop}{U:Unit->MH->Prop}{S:Src->MH->Prop}{x y v:D}
theorem p_addI {i j:Int}:W (opD .Add (.int i) (.int j)) M Q=Q (.int (i + j)) M:=w_pure _ M Q
theorem p_subI {i j:Int}:W (opD .Sub (.int i) (.int j)) M Q=Q (.int (i - j)) M:=w_pure _ M Q
theorem p_addS {i j:Str}:W (opD .Add (.str i) (.str j)) M Q=(i.length + j.length<=sizeLine/\Q (.str (i++j)) M):=by
 show W (need _ >>= fun _=>pure _) M Q=_;rw[w_bind,w_need,w_pure]
theorem p_addL {i j:Nat}:W (opD .Add (.ob i) (.ob j)) M Q = ∃ xs,M[i]?=some (.lst xs)/\∃ ys,M[j]?=some (.lst ys)/\xs.length + ys.length<=sizeLine/\Q (.ob M.length) (M++[.lst (xs++ys)]):=by
 show W (getL i >>= fun xs=>getL j >>= fun ys=>need _ >>= fun _=>newM _) M Q=_;delta W;simp only[v_bind,v_getL,v_need,v_newM]
theorem p_mul {i j:Int}:W (opD .Mult (.int i) (.int j)) M Q=(((-(2 ^ 64) < i/\i < 2 ^ 64)\/(-(2 ^ 64) < j/\j < 2 ^ 64))/\Q (.int (i * j)) M):=by
 show W (need _ >>= fun _=>pure _) M Q=_;rw[w_bind,w_need,w_pure]
theorem p_div {i j:Int}:W (opD .FloorDiv (.int i) (.int j)) M Q=((0 < j/\j < 1073741824)/\Q (.int (i / j)) M):=by
 show W (need _ >>= fun _=>pure _) M Q=_;rw[w_bind,w_need,w_pure]
theorem p_mod {i j:Int}:W (opD .Mod (.int i) (.int j)) M Q=(0 < j/\Q (.int (i % j)) M):=by
 show W (need _ >>= fun _=>pure _) M Q=_;rw[w_bind,w_need,w_pure]
theorem p_eq:W (cmpD .Eq x y) M B = ∃ b,eqO M 20 x y=some b/\B b M:=by
 show W (eqMo x y) M B=_;refine propext ⟨fun ⟨b,M',e,q⟩=>?_,fun ⟨b,e,q⟩=>⟨b,M,by unfold eqMo;rw[e],q⟩⟩;unfold eqMo at e;cases h:eqO M 20 x y with
 | none=>rw[h]at e;cases e
 | some k=>rw[h]at e;cases e;exact⟨_,rfl,q⟩
theorem eo_flat {n:Nat}(h1:flatD x=true)(h2:flatD y=true):eqO M (n + 1) x y=some (eqF x y):=by
 cases x <;> cases y <;> first | exact absurd h1 Bool.false_ne_true | exact absurd h2 Bool.false_ne_true | rfl
theorem eo_int {n:Nat}{i j:Int}:eqO M (n + 1) (.int i) (.int j)=some (i==j):=rfl
theorem eo_str {n:Nat}{i j:Str}:eqO M (n + 1) (.str i) (.str j)=some (i==j):=rfl
theorem eo_bl {n:Nat}{i j:Bool}:eqO M (n + 1) (.bl i) (.bl j)=some (i==j):=rfl
theorem eo_nn {n:Nat}:eqO M (n + 1) .non .non=some true:=rfl
theorem eo_ns {n:Nat}{j:Str}:eqO M (n + 1) .non (.str j)=some false:=rfl
theorem eo_sn {n:Nat}{j:Str}:eqO M (n + 1) (.str j) .non=some false:=rfl
theorem eo_tup {n:Nat}{i j:List D}:eqO M (n + 1) (.tup i) (.tup j)=eqL (eqO M n) i j:=rfl
theorem eo_nil {n:Nat}{i j:Nat}{xs:List D}(h1:M[i]?=some (.lst xs))(h2:M[j]?=some (.lst [])):eqO M (n + 1) (.ob i) (.ob j)=some xs.isEmpty:=by
 show (match M[i]?,M[j]? with
   | some (.lst xs),some (.lst ys)=>if xs.length=ys.length then eqL (eqO M n) xs ys else some false
   | _,_=>none)=_
 rw[h1,h2];cases xs <;> rfl
theorem p_eqI {i j:Int}:W (cmpD .Eq (.int i) (.int j)) M B=B (i==j) M:=by rw[p_eq];simp[eo_int]
theorem p_eqS {i j:Str}:W (cmpD .Eq (.str i) (.str j)) M B=B (i==j) M:=by rw[p_eq];simp[eo_str]
theorem p_ltI {i j:Int}:W (cmpD .Lt (.int i) (.int j)) M B=B (decide (i < j)) M:=w_pure _ M B
theorem p_leI {i j:Int}:W (cmpD .LtE (.int i) (.int j)) M B=B (decide (i<=j)) M:=w_pure _ M B
theorem p_gtI {i j:Int}:W (cmpD .Gt (.int i) (.int j)) M B=B (decide (j < i)) M:=w_pure _ M B
theorem p_geI {i j:Int}:W (cmpD .GtE (.int i) (.int j)) M B=B (decide (j<=i)) M:=w_pure _ M B
theorem p_leS {i j:Str}:W (cmpD .LtE (.str i) (.str j)) M B=B (!decide (j.cps.toList < i.cps.toList)) M:=w_pure _ M B
theorem p_ltS {i j:Str}:W (cmpD .Lt (.str i) (.str j)) M B=B (decide (i.cps.toList < j.cps.toList)) M:=w_pure _ M B
theorem p_in:W (cmpD .In x y) M B=W (inD x y) M B:=rfl
theorem p_notIn:W (cmpD .NotIn x y) M B=W (inD x y) M fun k M1=>B (!k) M1:=by
 show W (inD x y >>= fun b=>pure (!b)) M B=_;delta W;simp only[v_bind,v_pure]
theorem p_inS {i j:Str}:W (inD (.str i) (.str j)) M B=B (strOcc j i) M:=w_pure _ M B
theorem w_inMo {ds:List D}:W (inMo x ds) M B = ∃ b,inL M x ds=some b/\B b M:=by
 refine propext ⟨fun ⟨b,M',e,q⟩=>?_,fun ⟨b,e,q⟩=>⟨b,M,by unfold inMo;rw[e],q⟩⟩;unfold inMo at e;cases h:inL M x ds with
 | none=>rw[h]at e;cases e
 | some k=>rw[h]at e;cases e;exact⟨_,rfl,q⟩
theorem inL_flat (h1:flatD x=true):∀ {ds:List D},ds.all flatD=true->inL M x ds=some (ds.any fun d=>eqF d x)
 | [],_=>rfl
 | d::ds,h=>by
  rw[List.all_cons,Bool.and_eq_true]at h;unfold inL;rw[eo_flat h.1 h1,inL_flat h1 h.2];rfl
theorem p_inT {ds:List D}:W (inD x (.tup ds)) M B = ∃ b,inL M x ds=some b/\B b M:=w_inMo
theorem p_inO {i:Nat}:W (inD x (.ob i)) M B = ∃ o,M[i]?=some o/\W (match o with
  | .lst ds=>inMo x ds
  | .dic kvs=>(do let k <- lift (kyD x);pure (kvGet kvs k).isSome)
  ) M B:=by
 exact(w_bind (getM i) _ M B).trans (w_getM i M _)
theorem p_is:W (cmpD .Is x y) M B=(isN y=true/\B (isN x) M):=by
 show W (need _ >>= fun _=>pure _) M B=_;rw[w_bind,w_need,w_pure]
theorem g_tup {ds:List D}{i:Int}:W (getIx (.tup ds) (.int i)) M Q = ∃ d,atD ds i=some d/\Q d M:=w_lift _ M Q
theorem g_fl {ds:List D}{i:Int}:W (getIx (.fl ds) (.int i)) M Q = ∃ d,atD ds i=some d/\Q d M:=w_lift _ M Q
theorem g_str {t:Str}{i:Int}:W (getIx (.str t) (.int i)) M Q=(t.length<=sizeLine/\∃ c,atD t.cps.toList i=some c/\Q (sgn c) M):=by
 show W (need _ >>= fun _=>lift (atD t.cps.toList i) >>= fun c=>pure (sgn c)) M Q=_;delta W;simp only[v_bind,v_need,v_lift,v_pure]
noncomputable def obIx (o:MO)(y:D)(M:MH)(Q:D->MH->Prop):Prop:=match o with
 | .lst ds=>∃ i,y=.int i/\∃ d,atD ds i=some d/\Q d M
 | .dic kvs=>∃ k,kyD y=some k/\∃ d,kvGet kvs k=some d/\Q d M
theorem g_obl {ds:List D}{i:Int}:obIx (.lst ds) (.int i) M Q = ∃ d,atD ds i=some d/\Q d M:=by simp[obIx]
theorem g_obd {kvs:List (Ky×D)}:obIx (.dic kvs) y M Q = ∃ k,kyD y=some k/\∃ d,kvGet kvs k=some d/\Q d M:=rfl
theorem g_ob {j:Nat}:W (getIx (.ob j) y) M Q = ∃ o,M[j]?=some o/\obIx o y M Q:=by
 have e:getIx (.ob j) y=(getM j >>= fun o=>(match o with
  | .lst ds=>(match y with
   | .int i=>lift (atD ds i)
   | _=>Mo.stop)
  | .dic kvs=>(do let q <- lift (kyD y);lift (kvGet kvs q))
  ):Mo D):=by cases y <;> rfl
 rw[e,w_bind,w_getM];refine congrArg _ (funext fun o=>congrArg _ ?_);cases o with
 | lst ds=>cases y <;> simp[obIx,w_stop,w_lift]
 | dic kvs=>simp[obIx,w_bind,w_lift]
noncomputable def obSet (j:Nat)(o:MO)(y v:D)(M:MH)(U:Unit->MH->Prop):Prop:=match o with
 | .lst ds=>∃ i,y=.int i/\∃ n,ixD ds.length i=some n/\U () (M.set j (.lst (ds.set n v)))
 | .dic kvs=>∃ k,kyD y=some k/\kvs.length < sizeLine/\U () (M.set j (.dic (kvPut kvs k v)))
theorem t_obl {j:Nat}{ds:List D}{i:Int}:obSet j (.lst ds) (.int i) v M U = ∃ n,ixD ds.length i=some n/\U () (M.set j (.lst (ds.set n v))):=by simp[obSet]
theorem t_obd {j:Nat}{kvs:List (Ky×D)}:obSet j (.dic kvs) y v M U = ∃ k,kyD y=some k/\kvs.length < sizeLine/\U () (M.set j (.dic (kvPut kvs k v))):=rfl
theorem t_ob {j:Nat}:W (setIx (.ob j) y v) M U = ∃ o,M[j]?=some o/\obSet j o y v M U:=by
 show W (getM j >>= _) M U=_;rw[w_bind,w_getM];refine congrArg _ (funext fun o=>?_);refine propext (and_congr_right fun h=>?_);have hl:j < M.length:=(List.getElem?_eq_some_iff.mp h).1;cases o with
 | lst ds=>cases y <;> simp[obSet,w_stop,w_lift,w_bind,w_putM,hl]
 | dic kvs=>simp[obSet,w_bind,w_lift,w_need,w_putM,hl]
theorem z_str {t:Str}{lo hi:Option Int}:W (sliceD (.str t) lo hi) M Q=(t.length<=sizeLine/\Q (.str ⟨(cutD t.cps.toList lo hi).toArray⟩) M):=by
 show W (need _ >>= fun _=>pure _) M Q=_;rw[w_bind,w_need,w_pure]
theorem z_lst {j:Nat}{lo hi:Option Int}:W (sliceD (.ob j) lo hi) M Q = ∃ ds,M[j]?=some (.lst ds)/\Q (.ob M.length) (M++[.lst (cutD ds lo hi)]):=by
 show W (getL j >>= fun ds=>newM _) M Q=_;delta W;simp only[v_bind,v_getL,v_newM]
theorem z_tup {ds:List D}{lo hi:Option Int}:W (sliceD (.tup ds) lo hi) M Q=Q (.tup (cutD ds lo hi)) M:=w_pure _ M Q
theorem z_fl {ds:List D}{lo hi:Option Int}:W (sliceD (.fl ds) lo hi) M Q=Q (.ob M.length) (M++[.lst (cutD ds lo hi)]):=w_newM _ M Q
theorem k_lenS {t:Str}:W (blD .len [.str t]) M Q=(t.length<=sizeLine/\Q (.int t.length) M):=by
 show W (need _ >>= fun _=>pure _) M Q=_;rw[w_bind,w_need,w_pure]
noncomputable def lenO (o:MO):Int:=match o with
 | .lst ds=>ds.length
 | .dic kvs=>kvs.length
theorem k_lenO {j:Nat}:W (blD .len [.ob j]) M Q = ∃ o,M[j]?=some o/\Q (.int (lenO o)) M:=by
 show W (getM j >>= _) M Q=_;rw[w_bind,w_getM];refine congrArg _ (funext fun o=>congrArg _ ?_);cases o <;> simp[lenO,w_pure]
theorem k_lenl {ds:List D}:lenO (.lst ds)=ds.length:=rfl
theorem k_lend {ds:List (Ky×D)}:lenO (.dic ds)=ds.length:=rfl
theorem k_lenT {ds:List D}:W (blD .len [.tup ds]) M Q=Q (.int ds.length) M:=w_pure _ M Q
theorem k_lenF {ds:List D}:W (blD .len [.fl ds]) M Q=Q (.int ds.length) M:=w_pure _ M Q
theorem k_tupL {j:Nat}:W (blD .tuple [.ob j]) M Q = ∃ ds,M[j]?=some (.lst ds)/\Q (.tup ds) M:=by
 show W (getL j >>= fun ds=>pure _) M Q=_;delta W;simp only[v_bind,v_getL,v_pure]
theorem k_all {j:Nat}:W (blD .all [.ob j]) M Q = ∃ ds,M[j]?=some (.lst ds)/\∃ bs,ds.mapM boolD=some bs/\Q (.bl (bs.all id)) M:=by
 show W (getL j >>= fun ds=>lift (ds.mapM boolD) >>= fun bs=>pure _) M Q=_;delta W;simp only[v_bind,v_getL,v_lift,v_pure]
theorem k_any {j:Nat}:W (blD .any [.ob j]) M Q = ∃ ds,M[j]?=some (.lst ds)/\∃ bs,ds.mapM boolD=some bs/\Q (.bl (bs.any id)) M:=by
 show W (getL j >>= fun ds=>lift (ds.mapM boolD) >>= fun bs=>pure _) M Q=_;delta W;simp only[v_bind,v_getL,v_lift,v_pure]
theorem y_str {t:Str}:W (srcD (.str t)) M S=(t.length<=sizeLine/\S ⟨none,t.cps.toList.map sgn⟩ M):=by
 show W (need _ >>= fun _=>pure _) M S=_;rw[w_bind,w_need,w_pure]
theorem y_tup {ds:List D}:W (srcD (.tup ds)) M S=S ⟨none,ds⟩ M:=w_pure _ M S
theorem y_fl {ds:List D}:W (srcD (.fl ds)) M S=S ⟨none,ds⟩ M:=w_pure _ M S
theorem y_lst {j:Nat}:W (srcD (.ob j)) M S = ∃ ds,M[j]?=some (.lst ds)/\S ⟨some (j,ds),ds⟩ M:=by
 show W (getL j >>= fun ds=>pure _) M S=_;delta W;simp only[v_bind,v_getL,v_pure]
theorem u_bl {b:Bool}:W (truD (.bl b)) M B=B b M:=w_pure _ M B
theorem u_tup {ds:List D}:W (truD (.tup ds)) M B=B (!ds.isEmpty) M:=w_pure _ M B
theorem u_int {b:Int}:W (truD (.int b)) M B=B (b != 0) M:=w_pure _ M B
theorem b_bl {b:Bool}:boolD (.bl b)=some b:=rfl
theorem w_compI {ck:Option (Nat×List D)}{c:Ev->Mo Bool}{e:Ev->Mo D}{ρ:Ev}{ds:List D}{L:List D->MH->Prop}(I:Nat->List D->MH->Prop)(h0:I 0 [] M)(hs:∀ n ys M,I n ys M->okM ck M)
  (h:∀ (n:Nat) (d:D) (ys:List D) (M:MH),ds[n]?=some d->I n ys M->W (c (some d::ρ)) M fun b M1=>(b=true->W (e (some d::ρ)) M1 fun y M2=>I (n + 1) (ys++[y]) M2)/\(b=false->I (n + 1) ys M1))
  (q:∀ ys M,I ds.length ys M->L ys M):W (compD ck c e ρ ds) M L:=by
 suffices H:∀ (r:List D) (n:Nat) (ys:List D) (M:MH),(∀ j d,r[j]?=some d->ds[n + j]?=some d)->n + r.length=ds.length->I n ys M->W (compD ck c e ρ r) M fun zs M'=>L (ys++zs) M' by
  simpa using H ds 0 [] M (fun j d e=>by simpa using e) (by simp) h0
 intro r;induction r with
 | nil =>
  intro n ys M _ hn hI;unfold compD;rw[w_bind];refine W.of (show stand ck M=some (.ok (),M) from if_pos (hs _ _ _ hI)) ?_;rw[w_pure,List.append_nil]
  have:n=ds.length:=by simpa using hn
  exact q _ _ (this ▸ hI)
 | cons d r ih =>
  intro n ys M hr hn hI;unfold compD;rw[w_bind];refine W.of (show stand ck M=some (.ok (),M) from if_pos (hs _ _ _ hI)) ?_;rw[w_bind];have hd:ds[n]?=some d:=by simpa using hr 0 d rfl
  have hr':∀ j d',r[j]?=some d'->ds[n + 1 + j]?=some d':=fun j d' e=>by
   have:=hr (j + 1) d' (by simpa using e)
   rwa [show n + (j + 1)=n + 1 + j by omega]at this
  have hn':n + 1 + r.length=ds.length:=by rw[List.length_cons]at hn;first | lia | omega
  refine(h n d ys M hd hI).mono fun b M1 hb=>?_;rw[w_if];refine⟨fun hb'=>?_,fun hb'=>ih (n + 1) ys M1 hr' hn' (hb.2 hb')⟩;rw[w_bind];refine(hb.1 hb').mono fun y M2 hI2=>?_;rw[w_bind];refine(ih (n + 1) (ys++[y]) M2 hr' hn' hI2).mono fun zs M3 hL=>?_;rw[w_pure];simpa using hL
noncomputable def loopF (I:Nat->Ev->MH->Prop)(F:Fl->MH->Prop)(n:Nat)(f:Fl)(M1:MH):Prop:=match f with
 | .nx ρ'=>I (n + 1) ρ' M1
 | .ct ρ'=>I (n + 1) ρ' M1
 | .bk ρ'=>F (.nx ρ') M1
 | .rt v=>F (.rt v) M1
theorem lf_nx {I:Nat->Ev->MH->Prop}{F:Fl->MH->Prop}{n:Nat}{ρ:Ev}:loopF I F n (.nx ρ) M=I (n + 1) ρ M:=rfl
theorem lf_ct {I:Nat->Ev->MH->Prop}{F:Fl->MH->Prop}{n:Nat}{ρ:Ev}:loopF I F n (.ct ρ) M=I (n + 1) ρ M:=rfl
theorem lf_bk {I:Nat->Ev->MH->Prop}{F:Fl->MH->Prop}{n:Nat}{ρ:Ev}:loopF I F n (.bk ρ) M=F (.nx ρ) M:=rfl
theorem lf_rt {I:Nat->Ev->MH->Prop}{F:Fl->MH->Prop}{n:Nat}{v:D}:loopF I F n (.rt v) M=F (.rt v) M:=rfl
theorem w_loop {ck:Option (Nat×List D)}{i:Nat}{body:Ev->Mo Fl}{ds:List D}{ρ:Ev}{F:Fl->MH->Prop}(I:Nat->Ev->MH->Prop)(h0:I 0 ρ M)(hs:∀ n ρ M,I n ρ M->okM ck M)
  (h:∀ (n:Nat) (d:D) (ρ:Ev) (M:MH),ds[n]?=some d->I n ρ M->W (body (ρ.set i (some d))) M (loopF I F n))
  (q:∀ ρ M,I ds.length ρ M->F (.nx ρ) M):W (loopD ck i body ds ρ) M F:=by
 suffices H:∀ (r:List D) (n:Nat) (ρ:Ev) (M:MH),(∀ j d,r[j]?=some d->ds[n + j]?=some d)->n + r.length=ds.length->I n ρ M->W (loopD ck i body r ρ) M F from
  H ds 0 ρ M (fun j d e=>by simpa using e) (by simp) h0
 intro r;induction r with
 | nil =>
  intro n ρ M _ hn hI;unfold loopD;rw[w_bind];refine W.of (show stand ck M=some (.ok (),M) from if_pos (hs _ _ _ hI)) ?_;rw[w_pure]
  have:n=ds.length:=by simpa using hn
  exact q _ _ (this ▸ hI)
 | cons d r ih =>
  intro n ρ M hr hn hI;unfold loopD;rw[w_bind];refine W.of (show stand ck M=some (.ok (),M) from if_pos (hs _ _ _ hI)) ?_;rw[w_bind];have hd:ds[n]?=some d:=by simpa using hr 0 d rfl
  have hr':∀ j d',r[j]?=some d'->ds[n + 1 + j]?=some d':=fun j d' e=>by
   have:=hr (j + 1) d' (by simpa using e)
   rwa [show n + (j + 1)=n + 1 + j by omega]at this
  have hn':n + 1 + r.length=ds.length:=by rw[List.length_cons]at hn;first | lia | omega
  refine(h n d ρ M hd hI).mono fun f M1 hf=>?_;cases f with
  | nx ρ'=>exact ih (n + 1) ρ' M1 hr' hn' hf
  | ct ρ'=>exact ih (n + 1) ρ' M1 hr' hn' hf
  | bk ρ'=>exact(w_pure _ _ _).mpr hf
  | rt v=>exact(w_pure _ _ _).mpr hf
end
end L3
namespace L3
open PySem
theorem ky_str {x:Str}:kyD (.str x)=some (.inr x):=rfl
theorem ky_int {x:Int}:kyD (.int x)=some (.inl x):=rfl
theorem eq_str {a b:Str}:eqF (.str a) (.str b)=(a==b):=rfl
theorem eq_int {a b:Int}:eqF (.int a) (.int b)=(a==b):=rfl
end L3
namespace L3
open PySem
section
variable {Γ:Ctx}{ρ:Ev}{M:MH}{a b c:IE}{Q:D->MH->Prop}{es:IEs}{x y:D}{B:Bool->MH->Prop}
theorem q_semE_lset {Γ:Ctx}:∀ a ρ,semE Γ (.lset a) ρ=(do let x <- semE Γ a ρ;lenSet x):=fun _ _=>rfl
theorem we_lset:W (semE Γ (.lset a) ρ) M Q=W (semE Γ a ρ) M fun x M1=>W (lenSet x) M1 Q:=by delta W;simp only[q_semE_lset,v_bind]
theorem y_lset {ds:List D}:W (lenSet (.tup ds)) M Q = ∃ xs,allS ds=some xs/\(addAll [] xs).length < 64/\Q (.int (addAll [] xs).length) M:=by
 show W (lift (allS ds) >>= fun xs=>need _ >>= fun _=>pure _) M Q=_;delta W;simp only[v_bind,v_lift,v_need,v_pure]
theorem we_sortL:W (semE Γ (.sortL a) ρ) M Q=W (semE Γ a ρ) M fun x M1=>W (lstD x) M1 fun ds M2=>∃ ys,Γ.srt ds=some ys/\Q (.ob M2.length) (M2++[.lst ys]):=by
 delta W;simp only[q_semE_sortL,v_bind,v_lift,v_newM]
theorem we_intB:W (semE Γ (.intB a) ρ) M Q=W (semE Γ a ρ) M fun x M1=>∃ b,boolD x=some b/\Q (.int (if b then 1 else 0)) M1:=by
 delta W;simp only[q_semE_intB,v_bind,v_lift,v_pure]
theorem we_rep:W (semE Γ (.rep a) ρ) M Q=W (semE Γ a ρ) M fun x M1=>∃ t,reprT M1 x=some t/\Q (.str t) M1:=by
 rw[q_semE_rep,w_bind];refine W_eq (fun x M1=>?_);refine propext ⟨fun ⟨d,M',e,q⟩=>?_,fun ⟨t,e,q⟩=>⟨_,M1,by unfold reprO;rw[e],q⟩⟩;unfold reprO at e;cases h:reprT M1 x with
 | none=>rw[h]at e;cases e
 | some t=>rw[h]at e;cases e;exact⟨t,rfl,q⟩
theorem q_semE_gix {Γ:Ctx}:∀ x a ρ,semE Γ (.gix x a) ρ=(do let y <- semE Γ a ρ;gixD (Γ.gl x) y):=fun _ _ _=>rfl
theorem we_isI {t:Ty}:W (semE Γ (.isI a t) ρ) M Q=W (semE Γ a ρ) M fun x M1=>W (tyD t x) M1 fun k M2=>Q (.bl k) M2:=by
 delta W;simp only[q_semE_isI,v_bind,v_pure]
theorem we_mth {m:Mt}:W (semE Γ (.mth m a es) ρ) M Q=W (semE Γ a ρ) M fun x M1=>W (rcvD m x) M1 fun _ M2=>W (semEs Γ es ρ) M2 fun xs M3=>W (mtD m x xs) M3 Q:=by
 delta W;simp only[q_semE_mth,v_bind]
theorem q_non {t:Ty}:W (tyD t .non) M B=B false M:=w_pure _ M B
theorem q_bl {t:Ty}{k:Bool}:W (tyD t (.bl k)) M B=B (t==.bool||t==.int) M:=w_pure _ M B
theorem q_int {t:Ty}{k:Int}:W (tyD t (.int k)) M B=B (t==.int) M:=w_pure _ M B
theorem q_str {t:Ty}{k:Str}:W (tyD t (.str k)) M B=B (t==.str) M:=w_pure _ M B
theorem q_tup {t:Ty}{k:List D}:W (tyD t (.tup k)) M B=B (t==.tuple) M:=w_pure _ M B
theorem q_fl {t:Ty}{k:List D}:W (tyD t (.fl k)) M B=B (t==.list) M:=w_pure _ M B
theorem i_tup {ds:List D}{L:List D->MH->Prop}:W (itemsD (.tup ds)) M L=L ds M:=w_pure _ M L
theorem i_fl {ds:List D}{L:List D->MH->Prop}:W (itemsD (.fl ds)) M L=L ds M:=w_pure _ M L
theorem i_ob {k:Nat}{L:List D->MH->Prop}:W (itemsD (.ob k)) M L = ∃ ds,M[k]?=some (.lst ds)/\L ds M:=w_getL k M L
theorem l_fl {ds:List D}{L:List D->MH->Prop}:W (lstD (.fl ds)) M L=L ds M:=w_pure _ M L
theorem l_ob {k:Nat}{L:List D->MH->Prop}:W (lstD (.ob k)) M L = ∃ ds,M[k]?=some (.lst ds)/\L ds M:=w_getL k M L
section
variable {U:Unit->MH->Prop}
theorem r_append {k:Nat}:W (rcvD .append (.ob k)) M U = ∃ ds,M[k]?=some (.lst ds)/\U () M:=by
 show W (getL k >>= fun _=>pure ()) M U=_;delta W;simp only[v_bind,v_getL,v_pure]
theorem r_split {k:Str}:W (rcvD .split (.str k)) M U=U () M:=w_pure _ M U
theorem r_part {k:Str}:W (rcvD .partition (.str k)) M U=U () M:=w_pure _ M U
theorem r_join {k:Str}:W (rcvD .join (.str k)) M U=U () M:=w_pure _ M U
end
theorem w_set {β:Type}{k:Nat}{o:MO}{r:β}{R:β->MH->Prop}{ds:List D}(h:M[k]?=some (.lst ds)):W (putM k o >>= fun _=>pure r) M R=R r (M.set k o):=by
 rw[w_bind,w_putM];have e:W (pure r:Mo β) (M.set k o) R=R r (M.set k o):=w_pure _ _ _;rw[e];simp[lt_of_get h]
theorem m_append {k:Nat}:W (mtD .append (.ob k) [y]) M Q = ∃ ds,M[k]?=some (.lst ds)/\ds.length < sizeLine/\Q .non (M.set k (.lst (ds++[y]))):=by
 show W (getL k >>= fun ds=>need _ >>= fun _=>putM k _ >>= fun _=>pure D.non) M Q=_;rw[w_bind,w_getL];refine congrArg _ (funext fun ds=>propext (and_congr_right fun h=>?_));rw[w_bind,w_need,w_set h]
theorem m_split {s t:Str}:W (mtD .split (.str s) [.str t]) M Q=((0 < t.length/\s.length<=sizeLine/\(splitS s t).length<=sizeLine)/\Q (.ob M.length) (M++[.lst ((splitS s t).map .str)])):=by
 show W (need _ >>= fun _=>newM _) M Q=_;delta W;simp only[v_bind,v_need,v_newM]
theorem m_part {s t:Str}:W (mtD .partition (.str s) [.str t]) M Q=((0 < t.length/\s.length<=sizeLine)/\Q (.tup ((partS s t).map .str)) M):=by
 show W (need _ >>= fun _=>pure _) M Q=_;delta W;simp only[v_bind,v_need,v_pure]
theorem m_joinT {t:Str}{ds:List D}:W (mtD .join (.str t) [.tup ds]) M Q = ∃ ys,ds.mapM strD=some ys/\(ys.map (·.length)).sum + ys.length * t.length<=16777216/\Q (.str (joinS t ys)) M:=by
 show W (lift _ >>= fun ys=>need _ >>= fun _=>pure _) M Q=_;delta W;simp only[v_bind,v_need,v_lift,v_pure]
theorem m_join {t:Str}{k:Nat}:W (mtD .join (.str t) [.ob k]) M Q = ∃ ds,M[k]?=some (.lst ds)/\∃ ys,ds.mapM strD=some ys/\(ys.map (·.length)).sum + ys.length * t.length<=16777216/\Q (.str (joinS t ys)) M:=by
 show W (getL k >>= fun ds=>lift _ >>= fun ys=>need _ >>= fun _=>pure _) M Q=_;delta W;simp only[v_bind,v_getL,v_need,v_lift,v_pure]
theorem ws_halt {F:Fl->MH->Prop}:W (semS Γ .halt ρ) M F=False:=w_stop M F
end
section
variable {α:Type}{a b c d e f g:α}{l:List α}
theorem at0:atD (a::l) 0=some a:=by simp[atD,ixD]
theorem at1:atD (a::b::l) 1=some b:=atD_nat (j:=1) rfl
theorem at2:atD (a::b::c::l) 2=some c:=atD_nat (j:=2) rfl
end
theorem cut_hi {α:Type}(xs:List α){v:Int}(h:0<=v):cutD xs none (some v)=xs.take v.toNat:=by
 unfold cutD;simp only[cutIx];rw[if_neg (by first | lia | omega),Nat.sub_zero,List.drop_zero]
 by_cases h2:v.toNat<=xs.length
 ·rw[Nat.min_eq_left h2]
 ·rw[Nat.min_eq_right (by first | lia | omega),List.take_length,List.take_of_length_le (by first | lia | omega)]
theorem cut_lo {α:Type}(xs:List α){v:Int}(h:0<=v):cutD xs (some v) none=xs.drop v.toNat:=by
 unfold cutD;simp only[cutIx];rw[if_neg (by first | lia | omega)]
 by_cases h2:v.toNat<=xs.length
 ·rw[Nat.min_eq_left h2,List.take_of_length_le (by rw[List.length_drop];exact Nat.le_refl _)]
 ·rw[Nat.min_eq_right (by first | lia | omega),List.drop_length,List.drop_of_length_le (by first | lia | omega)]
  simp
theorem cut_len {α:Type}(xs:List α)(lo hi:Option Int):(cutD xs lo hi).length<=xs.length:=by
 unfold cutD;rw[List.length_take,List.length_drop];first | lia | omega
noncomputable def dropS:Nat->ISs->ISs
 | 0,s=>s
 | n + 1,.cons _ r=>dropS n r
 | _ + 1,.nil=>.nil
theorem drop_0 {s:ISs}:dropS 0 s=s:=rfl
noncomputable def cutS:Nat->ISs->ISs->ISs
 | 0,_,t=>t
 | n + 1,.cons s r,t=>.cons s (cutS n r t)
 | _ + 1,.nil,t=>t
theorem cut_0 {s t:ISs}:cutS 0 s t=t:=rfl
theorem cut_s {n:Nat}{s:IS}{r t:ISs}:cutS (n + 1) (.cons s r) t=.cons s (cutS n r t):=rfl
theorem cut_S:∀ (n:Nat) (b:ISs),b=cutS n b (dropS n b)
 | 0,_=>rfl
 | n + 1,.cons s r=>congrArg _ (cut_S n r)
 | _ + 1,.nil=>rfl
theorem drop_s {n:Nat}{s:IS}{r:ISs}:dropS (n + 1) (.cons s r)=dropS n r:=rfl
end L3
namespace L3
open PySem
section
variable {Γ:Ctx}{ρ:Ev}{M:MH}{Q:D->MH->Prop}{x y v:D}{a:IE}{s1:ISs}{U:Unit->MH->Prop}{B:Bool->MH->Prop}{S:Src->MH->Prop}{F:Fl->MH->Prop}
theorem wp_enum:W (semP Γ (.enum a) ρ) M S=W (semE Γ a ρ) M fun x M1=>W (enumS x) M1 S:=by delta W;simp only[q_semP_enum,v_bind]
theorem wp_gitems {x:Str}:W (semP Γ (.gitems x) ρ) M S = ∃ ks,(Γ.gl x).bind gdKs=some ks/\S ⟨none,gdDs ks⟩ M:=by
 show W (lift _ >>= fun ks=>pure _) M S=_;delta W;simp only[v_bind,v_lift,v_pure]
theorem y_enumF {ds:List D}:W (enumS (.fl ds)) M S=S ⟨none,enumD ds⟩ M:=w_pure _ M S
theorem y_enumO {j:Nat}:W (enumS (.ob j)) M S = ∃ ds,M[j]?=some (.lst ds)/\S ⟨some (j,ds),enumD ds⟩ M:=by
 show W (getL j >>= fun ds=>pure _) M S=_;delta W;simp only[v_bind,v_getL,v_pure]
theorem ws_forP {i j:Nat}{it:IP}:W (semS Γ (.forP i j it s1) ρ) M F=W (semP Γ it ρ) M fun s M1=>W (loopP s.ck i j (semSs Γ s1) s.ds ρ) M1 F:=by delta W;simp only[q_semS_forP,v_bind]
noncomputable def truO:MO->Bool
 | .lst ds=>!ds.isEmpty
 | .dic kvs=>!kvs.isEmpty
theorem u_lst {ds:List D}:truO (.lst ds) = !ds.isEmpty:=rfl
theorem enumG {ds:List D}{n:Nat}{d:D}(h:(enumD ds)[n]?=some d):∃ x,ds[n]?=some x/\d=.tup [.int n,x]:=by
 unfold enumD at h;rw[List.getElem?_mapIdx]at h;obtain⟨x,h1,h2⟩:=Option.map_eq_some_iff.mp h;exact⟨x,h1,h2.symm⟩
theorem enumN {ds:List D}:(enumD ds).length=ds.length:=List.length_mapIdx
theorem w_loopP {ck:Option (Nat×List D)}{i j:Nat}{body:Ev->Mo Fl}{ds:List D}(I:Nat->Ev->MH->Prop)(h0:I 0 ρ M)(hs:∀ n ρ M,I n ρ M->okM ck M)
  (h:∀ (n:Nat) (d:D) (ρ:Ev) (M:MH),ds[n]?=some d->I n ρ M->∃ x y,d=.tup [x,y]/\W (body ((ρ.set i (some x)).set j (some y))) M (loopF I F n))
  (q:∀ ρ M,I ds.length ρ M->F (.nx ρ) M):W (loopP ck i j body ds ρ) M F:=by
 suffices H:∀ (r:List D) (n:Nat) (ρ:Ev) (M:MH),(∀ j d,r[j]?=some d->ds[n + j]?=some d)->n + r.length=ds.length->I n ρ M->W (loopP ck i j body r ρ) M F from
  H ds 0 ρ M (fun j d e=>by simpa using e) (by simp) h0
 intro r;induction r with
 | nil =>
  intro n ρ M _ hn hI;unfold loopP;rw[w_bind];refine W.of (show stand ck M=some (.ok (),M) from if_pos (hs _ _ _ hI)) ?_;rw[w_pure]
  have:n=ds.length:=by simpa using hn
  exact q _ _ (this ▸ hI)
 | cons d r ih =>
  intro n ρ M hr hn hI;unfold loopP;rw[w_bind];refine W.of (show stand ck M=some (.ok (),M) from if_pos (hs _ _ _ hI)) ?_;have hd:ds[n]?=some d:=by simpa using hr 0 d rfl
  have hr':∀ j d',r[j]?=some d'->ds[n + 1 + j]?=some d':=fun j d' e=>by
   have:=hr (j + 1) d' (by simpa using e)
   rwa [show n + (j + 1)=n + 1 + j by omega]at this
  have hn':n + 1 + r.length=ds.length:=by rw[List.length_cons]at hn;first | lia | omega
  obtain⟨x,y,rfl,hw⟩:=h n d ρ M hd hI;rw[w_bind,w_lift];refine⟨(x,y),rfl,?_⟩;rw[w_bind];refine hw.mono fun f M1 hf=>?_;cases f with
  | nx ρ'=>exact ih (n + 1) ρ' M1 hr' hn' hf
  | ct ρ'=>exact ih (n + 1) ρ' M1 hr' hn' hf
  | bk ρ'=>exact(w_pure _ _ _).mpr hf
  | rt v=>exact(w_pure _ _ _).mpr hf
end
end L3
namespace L3
open PySem
section
variable {Γ:Ctx}{ρ:Ev}{M:MH}{Q:D->MH->Prop}{d:D}{e:IE}{r:ISs}{F:Fl->MH->Prop}{y:Option D}
theorem v0_:W (semE Γ (.var 0) (some d::ρ)) M Q=Q d M:=by rw[we_var];simp
theorem v1_ {o0:Option D}:W (semE Γ (.var 1) (o0::some d::ρ)) M Q=Q d M:=by rw[we_var];simp
theorem v2_ {o0 o1:Option D}:W (semE Γ (.var 2) (o0::o1::some d::ρ)) M Q=Q d M:=by rw[we_var];simp
theorem v3_ {o0 o1 o2:Option D}:W (semE Γ (.var 3) (o0::o1::o2::some d::ρ)) M Q=Q d M:=by rw[we_var];simp
theorem v4_ {o0 o1 o2 o3:Option D}:W (semE Γ (.var 4) (o0::o1::o2::o3::some d::ρ)) M Q=Q d M:=by rw[we_var];simp
theorem v5_ {o0 o1 o2 o3 o4:Option D}:W (semE Γ (.var 5) (o0::o1::o2::o3::o4::some d::ρ)) M Q=Q d M:=by rw[we_var];simp
theorem v6_ {o0 o1 o2 o3 o4 o5:Option D}:W (semE Γ (.var 6) (o0::o1::o2::o3::o4::o5::some d::ρ)) M Q=Q d M:=by rw[we_var];simp
theorem v7_ {o0 o1 o2 o3 o4 o5 o6:Option D}:W (semE Γ (.var 7) (o0::o1::o2::o3::o4::o5::o6::some d::ρ)) M Q=Q d M:=by rw[we_var];simp
theorem v8_ {o0 o1 o2 o3 o4 o5 o6 o7:Option D}:W (semE Γ (.var 8) (o0::o1::o2::o3::o4::o5::o6::o7::some d::ρ)) M Q=Q d M:=by rw[we_var];simp
theorem v9_ {o0 o1 o2 o3 o4 o5 o6 o7 o8:Option D}:W (semE Γ (.var 9) (o0::o1::o2::o3::o4::o5::o6::o7::o8::some d::ρ)) M Q=Q d M:=by rw[we_var];simp
theorem v10_ {o0 o1 o2 o3 o4 o5 o6 o7 o8 o9:Option D}:W (semE Γ (.var 10) (o0::o1::o2::o3::o4::o5::o6::o7::o8::o9::some d::ρ)) M Q=Q d M:=by rw[we_var];simp
theorem v11_ {o0 o1 o2 o3 o4 o5 o6 o7 o8 o9 o10:Option D}:W (semE Γ (.var 11) (o0::o1::o2::o3::o4::o5::o6::o7::o8::o9::o10::some d::ρ)) M Q=Q d M:=by rw[we_var];simp
theorem v12_ {o0 o1 o2 o3 o4 o5 o6 o7 o8 o9 o10 o11:Option D}:W (semE Γ (.var 12) (o0::o1::o2::o3::o4::o5::o6::o7::o8::o9::o10::o11::some d::ρ)) M Q=Q d M:=by rw[we_var];simp
theorem v13_ {o0 o1 o2 o3 o4 o5 o6 o7 o8 o9 o10 o11 o12:Option D}:W (semE Γ (.var 13) (o0::o1::o2::o3::o4::o5::o6::o7::o8::o9::o10::o11::o12::some d::ρ)) M Q=Q d M:=by rw[we_var];simp
theorem v14_ {o0 o1 o2 o3 o4 o5 o6 o7 o8 o9 o10 o11 o12 o13:Option D}:W (semE Γ (.var 14) (o0::o1::o2::o3::o4::o5::o6::o7::o8::o9::o10::o11::o12::o13::some d::ρ)) M Q=Q d M:=by rw[we_var];simp
theorem v15_ {o0 o1 o2 o3 o4 o5 o6 o7 o8 o9 o10 o11 o12 o13 o14:Option D}:W (semE Γ (.var 15) (o0::o1::o2::o3::o4::o5::o6::o7::o8::o9::o10::o11::o12::o13::o14::some d::ρ)) M Q=Q d M:=by rw[we_var];simp
theorem s0_:W (semSs Γ (.cons (.set 0 e) r) (y::ρ)) M F=W (semE Γ e (y::ρ)) M fun x M1=>W (semSs Γ r (some x::ρ)) M1 F:=by rw[ws_cons,ws_set];rfl
theorem s1_ {o0:Option D}:W (semSs Γ (.cons (.set 1 e) r) (o0::y::ρ)) M F=W (semE Γ e (o0::y::ρ)) M fun x M1=>W (semSs Γ r (o0::some x::ρ)) M1 F:=by rw[ws_cons,ws_set];rfl
theorem s2_ {o0 o1:Option D}:W (semSs Γ (.cons (.set 2 e) r) (o0::o1::y::ρ)) M F=W (semE Γ e (o0::o1::y::ρ)) M fun x M1=>W (semSs Γ r (o0::o1::some x::ρ)) M1 F:=by rw[ws_cons,ws_set];rfl
theorem s3_ {o0 o1 o2:Option D}:W (semSs Γ (.cons (.set 3 e) r) (o0::o1::o2::y::ρ)) M F=W (semE Γ e (o0::o1::o2::y::ρ)) M fun x M1=>W (semSs Γ r (o0::o1::o2::some x::ρ)) M1 F:=by rw[ws_cons,ws_set];rfl
theorem s4_ {o0 o1 o2 o3:Option D}:W (semSs Γ (.cons (.set 4 e) r) (o0::o1::o2::o3::y::ρ)) M F=W (semE Γ e (o0::o1::o2::o3::y::ρ)) M fun x M1=>W (semSs Γ r (o0::o1::o2::o3::some x::ρ)) M1 F:=by rw[ws_cons,ws_set];rfl
theorem s5_ {o0 o1 o2 o3 o4:Option D}:W (semSs Γ (.cons (.set 5 e) r) (o0::o1::o2::o3::o4::y::ρ)) M F=W (semE Γ e (o0::o1::o2::o3::o4::y::ρ)) M fun x M1=>W (semSs Γ r (o0::o1::o2::o3::o4::some x::ρ)) M1 F:=by rw[ws_cons,ws_set];rfl
theorem s6_ {o0 o1 o2 o3 o4 o5:Option D}:W (semSs Γ (.cons (.set 6 e) r) (o0::o1::o2::o3::o4::o5::y::ρ)) M F=W (semE Γ e (o0::o1::o2::o3::o4::o5::y::ρ)) M fun x M1=>W (semSs Γ r (o0::o1::o2::o3::o4::o5::some x::ρ)) M1 F:=by rw[ws_cons,ws_set];rfl
theorem s7_ {o0 o1 o2 o3 o4 o5 o6:Option D}:W (semSs Γ (.cons (.set 7 e) r) (o0::o1::o2::o3::o4::o5::o6::y::ρ)) M F=W (semE Γ e (o0::o1::o2::o3::o4::o5::o6::y::ρ)) M fun x M1=>W (semSs Γ r (o0::o1::o2::o3::o4::o5::o6::some x::ρ)) M1 F:=by rw[ws_cons,ws_set];rfl
theorem s8_ {o0 o1 o2 o3 o4 o5 o6 o7:Option D}:W (semSs Γ (.cons (.set 8 e) r) (o0::o1::o2::o3::o4::o5::o6::o7::y::ρ)) M F=W (semE Γ e (o0::o1::o2::o3::o4::o5::o6::o7::y::ρ)) M fun x M1=>W (semSs Γ r (o0::o1::o2::o3::o4::o5::o6::o7::some x::ρ)) M1 F:=by rw[ws_cons,ws_set];rfl
theorem s9_ {o0 o1 o2 o3 o4 o5 o6 o7 o8:Option D}:W (semSs Γ (.cons (.set 9 e) r) (o0::o1::o2::o3::o4::o5::o6::o7::o8::y::ρ)) M F=W (semE Γ e (o0::o1::o2::o3::o4::o5::o6::o7::o8::y::ρ)) M fun x M1=>W (semSs Γ r (o0::o1::o2::o3::o4::o5::o6::o7::o8::some x::ρ)) M1 F:=by rw[ws_cons,ws_set];rfl
theorem s10_ {o0 o1 o2 o3 o4 o5 o6 o7 o8 o9:Option D}:W (semSs Γ (.cons (.set 10 e) r) (o0::o1::o2::o3::o4::o5::o6::o7::o8::o9::y::ρ)) M F=W (semE Γ e (o0::o1::o2::o3::o4::o5::o6::o7::o8::o9::y::ρ)) M fun x M1=>W (semSs Γ r (o0::o1::o2::o3::o4::o5::o6::o7::o8::o9::some x::ρ)) M1 F:=by rw[ws_cons,ws_set];rfl
theorem s11_ {o0 o1 o2 o3 o4 o5 o6 o7 o8 o9 o10:Option D}:W (semSs Γ (.cons (.set 11 e) r) (o0::o1::o2::o3::o4::o5::o6::o7::o8::o9::o10::y::ρ)) M F=W (semE Γ e (o0::o1::o2::o3::o4::o5::o6::o7::o8::o9::o10::y::ρ)) M fun x M1=>W (semSs Γ r (o0::o1::o2::o3::o4::o5::o6::o7::o8::o9::o10::some x::ρ)) M1 F:=by rw[ws_cons,ws_set];rfl
theorem s12_ {o0 o1 o2 o3 o4 o5 o6 o7 o8 o9 o10 o11:Option D}:W (semSs Γ (.cons (.set 12 e) r) (o0::o1::o2::o3::o4::o5::o6::o7::o8::o9::o10::o11::y::ρ)) M F=W (semE Γ e (o0::o1::o2::o3::o4::o5::o6::o7::o8::o9::o10::o11::y::ρ)) M fun x M1=>W (semSs Γ r (o0::o1::o2::o3::o4::o5::o6::o7::o8::o9::o10::o11::some x::ρ)) M1 F:=by rw[ws_cons,ws_set];rfl
theorem s13_ {o0 o1 o2 o3 o4 o5 o6 o7 o8 o9 o10 o11 o12:Option D}:W (semSs Γ (.cons (.set 13 e) r) (o0::o1::o2::o3::o4::o5::o6::o7::o8::o9::o10::o11::o12::y::ρ)) M F=W (semE Γ e (o0::o1::o2::o3::o4::o5::o6::o7::o8::o9::o10::o11::o12::y::ρ)) M fun x M1=>W (semSs Γ r (o0::o1::o2::o3::o4::o5::o6::o7::o8::o9::o10::o11::o12::some x::ρ)) M1 F:=by rw[ws_cons,ws_set];rfl
theorem s14_ {o0 o1 o2 o3 o4 o5 o6 o7 o8 o9 o10 o11 o12 o13:Option D}:W (semSs Γ (.cons (.set 14 e) r) (o0::o1::o2::o3::o4::o5::o6::o7::o8::o9::o10::o11::o12::o13::y::ρ)) M F=W (semE Γ e (o0::o1::o2::o3::o4::o5::o6::o7::o8::o9::o10::o11::o12::o13::y::ρ)) M fun x M1=>W (semSs Γ r (o0::o1::o2::o3::o4::o5::o6::o7::o8::o9::o10::o11::o12::o13::some x::ρ)) M1 F:=by rw[ws_cons,ws_set];rfl
theorem s15_ {o0 o1 o2 o3 o4 o5 o6 o7 o8 o9 o10 o11 o12 o13 o14:Option D}:W (semSs Γ (.cons (.set 15 e) r) (o0::o1::o2::o3::o4::o5::o6::o7::o8::o9::o10::o11::o12::o13::o14::y::ρ)) M F=W (semE Γ e (o0::o1::o2::o3::o4::o5::o6::o7::o8::o9::o10::o11::o12::o13::o14::y::ρ)) M fun x M1=>W (semSs Γ r (o0::o1::o2::o3::o4::o5::o6::o7::o8::o9::o10::o11::o12::o13::o14::some x::ρ)) M1 F:=by rw[ws_cons,ws_set];rfl
end
end L3
local macro_rules | `(tactic| walk_at $s:str)=>do
 unless s.getString=="wp"||s.getString=="ws" do Lean.Macro.throwUnsupported
 let a <- (("v0_ v1_ v2_ v3_ v4_ v5_ v6_ v7_ v8_ v9_ v10_ v11_ v12_ v13_ v14_ v15_ s0_ s1_ s2_ s3_ s4_ s5_ s6_ s7_ s8_ s9_ s10_ s11_ s12_ s13_ s14_ s15_".splitOn " ").toArray.map fun s=>Lean.mkIdent (`L3++s.toName)).mapM fun i=>`(Lean.Parser.Tactic.simpLemma| ↓ $i:ident)
 let b <- ((("lf_nx we_bwc u_tup we_rfs m_joinT wp_gitems r_split m_split r_part m_part lf_ct lf_bk lf_rt wp_enum y_enumF y_enumO ws_forP u_lst w_bind w_pure we_var we_int we_bl we_non we_str we_glb we_bin we_cmp we_cmp2 we_and we_ifE we_tup we_lst we_dic0 we_idx we_slc we_call we_blt we_comp we_sortL we_lset y_lset we_rep we_intB we_isI we_mth ws_halt wes_nil wes_cons wo_none wo_some wt_seq wt_rng1 wc_cmp wc_tru wc_not wc_and wc_or wco_none wco_some nxt_nx nxt_rt nxt_bk nxt_ct ws_nil ws_cons ws_set ws_setIx ws_expr ws_ret ws_retN ws_pass ws_brk ws_cnt ws_if ws_for end_nx end_rt p_addI p_subI p_addS p_addL p_mul p_div p_mod p_eqI p_eqS p_ltI p_leI p_gtI p_geI p_leS p_ltS p_in p_notIn p_inS p_inT p_inO w_inMo p_is g_tup g_fl g_str g_obl g_obd g_ob t_obl t_obd t_ob z_str z_lst z_fl z_tup k_lenS k_lenO k_lenl k_lend k_lenT k_lenF k_tupL i_tup i_fl i_ob l_fl l_ob q_non q_bl q_int q_str q_tup q_fl r_append r_join m_append m_join at0 at1 at2 k_all k_any y_str y_tup y_fl y_lst u_bl u_int b_bl w_lift w_need w_newM w_getL w_getM ky_str ky_int D.int.injEq D.bl.injEq D.ob.injEq MO.lst.injEq MO.dic.injEq".replace " ws_if " (if s.getString=="wp" then " ws_if " else " ws_sel sel_t sel_f ")).splitOn " ").toArray.map fun s=>Lean.mkIdent (`L3++s.toName)).mapM fun i=>`(Lean.Parser.Tactic.simpLemma| $i:ident)
 let c <- (("List.getElem?_cons_zero List.getElem?_cons_succ List.set_cons_zero List.set_cons_succ Option.some.injEq exists_eq_left' List.map_cons List.map_nil List.cons_append List.nil_append List.replicate_succ List.replicate_zero List.length_cons List.length_nil true_and and_true Nat.reduceAdd Nat.reduceSub".splitOn " ").toArray.map fun s=>Lean.mkIdent s.toName).mapM fun i=>`(Lean.Parser.Tactic.simpLemma| $i:ident)
 let l:=a++b++c
 `(tactic| try simp only[$l,*])
local macro_rules | `(tactic| walk_at "wq")=>`(tactic| (walk_at "wp";try simp only[Bool.not_true,Bool.not_false,Bool.false_eq_true,Bool.true_eq_false,false_implies,true_implies,implies_true,true_and,and_true]))
local macro_rules | `(tactic| walk_at "wr")=>`(tactic| (walk_at "ws";try simp only[Bool.not_true,Bool.not_false,Bool.false_eq_true,Bool.true_eq_false,false_implies,true_implies,implies_true,true_and,and_true]))
local macro_rules | `(tactic| walk_at "o")=>`(tactic| first | decide | exact L3.le_line (by decide) | lia | omega)
namespace L3
open PySem PySem.W PyProof.Rows
noncomputable def EvP {α:Type}(lt:Nat->Nat->Option Bool)(t:KasT α)(P:α->Prop):Prop:=∃ a,evalK lt t=some a/\P a
section
variable {lt:Nat->Nat->Option Bool}{n:Nat}
theorem EvP.ret {α:Type}{a:α}{P:α->Prop}(h:P a):EvP lt (.ret a) P:=⟨a,rfl,h⟩
theorem EvP.ask {α:Type}{i j:Nat}{k:Bool->KasT α}{P:α->Prop}{b:Bool}(e:lt i j=some b)(h:EvP lt (k b) P):EvP lt (.ask i j k) P:=by
 obtain⟨a,h1,h2⟩:=h;exact⟨a,by unfold evalK;rw[e];exact h1,h2⟩
theorem EvP.bind {α β:Type}{f:α->KasT β}{P:α->Prop}{R:β->Prop}:∀ {t:KasT α},EvP lt t P->(∀ a,P a->EvP lt (f a) R)->EvP lt (t.bind f) R
 | .ret a,⟨b,e,h⟩,g=>by cases e;exact g _ h
 | .ask i j k,⟨b,e,h⟩,g=>by
  unfold evalK at e;cases q:lt i j with
  | none=>rw[q]at e;cases e
  | some c =>
   rw[q]at e;exact EvP.ask q (EvP.bind ⟨b,e,h⟩ g)
noncomputable def Ord (n:Nat)(p:Array Nat):Prop:=p.toList.Perm (List.range n)
theorem Ord.below {p:Array Nat}(h:Ord n p)(hn:0 < n)(i:Nat):p.getD i 0 < n:=by
 by_cases hi:i < p.size
 ·have:p.getD i 0∈p.toList:=by
   rw[Array.getD_eq_getD_getElem?,Array.getElem?_eq_getElem hi];exact Array.getElem_mem_toList hi
  exact List.mem_range.mp (h.mem_iff.mp this)
 ·rw[Array.getD_eq_getD_getElem?,Array.getElem?_eq_none (by omega)]
  exact hn
theorem Ord.rev {p:Array Nat}(h:Ord n p)(i j:Nat):Ord n (kas_rev p i j):=(mirror_perm p i j _).toList.trans h
theorem Ord.bub {p:Array Nat}(h:Ord n p)(i j:Nat):Ord n (bubble p i j):=(bubble_perm p i j).toList.trans h
variable (hl:∀ i j,i < n->j < n->∃ b,lt i j=some b)(hn:0 < n)
include hl hn
theorem asc_ev {p:Array Nat}(h:Ord n p):∀ (f m:Nat),EvP lt (kas_asc p f m) fun _=>True
 | 0,_=>.ret trivial
 | f + 1,m=>by
  obtain⟨b,e⟩:=hl _ _ (h.below hn m) (h.below hn (m - 1));refine EvP.ask e ?_;cases b with
  | true=>exact .ret trivial
  | false=>exact asc_ev h f (m + 1)
theorem desc_ev:∀ (f:Nat) {p:Array Nat} (m q:Nat),Ord n p->EvP lt (kas_desc f p m q) fun r=>Ord n r.1
 | 0,_,_,_,h=>.ret h
 | f + 1,p,m,q,h=>by
  obtain⟨b,e⟩:=hl _ _ (h.below hn m) (h.below hn (m - 1));refine EvP.ask e ?_;cases b with
  | true =>
   show EvP lt (if q > 0 then _ else _) _;split
   ·exact desc_ev f _ _ (h.rev _ _)
   ·exact desc_ev f _ _ h
  | false =>
   obtain⟨c,e2⟩:=hl _ _ (h.below hn (m - 1)) (h.below hn m);refine EvP.ask e2 ?_;cases c with
   | true=>exact .ret h
   | false=>exact desc_ev f _ _ h
theorem tail3_ev {p:Array Nat}(h:Ord n p)(m r:Nat):EvP lt (kas_tail3 m r p) fun r=>Ord n r.2 :=
 EvP.bind (asc_ev hl hn (h.rev 0 m) _ _) fun _ _=>.ret (h.rev 0 m)
theorem descPart_ev {p:Array Nat}(h:Ord n p)(m r:Nat):EvP lt (kas_descPart m r p) fun r=>Ord n r.2 :=
 EvP.bind (desc_ev hl hn _ _ _ h) fun a ha=>by
  split
  ·exact tail3_ev hl hn (ha.rev _ _) _ _
  ·exact tail3_ev hl hn ha _ _
theorem count_ev {p:Array Nat}(h:Ord n p)(r:Nat):EvP lt (kas_count r p) fun r=>Ord n r.2 :=
 EvP.bind (asc_ev hl hn h _ _) fun m _=>by
  split
  ·exact .ret h
  ·split
   ·obtain⟨b,e⟩:=hl _ _ (h.below hn 0) (h.below hn (m - 1))
    refine EvP.ask e ?_;cases b with
    | true=>exact .ret h
    | false=>exact descPart_ev hl hn (h.rev _ _) _ _
   ·exact descPart_ev hl hn h _ _
theorem place_ev {p:Array Nat}(h:Ord n p)(k:Nat):∀ (f l r:Nat),EvP lt (kas_place p k f l r) fun _=>True
 | 0,_,_=>.ret trivial
 | f + 1,l,r=>by
  unfold kas_place;split
  ·exact .ret trivial
  ·obtain⟨b,e⟩:=hl _ _ (h.below hn k) (h.below hn ((l + r) / 2))
   refine EvP.ask e ?_;cases b with
   | true=>exact place_ev h k f _ _
   | false=>exact place_ev h k f _ _
theorem bin_ev:∀ (f:Nat) {p:Array Nat} (k:Nat),Ord n p->EvP lt (kas_bin f p k) fun r=>Ord n r
 | 0,_,_,h=>.ret h
 | f + 1,p,k,h=>EvP.bind (place_ev hl hn h _ _ _ _) fun l _=>bin_ev f _ (h.bub _ _)
theorem sort_ev:EvP lt (kas_sort n) fun r=>Ord n r :=
 EvP.bind (count_ev hl hn (p:=(List.range n).toArray) (List.Perm.refl _) _) fun r h=>by
  split
  ·exact bin_ev hl hn _ _ h
  ·exact .ret h
end
theorem sortT_perm {ds:List D}(h:ds.length < 64)(hf:ds.all firstStr=true\/ds.all firstInt=true)(hl:∀ i j,i < ds.length->j < ds.length->∃ b,cmpT ds i j=some b):∃ ys,sortT ds=some ys/\ys.Perm ds:=by
 unfold sortT;split
 ·exact⟨ds,rfl,List.Perm.refl _⟩
 ·rename_i h2
  have hc:(decide (ds.length < 64)&&(ds.all firstStr||ds.all firstInt))=true:=by
   rw[decide_eq_true h,Bool.true_and,Bool.or_eq_true];exact hf
  rw[if_pos hc];obtain⟨p,e,ho⟩:=sort_ev hl (by omega);rw[e];refine⟨_,rfl,?_⟩
  have:=ho.map fun i=>ds.getD i .non
  refine this.trans (List.Perm.of_eq ?_);apply List.ext_getElem?;intro i;rw[List.getElem?_map];by_cases hi:i < ds.length
  ·rw[List.getElem?_range hi,List.getElem?_eq_getElem hi]
   simp[List.getD_eq_getElem?_getD,List.getElem?_eq_getElem hi]
  ·rw[List.getElem?_eq_none (by rw[List.length_range];omega),List.getElem?_eq_none (by omega)]
   rfl
theorem sortD_perm {ds:List D}(h:ds.length < 64)(hf:ds.all firstStr=true\/ds.all firstInt=true)(hl:∀ i j,i < ds.length->j < ds.length->∃ b,cmpT ds i j=some b):∃ ys,sortD ds=some ys/\ys.Perm ds:=by
 cases ds with
 | nil =>
  have e:=sortD_str (xs:=[]) (by show 0 < 64;omega);have e2:sortS []=[]:=List.length_eq_zero_iff.mp (sortS_perm []).length_eq;rw[e2]at e;exact⟨[],e,.refl _⟩
 | cons d r =>
  have hn:sortF (d::r)=none:=by
   have hd:strO d=none/\intD d=none:=by
    rcases hf with hf | hf <;> rw[List.all_cons,Bool.and_eq_true]at hf <;> cases d <;> first | exact⟨rfl,rfl⟩ | exact absurd hf.1 Bool.false_ne_true
   simp only[sortF,allS,allI,hd.1,hd.2]
  unfold sortD;rw[hn];exact sortT_perm h hf hl
end L3
namespace L3
open PySem
noncomputable def prD (p:Str×Str):D:=.tup [.str p.1,.str p.2]
noncomputable def unD:D->Str×Str
 | .tup [.str a,.str b]=>(a,b)
 | _=>("","")
noncomputable def look (ps:List (Str×Str))(n:Str):Option Str:=(ps.find? fun p=>decide (p.1=n)).map (·.2)
theorem unD_prD (p:Str×Str):unD (prD p)=p:=rfl
end L3
namespace L3
open PySem
theorem sort_pairs {ps:List (Str×Str)}(h:ps.length < 64):∃ qs:List (Str×Str),sortD (ps.map prD)=some (qs.map prD)/\qs.Perm ps:=by
 obtain⟨ys,e,hp⟩:=sortD_perm (ds:=ps.map prD) (by rw[List.length_map];exact h) (.inl (by rw[List.all_map,List.all_eq_true];exact fun p _=>rfl)) (fun i j hi hj=>by
  rw[List.length_map]at hi hj;unfold cmpT;rw[List.getElem?_map,List.getElem?_map,List.getElem?_eq_getElem hi,List.getElem?_eq_getElem hj];show ∃ b,lexK [.str ps[i].1,.str ps[i].2] [.str ps[j].1,.str ps[j].2]=some b;simp only[lexK,flatD,Bool.and_self,if_true,ltD];split
  ·split <;> exact⟨_,rfl⟩
  ·exact⟨_,rfl⟩)
 have hy:∀ y∈ys,prD (unD y)=y:=fun y hy=>by
  obtain⟨p,_,rfl⟩:=List.mem_map.mp (hp.mem_iff.mp hy);rfl
 refine⟨ys.map unD,?_,?_⟩
 ·rw[List.map_map,e]
  congr 1
  have:ys.map (prD ∘ unD)=ys.map id:=List.map_congr_left fun y h=>hy y h
  rw[this,List.map_id]
 ·have:=hp.map unD
  rw[List.map_map]at this;have e2:ps.map (unD ∘ prD)=ps.map id:=List.map_congr_left fun y h=>rfl;rw[e2,List.map_id]at this;exact this
end L3
namespace Law
open PySem L3
noncomputable def gl (x:Str):Option D:=if x=("LETTERS" : Str) then some (.str ("abcdefghijklmnopqrstuvwxyz" : Str)) else if x=("FIGURES" : Str) then some (.str ("0123456789" : Str)) else if x=("LONGEST_NAME" : Str) then some (.int 8) else if x=("LONGEST_VALUE" : Str) then some (.int 12) else if x=("NONE" : Str) then some (.str ("-" : Str)) else if x=("MOST_MARKS" : Str) then some (.int 8) else if x=("MOST_ASKINGS" : Str) then some (.int 4) else if x=("MOST_VALUES" : Str) then some (.int 3) else if x=("SIGN_OF" : Str) then some (.tup [.tup [.str ("is" : Str),.str ("=" : Str)],.tup [.str ("no" : Str),.str ("!" : Str)],.tup [.str ("there" : Str),.str ("+" : Str)],.tup [.str ("lacks" : Str),.str ("-" : Str)]]) else none
noncomputable def b_made_of:ISs :=
 (.cons (.ret (.blt .all (.cons (.comp 2 (.seq (.var 0)) .none (.cmp .In (.var 0) (.var 2))) .nil)))
  .nil)
noncomputable def b_is_name:ISs :=
 (.cons (.ret (.and (.cmp2 .LtE .LtE (.cint 1) (.blt .len (.cons (.var 0) .nil)) (.glb ("LONGEST_NAME" : Str))) (.call ("made_of" : Str) (.cons (.var 0) (.cons (.glb ("LETTERS" : Str)) .nil)))))
  .nil)
noncomputable def b_is_value:ISs :=
 (.cons (.ret (.and (.cmp2 .LtE .LtE (.cint 1) (.blt .len (.cons (.var 0) .nil)) (.glb ("LONGEST_VALUE" : Str))) (.call ("made_of" : Str) (.cons (.var 0) (.cons (.bin .Add (.glb ("LETTERS" : Str)) (.glb ("FIGURES" : Str))) .nil)))))
  .nil)
noncomputable def b_has_name:ISs :=
 (.cons (.ret (.blt .any (.cons (.comp 2 (.seq (.var 0)) .none (.cmp .Eq (.idx (.var 0) (.cint 0)) (.var 2))) .nil)))
  .nil)
noncomputable def b_read_mark:ISs :=
 (.cons (.set 1 (.mth .partition (.var 0) (.cons (.cstr ("=" : Str)) .nil)))
  (.cons (.ifS (.and (.tru (.call ("is_name" : Str) (.cons (.idx (.var 1) (.cint 0)) .nil))) (.tru (.call ("is_value" : Str) (.cons (.idx (.var 1) (.cint 2)) .nil)))) (.cons (.ret (.tup (.cons (.idx (.var 1) (.cint 0)) (.cons (.idx (.var 1) (.cint 2)) .nil))))
  .nil) .nil)
  (.cons (.ret .cnon)
  .nil)))
noncomputable def b_read_marks:ISs :=
 (.cons (.ifS (.cmp (.cmp .Eq (.var 0) (.glb ("NONE" : Str)))) (.cons (.ret (.tup .nil))
  .nil) .nil)
  (.cons (.set 1 (.lst .nil))
  (.cons (.forP 2 3 (.enum (.mth .split (.var 0) (.cons (.cstr (" " : Str)) .nil))) (.cons (.set 4 (.call ("read_mark" : Str) (.cons (.var 3) .nil)))
  (.cons (.ifS (.or (.cmp (.cmp .Eq (.var 2) (.glb ("MOST_MARKS" : Str)))) (.or (.cmp (.cmp .Is (.var 4) .cnon)) (.tru (.call ("has_name" : Str) (.cons (.var 1) (.cons (.idx (.var 4) (.cint 0)) .nil)))))) (.cons (.rz (.var 2))
  .nil) .nil)
  (.cons (.expr (.mth .append (.var 1) (.cons (.var 4) .nil)))
  .nil))))
  (.cons (.ret (.blt .tuple (.cons (.sortL (.var 1)) .nil)))
  .nil))))
noncomputable def b_are_values:ISs :=
 (.cons (.ret (.and (.cmp .LtE (.blt .len (.cons (.var 0) .nil)) (.glb ("MOST_VALUES" : Str))) (.and (.cmp .Eq (.lset (.var 0)) (.blt .len (.cons (.var 0) .nil))) (.blt .all (.cons (.comp 1 (.seq (.var 0)) .none (.call ("is_value" : Str) (.cons (.var 0) .nil))) .nil)))))
  .nil)
noncomputable def b_read_asking:ISs :=
 (.cons (.forP 1 2 (.gitems ("SIGN_OF" : Str)) (.cons (.set 3 (.mth .partition (.var 0) (.cons (.var 2) .nil)))
  (.cons (.ifS (.and (.cmp (.cmp .Eq (.idx (.var 3) (.cint 1)) (.var 2))) (.tru (.call ("is_name" : Str) (.cons (.idx (.var 3) (.cint 0)) .nil)))) (.cons (.ret (.call ("asking_of" : Str) (.cons (.var 1) (.cons (.idx (.var 3) (.cint 0)) (.cons (.idx (.var 3) (.cint 2)) .nil)))))
  .nil) .nil)
  .nil)))
  (.cons (.ret .cnon)
  .nil))
noncomputable def b_asking_of:ISs :=
 (.cons (.ifS (.cmp (.cmp .In (.var 0) (.tup (.cons (.cstr ("there" : Str)) (.cons (.cstr ("lacks" : Str)) .nil))))) (.cons (.ret (.ifE (.cmp (.cmp .Eq (.var 2) (.cstr ("" : Str)))) (.tup (.cons (.var 0) (.cons (.var 1) (.cons (.tup .nil) .nil)))) .cnon))
  .nil) .nil)
  (.cons (.set 3 (.blt .tuple (.cons (.mth .split (.var 2) (.cons (.cstr ("|" : Str)) .nil)) .nil)))
  (.cons (.ret (.ifE (.tru (.call ("are_values" : Str) (.cons (.var 3) .nil))) (.tup (.cons (.var 0) (.cons (.var 1) (.cons (.var 3) .nil)))) .cnon))
  .nil)))
noncomputable def b_askings_ahead:ISs :=
 (.cons (.set 1 (.lst .nil))
  (.cons (.forS 2 (.seq (.slc (.var 0) .none (.some (.glb ("MOST_ASKINGS" : Str))))) (.cons (.set 3 (.call ("read_asking" : Str) (.cons (.var 2) .nil)))
  (.cons (.ifS (.cmp (.cmp .Is (.var 3) .cnon)) (.cons .brk
  .nil) .nil)
  (.cons (.expr (.mth .append (.var 1) (.cons (.var 3) .nil)))
  .nil))))
  (.cons (.ret (.var 1))
  .nil)))
noncomputable def b_read_askings:ISs :=
 (.cons (.ifS (.cmp (.cmp .Eq (.var 0) (.glb ("NONE" : Str)))) (.cons (.ret (.tup .nil))
  .nil) .nil)
  (.cons (.set 1 (.mth .split (.var 0) (.cons (.cstr (" " : Str)) .nil)))
  (.cons (.set 2 (.call ("askings_ahead" : Str) (.cons (.var 1) .nil)))
  (.cons (.ifS (.cmp (.cmp .Lt (.blt .len (.cons (.var 2) .nil)) (.blt .len (.cons (.var 1) .nil)))) (.cons (.rz (.blt .len (.cons (.var 2) .nil)))
  .nil) .nil)
  (.cons (.ret (.blt .tuple (.cons (.var 2) .nil)))
  .nil)))))
noncomputable def b__law_draw:ISs :=
 (.cons (.set 2 (.cint 0))
  (.cons (.ifS (.cmp (.cmp .Lt (.idx (.var 0) (.cint 1)) (.blt .len (.cons (.idx (.var 0) (.cint 0)) .nil)))) (.cons (.set 2 (.idx (.idx (.var 0) (.cint 0)) (.idx (.var 0) (.cint 1))))
  .nil) .nil)
  (.cons (.setIx (.var 0) (.cint 1) (.bin .Add (.idx (.var 0) (.cint 1)) (.cint 1)))
  (.cons (.set 3 (.bin .Mod (.bin .Add (.bin .Mult (.bin .Mod (.var 2) (.cint 1000003)) (.cint 48271)) (.bin .Mult (.idx (.var 0) (.cint 1)) (.cint 7919))) (.cint 1000003)))
  (.cons (.ret (.bin .Mod (.bin .Mod (.bin .Mult (.bin .Mod (.bin .Mult (.var 3) (.var 3)) (.cint 999983)) (.var 3)) (.cint 999983)) (.var 1)))
  .nil)))))
noncomputable def b__law_signs:ISs :=
 (.cons (.set 3 (.cstr ("" : Str)))
  (.cons (.forS 4 (.rng1 (.var 1)) (.cons (.set 0 (.bin .Mod (.bin .Add (.bin .Mult (.var 0) (.cint 48271)) (.cint 12345)) (.cint 1000003)))
  (.cons (.set 3 (.bin .Add (.var 3) (.idx (.var 2) (.bin .Mod (.var 0) (.blt .len (.cons (.var 2) .nil))))))
  .nil)))
  (.cons (.ret (.var 3))
  .nil)))
noncomputable def b__law_names:ISs :=
 (.cons (.set 2 (.cstr ("abcdefghijklmnopqrstuvwxyz" : Str)))
  (.cons (.set 3 (.call ("_law_signs" : Str) (.cons (.call ("_law_draw" : Str) (.cons (.var 0) (.cons (.cint 1000) .nil))) (.cons (.cint 8) (.cons (.var 2) .nil)))))
  (.cons (.ifS (.cmp (.cmp .Eq (.call ("_law_draw" : Str) (.cons (.var 0) (.cons (.cint 3) .nil))) (.cint 0))) (.cons (.ret (.comp 7 (.rng1 (.var 1)) .none (.slc (.var 4) .none (.some (.bin .Add (.var 0) (.cint 1))))))
  .nil) .nil)
  (.cons (.set 4 (.bin .Add (.cint 1) (.call ("_law_draw" : Str) (.cons (.var 0) (.cons (.cint 8) .nil)))))
  (.cons (.set 5 (.call ("_law_draw" : Str) (.cons (.var 0) (.cons (.var 4) .nil))))
  (.cons (.set 6 (.call ("_law_draw" : Str) (.cons (.var 0) (.cons (.cint 26) .nil))))
  (.cons (.ret (.comp 7 (.rng1 (.var 1)) .none (.bin .Add (.bin .Add (.slc (.var 4) .none (.some (.var 6))) (.idx (.var 3) (.bin .Mod (.bin .Add (.var 7) (.var 0)) (.cint 26)))) (.slc (.var 4) (.some (.bin .Add (.var 6) (.cint 1))) (.some (.var 5))))))
  .nil)))))))
noncomputable def b__law_values:ISs :=
 (.cons (.set 2 (.cstr ("abcdefghijklmnopqrstuvwxyz0123456789" : Str)))
  (.cons (.set 3 (.call ("_law_signs" : Str) (.cons (.call ("_law_draw" : Str) (.cons (.var 0) (.cons (.cint 1000) .nil))) (.cons (.cint 12) (.cons (.var 2) .nil)))))
  (.cons (.ifS (.cmp (.cmp .Eq (.call ("_law_draw" : Str) (.cons (.var 0) (.cons (.cint 3) .nil))) (.cint 0))) (.cons (.ret (.comp 7 (.rng1 (.var 1)) .none (.slc (.var 4) .none (.some (.bin .Add (.var 0) (.cint 1))))))
  .nil) .nil)
  (.cons (.set 4 (.bin .Add (.cint 1) (.call ("_law_draw" : Str) (.cons (.var 0) (.cons (.cint 12) .nil)))))
  (.cons (.set 5 (.call ("_law_draw" : Str) (.cons (.var 0) (.cons (.var 4) .nil))))
  (.cons (.set 6 (.call ("_law_draw" : Str) (.cons (.var 0) (.cons (.cint 36) .nil))))
  (.cons (.ret (.comp 7 (.rng1 (.var 1)) .none (.bin .Add (.bin .Add (.slc (.var 4) .none (.some (.var 6))) (.idx (.var 3) (.bin .Mod (.bin .Add (.var 7) (.var 0)) (.cint 36)))) (.slc (.var 4) (.some (.bin .Add (.var 6) (.cint 1))) (.some (.var 5))))))
  .nil)))))))
noncomputable def b__law_asking:ISs :=
 (.cons (.set 3 (.call ("_law_draw" : Str) (.cons (.var 0) (.cons (.cint 1000003) .nil))))
  (.cons (.set 4 (.idx (.var 1) (.bin .Mod (.var 3) (.cint 4))))
  (.cons (.set 5 (.idx (.lst (.cons (.cstr ("is" : Str)) (.cons (.cstr ("no" : Str)) (.cons (.cstr ("is" : Str)) (.cons (.cstr ("there" : Str)) (.cons (.cstr ("lacks" : Str)) (.cons (.cstr ("is" : Str)) .nil))))))) (.bin .Mod (.bin .FloorDiv (.var 3) (.cint 4)) (.cint 6))))
  (.cons (.ifS (.or (.cmp (.cmp .Eq (.var 5) (.cstr ("there" : Str)))) (.cmp (.cmp .Eq (.var 5) (.cstr ("lacks" : Str))))) (.cons (.ret (.tup (.cons (.var 5) (.cons (.var 4) (.cons (.tup .nil) .nil)))))
  .nil) .nil)
  (.cons (.set 6 (.bin .Mod (.bin .FloorDiv (.var 3) (.cint 24)) (.cint 3)))
  (.cons (.set 7 (.lst (.cons (.idx (.var 2) (.var 6)) (.cons (.idx (.var 2) (.bin .Mod (.bin .Add (.bin .Add (.var 6) (.cint 1)) (.bin .Mod (.bin .FloorDiv (.var 3) (.cint 72)) (.cint 2))) (.cint 3))) (.cons (.idx (.var 2) (.bin .Mod (.bin .Sub (.bin .Add (.var 6) (.cint 2)) (.bin .Mod (.bin .FloorDiv (.var 3) (.cint 72)) (.cint 2))) (.cint 3))) .nil)))))
  (.cons (.ret (.tup (.cons (.var 5) (.cons (.var 4) (.cons (.blt .tuple (.cons (.slc (.var 7) .none (.some (.bin .Add (.cint 1) (.bin .Mod (.bin .FloorDiv (.var 3) (.cint 144)) (.cint 3))))) .nil)) .nil)))))
  .nil)))))))
noncomputable def b__law_clean:ISs :=
 (.cons (.ifS (.or (.cmp (.cmp .Lt (.blt .len (.cons (.var 0) .nil)) (.cint 1))) (.cmp (.cmp .Gt (.blt .len (.cons (.var 0) .nil)) (.var 1)))) (.cons (.ret (.cbl false))
  .nil) .nil)
  (.cons (.forS 3 (.seq (.var 0)) (.cons (.ifS (.cmp (.cmp .NotIn (.var 3) (.bin .Add (.cstr ("abcdefghijklmnopqrstuvwxyz" : Str)) (.var 2)))) (.cons (.ret (.cbl false))
  .nil) .nil)
  .nil))
  (.cons (.ret (.cbl true))
  .nil)))
noncomputable def b__law_pair:ISs :=
 (.cons (.set 1 (.mth .split (.var 0) (.cons (.cstr ("=" : Str)) .nil)))
  (.cons (.ifS (.and (.cmp (.cmp .Eq (.blt .len (.cons (.var 1) .nil)) (.cint 2))) (.and (.tru (.call ("_law_clean" : Str) (.cons (.idx (.var 1) (.cint 0)) (.cons (.cint 8) (.cons (.cstr ("" : Str)) .nil))))) (.tru (.call ("_law_clean" : Str) (.cons (.idx (.var 1) (.cint 1)) (.cons (.cint 12) (.cons (.cstr ("0123456789" : Str)) .nil))))))) (.cons (.ret (.tup (.cons (.idx (.var 1) (.cint 0)) (.cons (.idx (.var 1) (.cint 1)) .nil))))
  .nil) .nil)
  (.cons (.ret .cnon)
  .nil)))
noncomputable def b__law_asked:ISs :=
 (.cons (.ifS (.cmp (.cmp .Eq (.var 0) (.cstr ("" : Str)))) (.cons (.ret .cnon)
  .nil) .nil)
  (.cons (.set 1 (.idx (.var 0) (.bin .Sub (.blt .len (.cons (.var 0) .nil)) (.cint 1))))
  (.cons (.set 2 (.slc (.var 0) .none (.some (.bin .Sub (.blt .len (.cons (.var 0) .nil)) (.cint 1)))))
  (.cons (.ifS (.and (.cmp (.cmp .In (.var 1) (.cstr ("+-" : Str)))) (.tru (.call ("_law_clean" : Str) (.cons (.var 2) (.cons (.cint 8) (.cons (.cstr ("" : Str)) .nil)))))) (.cons (.ret (.tup (.cons (.idx (.lst (.cons (.cstr ("lacks" : Str)) (.cons (.cstr ("there" : Str)) .nil))) (.intB (.cmp .Eq (.var 1) (.cstr ("+" : Str))))) (.cons (.var 2) (.cons (.tup .nil) .nil)))))
  .nil) .nil)
  (.cons (.set 3 (.comp 6 (.rng1 (.blt .len (.cons (.var 0) .nil))) (.some (.cmp (.cmp .In (.idx (.var 1) (.var 0)) (.cstr ("=!" : Str))))) (.var 0)))
  (.cons (.ifS (.or (.cmp (.cmp .Eq (.var 3) (.lst .nil))) (.not (.tru (.call ("_law_clean" : Str) (.cons (.slc (.var 0) .none (.some (.idx (.var 3) (.cint 0)))) (.cons (.cint 8) (.cons (.cstr ("" : Str)) .nil))))))) (.cons (.ret .cnon)
  .nil) .nil)
  (.cons (.set 4 (.mth .split (.slc (.var 0) (.some (.bin .Add (.idx (.var 3) (.cint 0)) (.cint 1))) .none) (.cons (.cstr ("|" : Str)) .nil)))
  (.cons (.forS 5 (.rng1 (.blt .len (.cons (.var 4) .nil))) (.cons (.ifS (.or (.cmp (.cmp .Gt (.var 5) (.cint 2))) (.or (.not (.tru (.call ("_law_clean" : Str) (.cons (.idx (.var 4) (.var 5)) (.cons (.cint 12) (.cons (.cstr ("0123456789" : Str)) .nil)))))) (.cmp (.cmp .In (.idx (.var 4) (.var 5)) (.slc (.var 4) .none (.some (.var 5))))))) (.cons (.ret .cnon)
  .nil) .nil)
  .nil))
  (.cons (.ret (.tup (.cons (.idx (.lst (.cons (.cstr ("no" : Str)) (.cons (.cstr ("is" : Str)) .nil))) (.intB (.cmp .Eq (.idx (.var 0) (.idx (.var 3) (.cint 0))) (.cstr ("=" : Str))))) (.cons (.slc (.var 0) .none (.some (.idx (.var 3) (.cint 0)))) (.cons (.blt .tuple (.cons (.var 4) .nil)) .nil)))))
  .nil)))))))))
noncomputable def b__law_marks_due:ISs :=
 (.cons (.ifS (.cmp (.cmp .Eq (.var 0) (.cstr ("-" : Str)))) (.cons (.ret (.tup .nil))
  .nil) .nil)
  (.cons (.set 1 (.lst .nil))
  (.cons (.forP 2 3 (.enum (.mth .split (.var 0) (.cons (.cstr (" " : Str)) .nil))) (.cons (.set 4 (.call ("_law_pair" : Str) (.cons (.var 3) .nil)))
  (.cons (.ifS (.or (.cmp (.cmp .Is (.var 4) .cnon)) (.or (.cmp (.cmp .Eq (.var 2) (.cint 8))) (.cmp (.cmp .In (.idx (.var 4) (.cint 0)) (.comp 5 (.seq (.var 1)) .none (.idx (.var 0) (.cint 0))))))) (.cons (.ret (.var 2))
  .nil) .nil)
  (.cons (.expr (.mth .append (.var 1) (.cons (.var 4) .nil)))
  .nil))))
  (.cons (.ret (.blt .tuple (.cons (.sortL (.var 1)) .nil)))
  .nil))))
noncomputable def b__law_askings_due:ISs :=
 (.cons (.ifS (.cmp (.cmp .Eq (.var 0) (.cstr ("-" : Str)))) (.cons (.ret (.tup .nil))
  .nil) .nil)
  (.cons (.set 1 (.lst .nil))
  (.cons (.forP 2 3 (.enum (.mth .split (.var 0) (.cons (.cstr (" " : Str)) .nil))) (.cons (.set 4 (.call ("_law_asked" : Str) (.cons (.var 3) .nil)))
  (.cons (.ifS (.or (.cmp (.cmp .Is (.var 4) .cnon)) (.cmp (.cmp .Eq (.var 2) (.cint 4)))) (.cons (.ret (.var 2))
  .nil) .nil)
  (.cons (.expr (.mth .append (.var 1) (.cons (.var 4) .nil)))
  .nil))))
  (.cons (.ret (.blt .tuple (.cons (.var 1) .nil)))
  .nil))))
noncomputable def b__law_asking_word:ISs :=
 (.cons (.ifS (.cmp (.cmp .Eq (.idx (.var 0) (.cint 0)) (.cstr ("there" : Str)))) (.cons (.ret (.bin .Add (.idx (.var 0) (.cint 1)) (.cstr ("+" : Str))))
  .nil) .nil)
  (.cons (.ifS (.cmp (.cmp .Eq (.idx (.var 0) (.cint 0)) (.cstr ("lacks" : Str)))) (.cons (.ret (.bin .Add (.idx (.var 0) (.cint 1)) (.cstr ("-" : Str))))
  .nil) .nil)
  (.cons (.ret (.bin .Add (.bin .Add (.idx (.var 0) (.cint 1)) (.idx (.lst (.cons (.cstr ("!" : Str)) (.cons (.cstr ("=" : Str)) .nil))) (.intB (.cmp .Eq (.idx (.var 0) (.cint 0)) (.cstr ("is" : Str)))))) (.mth .join (.cstr ("|" : Str)) (.cons (.idx (.var 0) (.cint 2)) .nil))))
  .nil)))
noncomputable def b__law_spoilt:ISs :=
 (.cons (.set 3 (.lst (.cons (.cstr ("-" : Str)) (.cons (.cstr ("" : Str)) (.cons (.cstr ("a" : Str)) (.cons (.cstr ("a=" : Str)) (.cons (.cstr ("a!" : Str)) (.cons (.cstr ("=b" : Str)) (.cons (.cstr ("!b" : Str)) (.cons (.cstr ("+" : Str)) (.cons (.cstr ("A=b" : Str)) (.cons (.cstr ("a=B" : Str)) (.cons (.cstr ("a==b" : Str)) (.cons (.cstr ("a=b=c" : Str)) (.cons (.cstr ("a!b=c" : Str)) (.cons (.cstr ("a=b!c" : Str)) (.cons (.cstr ("a=b|c" : Str)) (.cons (.cstr ("a=b|b" : Str)) .nil))))))))))))))))))
  (.cons (.set 3 (.bin .Add (.var 3) (.lst (.cons (.cstr ("a!b|" : Str)) (.cons (.cstr ("a=|b" : Str)) (.cons (.cstr ("a=b|c|d|e" : Str)) (.cons (.cstr ("a++" : Str)) (.cons (.cstr ("a+b" : Str)) (.cons (.cstr ("a1+" : Str)) (.cons (.cstr ("a1=b" : Str)) (.cons (.cstr ("abcdefghi-" : Str)) (.cons (.cstr ("abcdefghi=a" : Str)) (.cons (.cstr ("a-b" : Str)) .nil)))))))))))))
  (.cons (.set 3 (.bin .Add (.var 3) (.lst (.cons (.cstr ("a=abcdefghijklm" : Str)) (.cons (.var 2) (.cons (.var 2) (.cons (.var 2) .nil)))))))
  (.cons (.set 4 (.idx (.var 3) (.call ("_law_draw" : Str) (.cons (.var 0) (.cons (.blt .len (.cons (.var 3) .nil)) .nil)))))
  (.cons (.set 5 (.call ("_law_draw" : Str) (.cons (.var 0) (.cons (.bin .Add (.blt .len (.cons (.var 1) .nil)) (.cint 1)) .nil))))
  (.cons (.set 6 (.call ("_law_draw" : Str) (.cons (.var 0) (.cons (.cint 8) .nil))))
  (.cons (.ifS (.cmp (.cmp .Lt (.var 6) (.cint 2))) (.cons (.ret (.mth .join (.cstr (" " : Str)) (.cons (.bin .Add (.bin .Add (.slc (.var 1) .none (.some (.var 5))) (.lst (.cons (.var 4) .nil))) (.slc (.var 1) (.some (.var 5)) .none)) .nil)))
  .nil) .nil)
  (.cons (.ifS (.cmp (.cmp .Eq (.var 6) (.cint 2))) (.cons (.ret (.mth .join (.cstr (" " : Str)) (.cons (.bin .Add (.bin .Add (.slc (.var 1) .none (.some (.var 5))) (.lst (.cons (.var 4) .nil))) (.slc (.var 1) (.some (.bin .Add (.var 5) (.cint 1))) .none)) .nil)))
  .nil) .nil)
  (.cons (.ifS (.cmp (.cmp .Eq (.var 6) (.cint 3))) (.cons (.ret (.mth .join (.cstr (" " : Str)) (.cons (.bin .Add (.slc (.var 1) .none (.some (.bin .Add (.var 5) (.cint 1)))) (.slc (.var 1) (.some (.var 5)) .none)) .nil)))
  .nil) .nil)
  (.cons (.set 7 (.mth .join (.cstr (" " : Str)) (.cons (.var 1) .nil)))
  (.cons (.set 5 (.call ("_law_draw" : Str) (.cons (.var 0) (.cons (.bin .Add (.blt .len (.cons (.var 7) .nil)) (.cint 1)) .nil))))
  (.cons (.set 8 (.idx (.cstr (" =!|+-aZ09" : Str)) (.call ("_law_draw" : Str) (.cons (.var 0) (.cons (.cint 10) .nil)))))
  (.cons (.ifS (.cmp (.cmp .Eq (.var 6) (.cint 4))) (.cons (.ret (.bin .Add (.slc (.var 7) .none (.some (.var 5))) (.slc (.var 7) (.some (.bin .Add (.var 5) (.cint 1))) .none)))
  .nil) .nil)
  (.cons (.ifS (.cmp (.cmp .Eq (.var 6) (.cint 5))) (.cons (.ret (.bin .Add (.bin .Add (.slc (.var 7) .none (.some (.var 5))) (.var 8)) (.slc (.var 7) (.some (.bin .Add (.var 5) (.cint 1))) .none)))
  .nil) .nil)
  (.cons (.ifS (.cmp (.cmp .Eq (.var 6) (.cint 6))) (.cons (.ret (.bin .Add (.bin .Add (.slc (.var 7) .none (.some (.var 5))) (.var 8)) (.slc (.var 7) (.some (.var 5)) .none)))
  .nil) .nil)
  (.cons (.ret (.var 7))
  .nil))))))))))))))))
noncomputable def b__law_right:ISs :=
 (.cons (.ifS (.cmp (.cmp .Eq (.var 0) (.cint 0))) (.cons (.set 2 (.call ("_law_marks_due" : Str) (.cons (.var 1) .nil)))
  .nil) (.cons (.set 2 (.call ("_law_askings_due" : Str) (.cons (.var 1) .nil)))
  .nil))
  (.cons (.ifS (.not (.tru (.isI (.var 2) .tuple))) (.cons (.ret (.rfs (.cons (.var 0) (.cons (.var 1) (.cons (.var 2) .nil)))))
  .nil) .nil)
  (.cons (.ifS (.cmp (.cmp .Eq (.var 0) (.cint 0))) (.cons (.ret (.cmp .Eq (.rep (.call ("read_marks" : Str) (.cons (.var 1) .nil))) (.rep (.var 2))))
  .nil) .nil)
  (.cons (.ret (.cmp .Eq (.rep (.call ("read_askings" : Str) (.cons (.var 1) .nil))) (.rep (.var 2))))
  .nil))))
noncomputable def b_law:ISs :=
 (.cons (.set 1 (.lst (.cons (.var 0) (.cons (.cint 0) .nil))))
  (.cons (.set 2 (.bin .Add (.call ("_law_names" : Str) (.cons (.var 1) (.cons (.cint 8) .nil))) (.lst (.cons (.cstr ("zzzzzzzz" : Str)) .nil))))
  (.cons (.set 3 (.call ("_law_values" : Str) (.cons (.var 1) (.cons (.cint 6) .nil))))
  (.cons (.forS 4 (.rng1 (.bin .Add (.cint 1) (.call ("_law_draw" : Str) (.cons (.var 1) (.cons (.cint 6) .nil))))) (.cons (.set 5 (.call ("_law_draw" : Str) (.cons (.var 1) (.cons (.cint 2) .nil))))
  (.cons (.ifS (.cmp (.cmp .Eq (.var 5) (.cint 0))) (.cons (.set 6 (.slc (.var 2) .none (.some (.call ("_law_draw" : Str) (.cons (.var 1) (.cons (.cint 10) .nil))))))
  (.cons (.set 7 (.comp 9 (.seq (.var 6)) .none (.bin .Add (.bin .Add (.var 0) (.cstr ("=" : Str))) (.idx (.var 4) (.call ("_law_draw" : Str) (.cons (.var 2) (.cons (.cint 6) .nil)))))))
  (.cons (.set 8 (.call ("_law_spoilt" : Str) (.cons (.var 1) (.cons (.var 7) (.cons (.bin .Add (.bin .Add (.idx (.var 2) (.call ("_law_draw" : Str) (.cons (.var 1) (.cons (.cint 9) .nil)))) (.cstr ("=" : Str))) (.idx (.var 3) (.cint 0))) .nil)))))
  .nil))) (.cons (.set 6 (.comp 9 (.rng1 (.call ("_law_draw" : Str) (.cons (.var 1) (.cons (.cint 6) .nil)))) .none (.call ("_law_asking" : Str) (.cons (.var 2) (.cons (.var 3) (.cons (.var 4) .nil))))))
  (.cons (.set 7 (.comp 9 (.seq (.var 6)) .none (.call ("_law_asking_word" : Str) (.cons (.var 0) .nil))))
  (.cons (.set 8 (.call ("_law_spoilt" : Str) (.cons (.var 1) (.cons (.var 7) (.cons (.bin .Add (.bin .Add (.idx (.var 2) (.call ("_law_draw" : Str) (.cons (.var 1) (.cons (.cint 9) .nil)))) (.cstr ("=" : Str))) (.idx (.var 3) (.cint 0))) .nil)))))
  .nil))))
  (.cons (.ifS (.or (.not (.tru (.call ("_law_right" : Str) (.cons (.var 5) (.cons (.var 8) .nil))))) (.not (.tru (.call ("_law_right" : Str) (.cons (.var 5) (.cons (.mth .join (.cstr (" " : Str)) (.cons (.var 7) .nil)) .nil)))))) (.cons (.ret (.cbl false))
  .nil) .nil)
  .nil))))
  (.cons (.ret (.and (.rfs (.cons (.cint 0) (.cons (.cstr ("" : Str)) (.cons (.cint 0) .nil)))) (.and (.rfs (.cons (.cint 1) (.cons (.cstr ("" : Str)) (.cons (.cint 0) .nil)))) .bwc)))
  .nil)))))
noncomputable def tab:List (Str×Fd):=[(("made_of" : Str),⟨2,2,b_made_of⟩),(("is_name" : Str),⟨1,1,b_is_name⟩),(("is_value" : Str),⟨1,1,b_is_value⟩),(("has_name" : Str),⟨2,2,b_has_name⟩),(("read_mark" : Str),⟨2,1,b_read_mark⟩),(("read_marks" : Str),⟨5,1,b_read_marks⟩),(("are_values" : Str),⟨1,1,b_are_values⟩),(("read_asking" : Str),⟨4,1,b_read_asking⟩),(("asking_of" : Str),⟨4,3,b_asking_of⟩),(("askings_ahead" : Str),⟨4,1,b_askings_ahead⟩),(("read_askings" : Str),⟨3,1,b_read_askings⟩),(("_law_draw" : Str),⟨4,2,b__law_draw⟩),(("_law_signs" : Str),⟨5,3,b__law_signs⟩),(("_law_names" : Str),⟨7,2,b__law_names⟩),(("_law_values" : Str),⟨7,2,b__law_values⟩),(("_law_asking" : Str),⟨8,3,b__law_asking⟩),(("_law_clean" : Str),⟨4,3,b__law_clean⟩),(("_law_pair" : Str),⟨2,1,b__law_pair⟩),(("_law_asked" : Str),⟨6,1,b__law_asked⟩),(("_law_marks_due" : Str),⟨5,1,b__law_marks_due⟩),(("_law_askings_due" : Str),⟨5,1,b__law_askings_due⟩),(("_law_asking_word" : Str),⟨1,1,b__law_asking_word⟩),(("_law_spoilt" : Str),⟨9,3,b__law_spoilt⟩),(("_law_right" : Str),⟨3,2,b__law_right⟩),(("law" : Str),⟨9,1,b_law⟩)]
section
variable {srt:List D->Option (List D)}
noncomputable abbrev cx (srt:List D->Option (List D)) (k:Nat):L3.Ctx:=CtxN tab gl srt 1000 k
theorem f_made_of (k:Nat)(xs:List D):(cx srt (k + 1)).fn "made_of" xs=(do need (xs.length=2);semF (cx srt k) 2 b_made_of xs:Mo D):=rfl
theorem f_is_name (k:Nat)(xs:List D):(cx srt (k + 1)).fn "is_name" xs=(do need (xs.length=1);semF (cx srt k) 1 b_is_name xs:Mo D):=rfl
theorem f_is_value (k:Nat)(xs:List D):(cx srt (k + 1)).fn "is_value" xs=(do need (xs.length=1);semF (cx srt k) 1 b_is_value xs:Mo D):=rfl
theorem f_has_name (k:Nat)(xs:List D):(cx srt (k + 1)).fn "has_name" xs=(do need (xs.length=2);semF (cx srt k) 2 b_has_name xs:Mo D):=rfl
theorem f_read_mark (k:Nat)(xs:List D):(cx srt (k + 1)).fn "read_mark" xs=(do need (xs.length=1);semF (cx srt k) 2 b_read_mark xs:Mo D):=rfl
theorem f_read_marks (k:Nat)(xs:List D):(cx srt (k + 1)).fn "read_marks" xs=(do need (xs.length=1);semF (cx srt k) 5 b_read_marks xs:Mo D):=rfl
theorem f_are_values (k:Nat)(xs:List D):(cx srt (k + 1)).fn "are_values" xs=(do need (xs.length=1);semF (cx srt k) 1 b_are_values xs:Mo D):=rfl
theorem f_read_asking (k:Nat)(xs:List D):(cx srt (k + 1)).fn "read_asking" xs=(do need (xs.length=1);semF (cx srt k) 4 b_read_asking xs:Mo D):=rfl
theorem f_asking_of (k:Nat)(xs:List D):(cx srt (k + 1)).fn "asking_of" xs=(do need (xs.length=3);semF (cx srt k) 4 b_asking_of xs:Mo D):=rfl
theorem f_askings_ahead (k:Nat)(xs:List D):(cx srt (k + 1)).fn "askings_ahead" xs=(do need (xs.length=1);semF (cx srt k) 4 b_askings_ahead xs:Mo D):=rfl
theorem f_read_askings (k:Nat)(xs:List D):(cx srt (k + 1)).fn "read_askings" xs=(do need (xs.length=1);semF (cx srt k) 3 b_read_askings xs:Mo D):=rfl
theorem f__law_draw (k:Nat)(xs:List D):(cx srt (k + 1)).fn "_law_draw" xs=(do need (xs.length=2);semF (cx srt k) 4 b__law_draw xs:Mo D):=rfl
theorem f__law_signs (k:Nat)(xs:List D):(cx srt (k + 1)).fn "_law_signs" xs=(do need (xs.length=3);semF (cx srt k) 5 b__law_signs xs:Mo D):=rfl
theorem f__law_names (k:Nat)(xs:List D):(cx srt (k + 1)).fn "_law_names" xs=(do need (xs.length=2);semF (cx srt k) 7 b__law_names xs:Mo D):=rfl
theorem f__law_values (k:Nat)(xs:List D):(cx srt (k + 1)).fn "_law_values" xs=(do need (xs.length=2);semF (cx srt k) 7 b__law_values xs:Mo D):=rfl
theorem f__law_asking (k:Nat)(xs:List D):(cx srt (k + 1)).fn "_law_asking" xs=(do need (xs.length=3);semF (cx srt k) 8 b__law_asking xs:Mo D):=rfl
theorem f__law_clean (k:Nat)(xs:List D):(cx srt (k + 1)).fn "_law_clean" xs=(do need (xs.length=3);semF (cx srt k) 4 b__law_clean xs:Mo D):=rfl
theorem f__law_pair (k:Nat)(xs:List D):(cx srt (k + 1)).fn "_law_pair" xs=(do need (xs.length=1);semF (cx srt k) 2 b__law_pair xs:Mo D):=rfl
theorem f__law_asked (k:Nat)(xs:List D):(cx srt (k + 1)).fn "_law_asked" xs=(do need (xs.length=1);semF (cx srt k) 6 b__law_asked xs:Mo D):=rfl
theorem f__law_marks_due (k:Nat)(xs:List D):(cx srt (k + 1)).fn "_law_marks_due" xs=(do need (xs.length=1);semF (cx srt k) 5 b__law_marks_due xs:Mo D):=rfl
theorem f__law_askings_due (k:Nat)(xs:List D):(cx srt (k + 1)).fn "_law_askings_due" xs=(do need (xs.length=1);semF (cx srt k) 5 b__law_askings_due xs:Mo D):=rfl
theorem f__law_asking_word (k:Nat)(xs:List D):(cx srt (k + 1)).fn "_law_asking_word" xs=(do need (xs.length=1);semF (cx srt k) 1 b__law_asking_word xs:Mo D):=rfl
theorem f__law_spoilt (k:Nat)(xs:List D):(cx srt (k + 1)).fn "_law_spoilt" xs=(do need (xs.length=3);semF (cx srt k) 9 b__law_spoilt xs:Mo D):=rfl
theorem f__law_right (k:Nat)(xs:List D):(cx srt (k + 1)).fn "_law_right" xs=(do need (xs.length=2);semF (cx srt k) 3 b__law_right xs:Mo D):=rfl
theorem f_law (k:Nat)(xs:List D):(cx srt (k + 1)).fn "law" xs=(do need (xs.length=1);semF (cx srt k) 9 b_law xs:Mo D):=rfl
theorem z_read_marks (k:Nat)(xs:List D)(M:MH):(cx srt (k + 1)).rz "read_marks" xs M=if xs.length=1 then rzSs (cx srt k) b_read_marks (xs.map some++List.replicate (5 - xs.length) none) M else none:=rfl
theorem z_read_askings (k:Nat)(xs:List D)(M:MH):(cx srt (k + 1)).rz "read_askings" xs M=if xs.length=1 then rzSs (cx srt k) b_read_askings (xs.map some++List.replicate (3 - xs.length) none) M else none:=rfl
theorem z_rf (k:Nat):(cx srt (k + 1)).rf=rf2 (cx srt k).rz:=rfl
end
end Law
namespace Law
open PySem L3
noncomputable def sg (c:Nat):Str:=⟨#[c]⟩
theorem str_ext {a b:Str}(h:a.cps.toList=b.cps.toList):a=b:=Str.ext' (Array.toList_inj.mp h)
theorem app_list (a b:Str):(a++b).cps.toList=a.cps.toList++b.cps.toList:=by rw[Str.cps_append,Array.toList_append]
theorem join_list (sep:Str):∀ ys:List Str,(Str.join sep ys).cps.toList=glue sep.cps.toList (ys.map (·.cps.toList))
 | []=>rfl
 | [x]=>rfl
 | x::y::r=>by
  show (x++sep++Str.join sep (y::r)).cps.toList=_;rw[app_list,app_list,join_list sep (y::r)];rfl
theorem joinS_eq (sep:Str)(ys:List Str):joinS sep ys=Str.join sep ys:=str_ext (by rw[join_list];unfold joinS;simp)
theorem cut_uniq {c:Nat}:∀ {a b r s:List Nat},c ∉ a->c ∉ b->a++c::r=b++c::s->a=b/\r=s
 | [],[],_,_,_,_,h=>⟨rfl,by injection h⟩
 | [],y::b,_,_,_,hb,h=>by
  injection h with h1 h2
  exact absurd (h1 ▸ List.mem_cons_self) hb
 | x::a,[],_,_,ha,_,h=>by
  injection h with h1 h2
  exact absurd (h1 ▸ List.mem_cons_self) ha
 | x::a,y::b,_,_,ha,hb,h=>by
  injection h with h1 h2
  obtain⟨e1,e2⟩:=cut_uniq (fun z=>ha (List.mem_cons_of_mem _ z)) (fun z=>hb (List.mem_cons_of_mem _ z)) h2;exact⟨by rw[h1,e1],e2⟩
theorem glue_inj {c:Nat}:∀ {xs ys:List (List Nat)},xs≠[]->ys≠[]->(∀ x∈xs,c ∉ x)->(∀ y∈ys,c ∉ y)->glue [c] xs=glue [c] ys->xs=ys
 | [],_,h,_,_,_,_=>absurd rfl h
 | _,[],_,h,_,_,_=>absurd rfl h
 | [x],[y],_,_,_,_,h=>by rw[show x=y from h]
 | [x],y::z::r,_,_,hx,_,h=>by
  have h:x=y++[c]++glue [c] (z::r):=h;exact absurd (by rw[h];simp) (hx x List.mem_cons_self)
 | x::z::r,[y],_,_,_,hy,h=>by
  have h:x++[c]++glue [c] (z::r)=y:=h;exact absurd (by rw[<- h];simp) (hy y List.mem_cons_self)
 | x::x'::r,y::y'::s,_,_,hx,hy,h=>by
  have h:x++[c]++glue [c] (x'::r)=y++[c]++glue [c] (y'::s):=h;rw[List.append_assoc,List.append_assoc]at h;obtain⟨e1,e2⟩:=cut_uniq (hx x List.mem_cons_self) (hy y List.mem_cons_self) h;rw[e1,glue_inj (List.cons_ne_nil _ _) (List.cons_ne_nil _ _) (fun z hz=>hx z (List.mem_cons_of_mem _ hz)) (fun z hz=>hy z (List.mem_cons_of_mem _ hz)) e2]
theorem split_ne (x y:Str):splitS x y≠[]:=by
 unfold splitS;split
 ·exact List.cons_ne_nil _ _
 ·split
  ·exact List.cons_ne_nil _ _
  ·rw[StrLaws.partsBetween_eq]
   obtain⟨p,r,e⟩:=StrLaws.partsFrom_ne x y.length 0 (Builtin.Str.occurrences x y 0 x.length (x.length + 1));rw[e];exact List.cons_ne_nil _ _
theorem list_inj:∀ {xs ys:List Str},xs.map (·.cps.toList)=ys.map (·.cps.toList)->xs=ys
 | [],[],_=>rfl
 | [],_::_,h=>by cases h
 | _::_,[],h=>by cases h
 | x::xs,y::ys,h=>by
  injection h with h1 h2
  rw[str_ext h1,list_inj h2]
theorem split_join {c:Nat}{ws:List Str}(h0:ws≠[])(h:∀ w∈ws,c ∉ w.cps.toList):splitS (Str.join (sg c) ws) (sg c)=ws:=by
 have e:=StrLaws.join_split (Str.join (sg c) ws) (sg c);have f:∀ p∈splitS (Str.join (sg c) ws) (sg c),c ∉ p.cps.toList:=StrLaws.split_free (Str.join (sg c) ws) c;have e:Str.join (sg c) (splitS (Str.join (sg c) ws) (sg c))=Str.join (sg c) ws:=e;have n:=split_ne (Str.join (sg c) ws) (sg c);generalize splitS (Str.join (sg c) ws) (sg c)=zs at e f n;have e2:=congrArg (fun s:Str=>s.cps.toList) e;rw[join_list,join_list]at e2;refine list_inj (glue_inj (c:=c) (by simpa using n) (by simpa using h0) (fun x hx=>?_) (fun x hx=>?_) e2)
 ·obtain⟨p,hp,rfl⟩:=List.mem_map.mp hx
  exact f p hp
 ·obtain⟨p,hp,rfl⟩:=List.mem_map.mp hx
  exact h p hp
theorem part_at {a b:Str}{c:Nat}(h:c ∉ a.cps.toList):partS (a++sg c++b) (sg c)=[a,sg c,b]:=by
 have hl:(a++sg c++b).cps.toList=a.cps.toList++c::b.cps.toList:=by rw[app_list,app_list,List.append_assoc];rfl
 have at0:(a++sg c++b).cps.toList[a.cps.toList.length]?=some c:=by rw[hl,List.getElem?_append_right (Nat.le_refl _),Nat.sub_self];rfl
 have A0:=(StrLaws.subAt_one (a++sg c++b) c a.cps.toList.length).mpr at0;rcases StrLaws.occ_head (a++sg c++b) (sg c) 1 (Nat.le_refl _) with ⟨_,hn⟩|⟨i,r,e,hA,hn⟩
 ·exact absurd A0 (hn _)
 ·have hi:=(StrLaws.subAt_one (a++sg c++b) c i).mp hA
  have ei:i=a.cps.toList.length:=by
   rcases Nat.lt_trichotomy i a.cps.toList.length with z | z | z
   ·rw[hl,List.getElem?_append_left z]at hi
    exact absurd (List.mem_of_getElem? hi) h
   ·exact z
   ·exact absurd A0 (hn _ z)
  unfold partS;rw[e];have l1:(sg c).length=1:=rfl;have l0:(a++sg c++b).length=(a.cps.toList++c::b.cps.toList).length:=by rw[<- hl,len_toList]
  dsimp only;have e1:Builtin.Str.strSub (a++sg c++b) 0 i=a:=str_ext (by rw[StrLaws.strSub_toList,hl,ei];simp);have e2:Builtin.Str.strSub (a++sg c++b) (i + (sg c).length) (a++sg c++b).length=b:=str_ext (by
   have hd:(a.cps.toList++c::b.cps.toList).drop (a.cps.toList.length + 1)=b.cps.toList:=by
    rw[show a.cps.toList++c::b.cps.toList=(a.cps.toList++[c])++b.cps.toList by simp,List.drop_left' (by simp)]
   rw[StrLaws.strSub_toList,hl,ei,l1,hd];exact List.take_of_length_le (by rw[l0,List.length_append,List.length_cons];omega))
  rw[e1,e2]
theorem part_no {s:Str}{c:Nat}(h:c ∉ s.cps.toList):partS s (sg c)=[s,Str.empty,Str.empty]:=by
 rcases StrLaws.occ_head s (sg c) 1 (Nat.le_refl _) with ⟨e,_⟩|⟨i,r,e,hA,_⟩
 ·unfold partS
  rw[e]
 ·exact absurd (List.mem_of_getElem? ((StrLaws.subAt_one s c i).mp hA)) h
theorem join_len {sep:Str}{B:Nat}:∀ {ws:List Str},(∀ w∈ws,w.length<=B)->(Str.join sep ws).length<=ws.length * (B + sep.length)
 | [],_=>Nat.zero_le _
 | [x],h=>by
  have:=h x List.mem_cons_self
  show x.length<=1 * _;omega
 | x::y::r,h=>by
  have h1:=h x List.mem_cons_self;have h2:=join_len (sep:=sep) (ws:=y::r) fun w hw=>h w (List.mem_cons_of_mem _ hw);show (x++sep++Str.join sep (y::r)).length<=_;rw[len_app,len_app,List.length_cons,Nat.succ_mul];omega
theorem sum_len {B:Nat}:∀ {ws:List Str},(∀ w∈ws,w.length<=B)->(ws.map (·.length)).sum<=ws.length * B
 | [],_=>Nat.zero_le _
 | x::r,h=>by
  have h1:=h x List.mem_cons_self;have h2:=sum_len (ws:=r) fun w hw=>h w (List.mem_cons_of_mem _ hw);rw[List.map_cons,List.sum_cons,List.length_cons,Nat.succ_mul];omega
end Law
namespace Law
open PySem L3
section
variable {srt:List D->Option (List D)}
structure Gx (j:Nat) (M M':MH):Prop where
 keep:∀ k o,k≠j->M[k]?=some o->M'[k]?=some o
 len:M.length<=M'.length
theorem Gx.refl {j:Nat}{M:MH}:Gx j M M:=⟨fun _ _ _ e=>e,Nat.le_refl _⟩
theorem Gx.trans {j:Nat}{A B C:MH}(a:Gx j A B)(b:Gx j B C):Gx j A C:=⟨fun k o h e=>b.keep k o h (a.keep k o h e),Nat.le_trans a.len b.len⟩
theorem Gx.of {j:Nat}{M M':MH}(g:Gr M M'):Gx j M M':=⟨fun k o _ e=>g.keep k o e,g.len⟩
theorem Gx.set {j:Nat}{A M:MH}(g:Gx j A M)(o:MO):Gx j A (M.set j o):=⟨fun k u h e=>by rw[List.getElem?_set_ne (Ne.symm h)];exact g.keep k u h e,by rw[List.length_set];exact g.len⟩
noncomputable def Fd (M:MH)(j:Nat):Prop:=∃ (sc:List Int) (i:Int),0<=i/\M[j]?=some (.lst [.fl (sc.map .int),.int i])
theorem Fd.keep {M M':MH}{j:Nat}(h:Fd M j)(g:Gr M M'):Fd M' j:=by
 obtain⟨sc,i,h0,e⟩:=h;exact⟨sc,i,h0,g.keep _ _ e⟩
theorem draw_w (k:Nat)(M:MH){jf:Nat}(F:Fd M jf)(m:Int)(hm:0 < m){Q:D->MH->Prop}(q:∀ (r:Int) (M':MH),0<=r->r < m->Gx jf M M'->Fd M' jf->Q (.int r) M'):W ((cx srt (k + 1)).fn "_law_draw" [.ob jf,.int m]) M Q:=by
 have big:=line_big;obtain⟨sc,i,h0,hF⟩:=F;have hlt:jf < M.length:=(List.getElem?_eq_some_iff.mp hF).1;have fin:∀ c:Int,W (semSs (cx srt k) (dropS 2 b__law_draw) [some (.ob jf),some (.int m),some (.int c),none]) M (endF Q):=fun c=>by
  simp only[b__law_draw,drop_s,drop_0];walk_at "wq";refine⟨_,hF,?_⟩;walk_at "wq";refine⟨_,hF,?_⟩;walk_at "wq";refine⟨1,rfl,?_⟩;walk_at "wq";have hF2:(M.set jf (MO.lst [.fl (sc.map .int),.int (i + 1)]))[jf]?=some (.lst [.fl (sc.map .int),.int (i + 1)]):=by rw[List.getElem?_set_self hlt]
  have g2:Gx jf M (M.set jf (MO.lst [.fl (sc.map .int),.int (i + 1)])):=Gx.refl.set _;generalize M.set jf (MO.lst [.fl (sc.map .int),.int (i + 1)])=M2 at hF2 g2 ⊢;refine⟨by walk_at "o",.inr ⟨by walk_at "o",by walk_at "o"⟩,_,hF2,?_⟩;walk_at "wq";refine⟨.inr ⟨by walk_at "o",by walk_at "o"⟩,by walk_at "o",?_⟩;have x0:0<=(c % 1000003 * 48271 + (i + 1) * 7919) % 1000003:=Int.emod_nonneg _ (by walk_at "o");have x1:(c % 1000003 * 48271 + (i + 1) * 7919) % 1000003 < 1000003:=Int.emod_lt_of_pos _ (by walk_at "o");generalize (c % 1000003 * 48271 + (i + 1) * 7919) % 1000003=x at x0 x1 ⊢;walk_at "wq";refine⟨.inr ⟨by walk_at "o",by walk_at "o"⟩,by walk_at "o",.inr ⟨by walk_at "o",by walk_at "o"⟩,by walk_at "o",hm,?_⟩;exact q _ _ (Int.emod_nonneg _ (by walk_at "o")) (Int.emod_lt_of_pos _ hm) g2 ⟨sc,i + 1,by walk_at "o",hF2⟩
 simp only[b__law_draw,drop_s,drop_0]at fin;rw[f__law_draw,wf,b__law_draw];walk_at "wq";refine⟨_,hF,?_⟩;walk_at "wq";refine⟨_,hF,?_⟩;walk_at "wq";refine⟨fun h=>?_,fun h=>?_⟩
 ·rw[decide_eq_true_eq,List.length_map]at h
  obtain⟨n,rfl⟩:=Int.eq_ofNat_of_zero_le h0;have hn:n < sc.length:=by walk_at "o"
  walk_at "wq";refine⟨_,hF,?_⟩;walk_at "wq";refine⟨_,hF,?_⟩;walk_at "wq";refine⟨.int sc[n],atD_nat (by rw[List.getElem?_map,List.getElem?_eq_getElem hn];rfl),?_⟩;have t:=fin sc[n];revert t;walk_at "wq";exact id
 ·have t:=fin 0
  revert t;walk_at "wq";exact id
end
end Law
namespace Law
open PySem L3
section
variable {srt:List D->Option (List D)}
noncomputable def Of (s w:Str):Prop:=∀ c∈w.cps.toList,c∈s.cps.toList
noncomputable def abc:Str:="abcdefghijklmnopqrstuvwxyz"
noncomputable def abn:Str:="abcdefghijklmnopqrstuvwxyz0123456789"
theorem of_app {s a b:Str}(ha:Of s a)(hb:Of s b):Of s (a++b):=fun c h=>by
 rw[app_list]at h;exact(List.mem_append.mp h).elim (ha c) (hb c)
theorem of_cut {s w:Str}(h:Of s w)(lo hi:Option Int):Of s ⟨(cutD w.cps.toList lo hi).toArray⟩:=fun c hc=>by
 have hc:c∈cutD w.cps.toList lo hi:=by simpa using hc
 unfold cutD at hc;exact h c (List.mem_of_mem_drop (List.mem_of_mem_take hc))
theorem of_one {s:Str}{e:Nat}(he:e∈s.cps.toList):Of s ⟨#[e]⟩:=fun c hc=>by
 have hc:c=e:=by simpa using hc
 rw[hc];exact he
theorem signs_w (k:Nat)(M:MH)(c:Int)(n:Nat)(sg:Str)(hn:n<=100)(h0:0 < sg.length)(h1:sg.length<=1000){Q:D->MH->Prop}(q:∀ w:Str,w.length=n->Of sg w->Q (.str w) M):W ((cx srt (k + 1)).fn "_law_signs" [.int c,.int n,.str sg]) M Q:=by
 have big:=line_big;rw[f__law_signs,wf,b__law_signs];walk_at "wq";refine⟨⟨by walk_at "o",by walk_at "o"⟩,?_⟩;refine w_loop (fun m ρ M'=>M'=M/\∃ (c:Int) (w:Str) (x4:Option D),w.length=m/\Of sg w/\ρ=[some (.int c),some (.int n),some (.str sg),some (.str w),x4]) ⟨rfl,c,"",_,rfl,(fun c h=>nomatch h),rfl⟩ (fun _ _ _ _=>trivial) ?_ ?_
 ·rintro m d ρ M' hd ⟨rfl,c,w,x4,hw,hlo,rfl⟩
  obtain⟨rfl,hm⟩:=rng_get hd;have hmn:m < n:=by walk_at "o"
  walk_at "wq";have y0:0<=(c * 48271 + 12345) % 1000003 % (sg.length:Int):=Int.emod_nonneg _ (by walk_at "o");have y1:(c * 48271 + 12345) % 1000003 % (sg.length:Int) < (sg.length:Int):=Int.emod_lt_of_pos _ (by walk_at "o");obtain⟨e,he,hem⟩:=atD_in (xs:=sg.cps.toList) y0 (by rw[len_toList];exact y1);refine⟨.inr ⟨by walk_at "o",by walk_at "o"⟩,by walk_at "o",by walk_at "o",by walk_at "o",by walk_at "o",e,he,?_⟩;unfold sgn;walk_at "wq";have l1:Str.length ⟨#[e]⟩=1:=rfl;refine⟨by walk_at "o",_,_,_,?_,of_app hlo (of_one hem),rfl⟩;rw[len_app,hw,l1]
 ·rintro ρ M' ⟨rfl,c,w,x4,hw,hlo,rfl⟩
  rw[rng_len]at hw;walk_at "wq";exact q w (by walk_at "o") hlo
noncomputable def WordOk (s:Str)(n:Nat)(w:Str):Prop:=1<=w.length/\w.length<=n/\Of s w
theorem cut2_len (x:Str){lo hi:Int}(h0:0<=lo)(h1:lo<=x.length)(h2:0<=hi):Str.length ⟨(cutD x.cps.toList (some lo) (some hi)).toArray⟩<=hi.toNat - lo.toNat:=by
 show (cutD x.cps.toList (some lo) (some hi)).toArray.size<=_;rw[List.size_toArray];unfold cutD cutIx;dsimp only;rw[List.length_take,if_neg (by omega),if_neg (by omega),len_toList];omega
theorem cut1_len (x:Str){hi:Int}(h0:0<=hi)(h1:hi<=x.length):Str.length ⟨(cutD x.cps.toList none (some hi)).toArray⟩=hi.toNat:=by
 rw[cut_hi _ h0];show (List.take _ _).toArray.size=_;rw[List.size_toArray,List.length_take,len_toList];omega
theorem nd_map {f:Nat->Str}{n:Nat}(h:∀ i j,i < j->j < n->f i≠f j):((List.range n).map f).Nodup:=by
 unfold List.Nodup;rw[List.pairwise_map,List.pairwise_iff_getElem];intro i j hi hj hij;rw[List.getElem_range,List.getElem_range];exact h i j hij (by simpa using hj)
noncomputable def fa (w:Str)(k:Nat):Str:=⟨(cutD w.cps.toList none (some (0 + (k:Int) + 1))).toArray⟩
noncomputable def fb (s w:Str)(at' size first:Int)(k:Nat):Str:=⟨(cutD w.cps.toList none (some at')).toArray⟩++⟨#[(atD s.cps.toList ((first + (0 + (k:Int))) % s.length)).getD 0]⟩++⟨(cutD w.cps.toList (some (at' + 1)) (some size)).toArray⟩
theorem fa_ok {s w:Str}{n k:Nat}(h:w.length=n)(ho:Of s w)(hk:k < n):WordOk s n (fa w k):=by
 have e:=cut1_len w (hi:=0 + (k:Int) + 1) (by omega) (by omega);unfold fa;exact⟨by omega,by omega,of_cut ho _ _⟩
theorem fa_ne {w:Str}{i j:Nat}(hij:i < j)(hj:j < w.length):fa w i≠fa w j:=fun e=>by
 have e1:=cut1_len w (hi:=0 + (i:Int) + 1) (by omega) (by omega);have e2:=cut1_len w (hi:=0 + (j:Int) + 1) (by omega) (by omega);have e:=congrArg Str.length e;unfold fa at e;omega
theorem fb_at {s:Str}(hs:0 < s.length)(first:Int)(k:Nat):∃ e,atD s.cps.toList ((first + (0 + (k:Int))) % s.length)=some e/\e∈s.cps.toList:=atD_in (Int.emod_nonneg _ (by omega)) (by rw[len_toList];exact Int.emod_lt_of_pos _ (by omega))
theorem fb_ok {s w:Str}{n k:Nat}{at' size first:Int}(hs:0 < s.length)(h:w.length=n)(ho:Of s w)(h0:0<=at')(h1:at' < size)(h2:size<=n):WordOk s n (fb s w at' size first k):=by
 obtain⟨e,he,hm⟩:=fb_at hs first k
 unfold fb;rw[he];have c1:=cut1_len w (hi:=at') h0 (by omega);have c2:=cut2_len w (lo:=at' + 1) (hi:=size) (by omega) (by omega) (by omega);have l1:Str.length ⟨#[e]⟩=1:=rfl;refine⟨?_,?_,of_app (of_app (of_cut ho _ _) (of_one hm)) (of_cut ho _ _)⟩
 ·rw[len_app,len_app]
  dsimp only[Option.getD];omega
 ·rw[len_app,len_app]
  dsimp only[Option.getD];omega
theorem at_inj {α:Type}{l:List α}(nd:l.Nodup){i j:Int}{x:α}(hi:0<=i)(hj:0<=j)(h1:atD l i=some x)(h2:atD l j=some x):i=j:=by
 obtain⟨a,rfl⟩:=Int.eq_ofNat_of_zero_le hi;obtain⟨b,rfl⟩:=Int.eq_ofNat_of_zero_le hj;have g:∀ n:Nat,atD l (n:Int)=some x->∃ h:n < l.length,l[n]=x:=fun n h=>by
  unfold atD ixD at h;rw[if_pos (by omega)]at h;split at h
  ·exact List.getElem?_eq_some_iff.mp h
  ·cases h
 obtain⟨ha,ea⟩:=g a h1;obtain⟨hb,eb⟩:=g b h2;have pw:=List.pairwise_iff_getElem.mp nd;rcases Nat.lt_trichotomy a b with z | z | z
 ·exact absurd (ea.trans eb.symm) (pw a b ha hb z)
 ·rw[z]
 ·exact absurd (eb.trans ea.symm) (pw b a hb ha z)
theorem fb_ne {s w:Str}{i j:Nat}{at' size first:Int}(hs:0 < s.length)(h36:s.length=36)(nd:s.cps.toList.Nodup)(hij:i < j)(hj:j < s.length):fb s w at' size first i≠fb s w at' size first j:=fun e=>by
 obtain⟨a,ha,_⟩:=fb_at hs first i
 obtain⟨b,hb,_⟩:=fb_at hs first j
 unfold fb at e;rw[ha,hb]at e;have e:=congrArg (fun s:Str=>s.cps.toList) e;simp only[app_list,List.append_assoc,Option.getD_some]at e;have e:=List.append_cancel_left e;have e:a=b:=by
  have e:a::_=b::_:=e;injection e
 subst e
 have:=at_inj nd (Int.emod_nonneg _ (by omega)) (Int.emod_nonneg _ (by omega)) ha hb
 rw[h36]at this;omega
theorem abc_len:abc.length=26:=by decide
theorem abn_len:abn.length=36:=by decide
theorem abn_nd:abn.cps.toList.Nodup:=by decide +kernel
theorem names_w (k:Nat)(M:MH){jf:Nat}(F:Fd M jf)(n:Nat)(hn:n<=8){Q:D->MH->Prop}
  (q:∀ (ws:List Str) (j:Nat) (M':MH),ws.length=n->(∀ w∈ws,WordOk abc 8 w)->Gx jf M M'->Fd M' jf->M.length<=j->M'[j]?=some (.lst (ws.map .str))->Q (.ob j) M'):W ((cx srt (k + 2)).fn "_law_names" [.ob jf,.int n]) M Q:=by
 have big:=line_big;have la:=abc_len;rw[f__law_names,wf,b__law_names];walk_at "wq";refine draw_w k M F _ (by walk_at "o") fun r1 M1 a1 b1 g1 F1=>?_;walk_at "wq";refine signs_w k M1 r1 8 abc (by walk_at "o") (by decide) (by decide) fun w hw ho=>?_;walk_at "wq";refine draw_w k M1 F1 _ (by walk_at "o") fun r2 M2 a2 b2 g2 F2=>?_;have g2':=g1.trans g2;walk_at "wq";refine⟨fun _=>?_,fun _=>?_⟩
 ·walk_at "wq"
  refine⟨⟨by walk_at "o",by walk_at "o"⟩,by rw[rng_len];omega,?_⟩;refine w_compI (fun m ys M'=>M'=M2/\ys=((List.range m).map (fa w)).map .str) ⟨rfl,rfl⟩ (fun _ _ _ _=>trivial) ?_ ?_
  ·rintro m d ys M' hd ⟨rfl,rfl⟩
   obtain⟨rfl,hm⟩:=rng_get hd;walk_at "wq";exact⟨by walk_at "o",by rw[List.range_succ,List.map_append,List.map_append];rfl⟩
  ·rintro ys M' ⟨rfl,rfl⟩
   rw[rng_len];refine q _ _ _ (by rw[List.length_map,List.length_range];omega) (fun v hv=>?_) (g2'.trans (Gx.of (Gr.app _ _))) (F2.keep (Gr.app _ _)) g2'.len (get_new _ _);obtain⟨i,hi,rfl⟩:=List.mem_map.mp hv;rw[List.mem_range]at hi;exact fa_ok hw ho (by omega)
 ·refine draw_w k M2 F2 _ (by walk_at "o") fun r3 M3 a3 b3 g3 F3=>?_
  have g3':=g2'.trans g3;walk_at "wq";refine draw_w k M3 F3 _ (by walk_at "o") fun r4 M4 a4 b4 g4 F4=>?_;have g4':=g3'.trans g4;walk_at "wq";refine draw_w k M4 F4 _ (by walk_at "o") fun r5 M5 a5 b5 g5 F5=>?_;have g5':=g4'.trans g5;walk_at "wq";refine⟨⟨by walk_at "o",by walk_at "o"⟩,by rw[rng_len];omega,?_⟩;refine w_compI (fun m ys M'=>M'=M5/\ys=((List.range m).map (fb abc w r4 (1 + r3) r5)).map .str) ⟨rfl,rfl⟩ (fun _ _ _ _=>trivial) ?_ ?_
  ·rintro m d ys M' hd ⟨rfl,rfl⟩
   obtain⟨rfl,hm⟩:=rng_get hd;obtain⟨e,he,_⟩:=fb_at (s:=abc) (by decide) r5 m;have c1:=len_cut w none (some r4);have c2:=len_cut w (some (r4 + 1)) (some (1 + r3));have l1:Str.length ⟨#[e]⟩=1:=rfl;walk_at "wq";refine⟨by walk_at "o",by walk_at "o",by decide,e,he,?_⟩;unfold sgn;walk_at "wq";refine⟨by walk_at "o",by walk_at "o",by rw[len_app];omega,?_⟩;rw[List.range_succ,List.map_append,List.map_append];congr 1;show _=[D.str (fb abc w r4 (1 + r3) r5 m)];unfold fb;rw[he];rfl
  ·rintro ys M' ⟨rfl,rfl⟩
   rw[rng_len];refine q _ _ _ (by rw[List.length_map,List.length_range];omega) (fun v hv=>?_) (g5'.trans (Gx.of (Gr.app _ _))) (F5.keep (Gr.app _ _)) g5'.len (get_new _ _);obtain⟨i,hi,rfl⟩:=List.mem_map.mp hv;exact fb_ok (by decide) hw ho a4 b4 (by omega)
theorem values_w (k:Nat)(M:MH){jf:Nat}(F:Fd M jf)(n:Nat)(hn:n<=8){Q:D->MH->Prop}
  (q:∀ (ws:List Str) (j:Nat) (M':MH),ws.length=n->(∀ w∈ws,WordOk abn 12 w)->ws.Nodup->Gx jf M M'->Fd M' jf->M.length<=j->M'[j]?=some (.lst (ws.map .str))->Q (.ob j) M'):W ((cx srt (k + 2)).fn "_law_values" [.ob jf,.int n]) M Q:=by
 have big:=line_big;have la:=abn_len;rw[f__law_values,wf,b__law_values];walk_at "wq";refine draw_w k M F _ (by walk_at "o") fun r1 M1 a1 b1 g1 F1=>?_;walk_at "wq";refine signs_w k M1 r1 12 abn (by walk_at "o") (by decide) (by decide) fun w hw ho=>?_;walk_at "wq";refine draw_w k M1 F1 _ (by walk_at "o") fun r2 M2 a2 b2 g2 F2=>?_;have g2':=g1.trans g2;walk_at "wq";refine⟨fun _=>?_,fun _=>?_⟩
 ·walk_at "wq"
  refine⟨⟨by walk_at "o",by walk_at "o"⟩,by rw[rng_len];omega,?_⟩;refine w_compI (fun m ys M'=>M'=M2/\ys=((List.range m).map (fa w)).map .str) ⟨rfl,rfl⟩ (fun _ _ _ _=>trivial) ?_ ?_
  ·rintro m d ys M' hd ⟨rfl,rfl⟩
   obtain⟨rfl,hm⟩:=rng_get hd;walk_at "wq";exact⟨by walk_at "o",by rw[List.range_succ,List.map_append,List.map_append];rfl⟩
  ·rintro ys M' ⟨rfl,rfl⟩
   rw[rng_len];refine q _ _ _ (by rw[List.length_map,List.length_range];omega) (fun v hv=>?_) (nd_map fun i j hij hj=>fa_ne hij (by omega)) (g2'.trans (Gx.of (Gr.app _ _))) (F2.keep (Gr.app _ _)) g2'.len (get_new _ _);obtain⟨i,hi,rfl⟩:=List.mem_map.mp hv;rw[List.mem_range]at hi;exact fa_ok hw ho (by omega)
 ·refine draw_w k M2 F2 _ (by walk_at "o") fun r3 M3 a3 b3 g3 F3=>?_
  have g3':=g2'.trans g3;walk_at "wq";refine draw_w k M3 F3 _ (by walk_at "o") fun r4 M4 a4 b4 g4 F4=>?_;have g4':=g3'.trans g4;walk_at "wq";refine draw_w k M4 F4 _ (by walk_at "o") fun r5 M5 a5 b5 g5 F5=>?_;have g5':=g4'.trans g5;walk_at "wq";refine⟨⟨by walk_at "o",by walk_at "o"⟩,by rw[rng_len];omega,?_⟩;refine w_compI (fun m ys M'=>M'=M5/\ys=((List.range m).map (fb abn w r4 (1 + r3) r5)).map .str) ⟨rfl,rfl⟩ (fun _ _ _ _=>trivial) ?_ ?_
  ·rintro m d ys M' hd ⟨rfl,rfl⟩
   obtain⟨rfl,hm⟩:=rng_get hd;obtain⟨e,he,_⟩:=fb_at (s:=abn) (by decide) r5 m;have c1:=len_cut w none (some r4);have c2:=len_cut w (some (r4 + 1)) (some (1 + r3));have l1:Str.length ⟨#[e]⟩=1:=rfl;walk_at "wq";refine⟨by walk_at "o",by walk_at "o",by decide,e,he,?_⟩;unfold sgn;walk_at "wq";refine⟨by walk_at "o",by walk_at "o",by rw[len_app];omega,?_⟩;rw[List.range_succ,List.map_append,List.map_append];congr 1;show _=[D.str (fb abn w r4 (1 + r3) r5 m)];unfold fb;rw[he];rfl
  ·rintro ys M' ⟨rfl,rfl⟩
   rw[rng_len];refine q _ _ _ (by rw[List.length_map,List.length_range];omega) (fun v hv=>?_) (nd_map fun i j hij hj=>fb_ne (by decide) abn_len abn_nd hij (by omega)) (g5'.trans (Gx.of (Gr.app _ _))) (F5.keep (Gr.app _ _)) g5'.len (get_new _ _);obtain⟨i,hi,rfl⟩:=List.mem_map.mp hv;exact fb_ok (by decide) hw ho a4 b4 (by omega)
end
end Law
namespace Law
open PySem L3
section
variable {srt:List D->Option (List D)}
noncomputable def ofB (s w:Str):Bool:=w.cps.toList.all fun c=>decide (c∈s.cps.toList)
theorem ofB_iff {s w:Str}:ofB s w=true ↔ Of s w:=by unfold ofB Of;rw[List.all_eq_true];exact⟨fun h c hc=>of_decide_eq_true (h c hc),fun h c hc=>decide_eq_true (h c hc)⟩
noncomputable def okB (s:Str)(n:Nat)(w:Str):Bool:=decide (1<=w.length)&&(decide (w.length<=n)&&ofB s w)
theorem okB_iff {s w:Str}{n:Nat}:okB s n w=true ↔ WordOk s n w:=by unfold okB WordOk;simp[Bool.and_eq_true,ofB_iff]
theorem occ_eq (t:Str)(c:Nat):strOcc t ⟨#[c]⟩=decide (c∈t.cps.toList):=by
 unfold strOcc;rw[StrLaws.found_one]
theorem made_g (k:Nat)(M:MH)(w s:Str)(hw:w.length<=2000){Q:D->MH->Prop}(q:∀ M',Gr M M'->Q (.bl (ofB s w)) M'):W ((cx srt (k + 1)).fn "made_of" [.str w,.str s]) M Q:=by
 have big:=line_big;rw[f_made_of,wf,b_made_of];walk_at "wq";refine⟨by walk_at "o",by rw[List.length_map,len_toList];omega,?_⟩;refine w_compI (fun m ys M'=>M'=M/\ys=((w.cps.toList.take m).map fun c=>decide (c∈s.cps.toList)).map D.bl) ⟨rfl,rfl⟩ (fun _ _ _ _=>trivial) ?_ ?_
 ·rintro m d ys M' hd ⟨rfl,rfl⟩
  rw[List.getElem?_map]at hd;obtain⟨c,hc,rfl⟩:=Option.map_eq_some_iff.mp hd;unfold sgn;walk_at "wq";rw[occ_eq,List.take_succ,hc];simp
 ·rintro ys M' ⟨rfl,rfl⟩
  walk_at "wq";refine⟨_,get_new _ _,_,mapM_bools _,?_⟩;have e:((w.cps.toList.take (w.cps.toList.map sgn).length).map fun c=>decide (c∈s.cps.toList)).all id=ofB s w:=by
   rw[List.length_map,List.take_length,List.all_map];rfl
  rw[e];exact q _ (Gr.app _ _)
theorem isName_g (k:Nat)(M:MH)(w:Str)(hw:w.length<=2000){Q:D->MH->Prop}(q:∀ M',Gr M M'->Q (.bl (okB abc 8 w)) M'):W ((cx srt (k + 2)).fn "is_name" [.str w]) M Q:=by
 have big:=line_big;rw[f_is_name,wf,b_is_name];walk_at "wq";refine⟨by walk_at "o",?_⟩;unfold okB at q;by_cases h1:1<=w.length
 ·rw[decide_eq_true (show (1:Int)<=w.length by omega)]
  rw[decide_eq_true h1,Bool.true_and]at q;walk_at "wq";refine⟨_,rfl,?_⟩;walk_at "wq";by_cases h2:w.length<=8
  ·rw[decide_eq_true (show (w.length:Int)<=8 by omega)]
   rw[decide_eq_true h2,Bool.true_and]at q;walk_at "wq";refine⟨_,rfl,?_⟩;walk_at "wq";exact made_g k M w abc hw q
  ·rw[decide_eq_false (show ¬ (w.length:Int)<=8 by omega)]
   rw[decide_eq_false h2,Bool.false_and]at q;walk_at "wq";exact q _ Gr.refl
 ·rw[decide_eq_false (show ¬ (1:Int)<=w.length by omega)]
  rw[decide_eq_false h1,Bool.false_and]at q;walk_at "wq";exact q _ Gr.refl
theorem isVal_g (k:Nat)(M:MH)(w:Str)(hw:w.length<=2000){Q:D->MH->Prop}(q:∀ M',Gr M M'->Q (.bl (okB abn 12 w)) M'):W ((cx srt (k + 2)).fn "is_value" [.str w]) M Q:=by
 have big:=line_big;rw[f_is_value,wf,b_is_value];walk_at "wq";refine⟨by walk_at "o",?_⟩;unfold okB at q;by_cases h1:1<=w.length
 ·rw[decide_eq_true (show (1:Int)<=w.length by omega)]
  rw[decide_eq_true h1,Bool.true_and]at q;walk_at "wq";refine⟨_,rfl,?_⟩;walk_at "wq";by_cases h2:w.length<=12
  ·rw[decide_eq_true (show (w.length:Int)<=12 by omega)]
   rw[decide_eq_true h2,Bool.true_and]at q;walk_at "wq";refine⟨_,rfl,_,rfl,?_⟩;walk_at "wq";refine⟨by walk_at "o",?_⟩;exact made_g k M w abn hw q
  ·rw[decide_eq_false (show ¬ (w.length:Int)<=12 by omega)]
   rw[decide_eq_false h2,Bool.false_and]at q;walk_at "wq";exact q _ Gr.refl
 ·rw[decide_eq_false (show ¬ (1:Int)<=w.length by omega)]
  rw[decide_eq_false h1,Bool.false_and]at q;walk_at "wq";exact q _ Gr.refl
theorem hasName_g (k:Nat)(M:MH)(j:Nat)(ps:List (Str×Str))(n:Str)(hj:M[j]?=some (.lst (ps.map prD)))(hl:ps.length<=1000){Q:D->MH->Prop}(q:∀ M',Gr M M'->Q (.bl (decide (n∈ps.map (·.1)))) M'):W ((cx srt (k + 1)).fn "has_name" [.ob j,.str n]) M Q:=by
 have big:=line_big;rw[f_has_name,wf,b_has_name];walk_at "wq";refine⟨_,hj,by rw[List.length_map];omega,?_⟩;refine w_compI (fun m ys M'=>M'=M/\ys=((ps.take m).map fun p=>p.1==n).map D.bl) ⟨rfl,rfl⟩ (fun _ _ _ h=>h.1 ▸ hj) ?_ ?_
 ·rintro m d ys M' hd ⟨rfl,rfl⟩
  rw[List.getElem?_map]at hd;obtain⟨p,hp,rfl⟩:=Option.map_eq_some_iff.mp hd;unfold prD;walk_at "wq";rw[List.take_succ,hp];simp
 ·rintro ys M' ⟨rfl,rfl⟩
  walk_at "wq";refine⟨_,get_new _ _,_,mapM_bools _,?_⟩;have e:((ps.take (ps.map prD).length).map fun p=>p.1==n).any id=decide (n∈ps.map (·.1)):=by
   rw[List.length_map,List.take_length,List.any_map,Bool.eq_iff_iff];simp only[List.any_eq_true,Function.comp,id,beq_iff_eq,decide_eq_true_eq,List.mem_map]
  rw[e];exact q _ (Gr.app _ _)
end
end Law
namespace Law
open PySem L3
section
variable {srt:List D->Option (List D)}
theorem clean_g (k:Nat)(M:MH)(w s:Str)(n:Nat)(hw:w.length<=2000)(hs:s.length<=100)(hn:n<=100){Q:D->MH->Prop}(q:Q (.bl (okB (abc++s) n w)) M):W ((cx srt (k + 1)).fn "_law_clean" [.str w,.int n,.str s]) M Q:=by
 have big:=line_big;have hl:abc.length=26:=abc_len;rw[f__law_clean,wf,b__law_clean];unfold okB at q;walk_at "wq";by_cases h1:1<=w.length
 ·rw[decide_eq_true h1,Bool.true_and]at q
  rw[decide_eq_false (show ¬ (w.length:Int) < 1 by omega)];walk_at "wq";by_cases h2:w.length<=n
  ·rw[decide_eq_true h2,Bool.true_and]at q
   rw[decide_eq_false (show ¬ (w.length:Int) > n by omega)];walk_at "wq";refine⟨by omega,by omega,by walk_at "o",?_⟩;refine w_loop (fun m ρ M'=>M'=M/\(∃ x,ρ=[some (.str w),some (.int n),some (.str s),x])/\∀ c∈w.cps.toList.take m,c∈(abc++s).cps.toList) ⟨rfl,⟨_,rfl⟩,fun c hc=>by simp at hc⟩ (fun _ _ _ _=>trivial) ?_ ?_
   ·rintro m d ρ M' hd ⟨rfl,⟨x,rfl⟩,hm⟩
    rw[List.getElem?_map]at hd;obtain⟨c,hc,rfl⟩:=Option.map_eq_some_iff.mp hd;unfold sgn;walk_at "wq";refine⟨by have:(Str.ofString "abcdefghijklmnopqrstuvwxyz").length=26:=abc_len;omega,?_,?_⟩
    ·intro hx
     rw[Bool.not_eq_true',occ_eq,decide_eq_false_iff_not]at hx;have e:ofB (abc++s) w=false:=by
      rw[<- Bool.not_eq_true,ofB_iff];exact fun z=>hx (z c (List.mem_of_getElem? hc))
     rw[e]at q;exact q
    ·intro hx
     rw[Bool.not_eq_false',occ_eq,decide_eq_true_eq]at hx;refine⟨⟨_,rfl⟩,fun c' h'=>?_⟩;rw[List.take_succ,hc,List.mem_append]at h';rcases h' with h' | h'
     ·exact hm c' h'
     ·have:c'=c:=by simpa using h'
      rw[this];exact hx
   ·rintro ρ M' ⟨rfl,⟨x,rfl⟩,hm⟩
    walk_at "wq";rw[List.length_map,List.take_length]at hm;rw[ofB_iff.mpr hm]at q;exact q
  ·rw[decide_eq_false h2,Bool.false_and]at q
   rw[decide_eq_true (show (w.length:Int) > n by omega)];walk_at "wq";exact⟨by omega,by omega,q⟩
 ·rw[decide_eq_false h1,Bool.false_and]at q
  rw[decide_eq_true (show (w.length:Int) < 1 by omega)];walk_at "wq";exact⟨by omega,q⟩
noncomputable def markT (p:Str×Str):Str:=p.1++"="++p.2
noncomputable def MarkOk (p:Str×Str):Prop:=WordOk abc 8 p.1/\WordOk abn 12 p.2
theorem abn_sign:∀ c∈abn.cps.toList,48<=c/\c<=122/\c≠61:=by decide +kernel
theorem abc_sign:∀ c∈abc.cps.toList,97<=c/\c<=122:=by decide +kernel
theorem not_abc {w:Str}{n c:Nat}(h:WordOk abc n w)(hc:c < 97\/122 < c):c ∉ w.cps.toList:=fun z=>by
 have:=abc_sign c (h.2.2 c z)
 omega
theorem not_abn {w:Str}{n c:Nat}(h:WordOk abn n w)(hc:c < 48\/122 < c\/c=61):c ∉ w.cps.toList:=fun z=>by
 have:=abn_sign c (h.2.2 c z)
 omega
theorem part_cases (s:Str)(c:Nat):(∃ a b,c ∉ a.cps.toList/\s=a++sg c++b)\/c ∉ s.cps.toList:=by
 by_cases h:c∈s.cps.toList
 ·left
  obtain⟨l1,l2,e,hn⟩:∃ l1 l2,s.cps.toList=l1++c::l2/\c ∉ l1:=by
   revert h;generalize s.cps.toList=l;intro h;induction l with
   | nil=>cases h
   | cons x l ih =>
    by_cases e:x=c
    ·exact⟨[],l,by rw[e];rfl,by simp⟩
    ·obtain⟨l1,l2,e1,e2⟩:=ih ((List.mem_cons.mp h).resolve_left (Ne.symm e))
     exact⟨x::l1,l2,by rw[e1];rfl,fun z=>by
      rcases List.mem_cons.mp z with z | z
      ·exact e z.symm
      ·exact e2 z⟩
  refine⟨⟨l1.toArray⟩,⟨l2.toArray⟩,by simpa using hn,str_ext ?_⟩;rw[app_list,app_list,List.append_assoc,e];simp[sg]
 ·exact .inr h
theorem join_of_split (s:Str)(c:Nat):Str.join (sg c) (splitS s (sg c))=s:=StrLaws.join_split s (sg c)
theorem free_of_split (s:Str)(c:Nat):∀ p∈splitS s (sg c),c ∉ p.cps.toList:=StrLaws.split_free s c
noncomputable def IsMark (w:Str)(p:Str×Str):Prop:=MarkOk p/\w=markT p
theorem mark_one {w:Str}{p q:Str×Str}(h:IsMark w p)(g:IsMark w q):p=q:=by
 have e:=h.2.symm.trans g.2;have e2:=congrArg (fun s:Str=>s.cps.toList) e;unfold markT at e2;simp only[app_list,List.append_assoc]at e2;obtain⟨e3,e4⟩:=cut_uniq (c:=61) (not_abc h.1.1 (by omega)) (not_abc g.1.1 (by omega)) e2;exact Prod.ext (str_ext e3) (str_ext e4)
theorem mark_cut {w a b:Str}{p:Str×Str}(h:IsMark w p)(e:w=a++sg 61++b)(hn:61 ∉ a.cps.toList):p=(a,b):=by
 have e2:=congrArg (fun s:Str=>s.cps.toList) (h.2.symm.trans e);unfold markT at e2;simp only[app_list,List.append_assoc]at e2;obtain⟨e3,e4⟩:=cut_uniq (c:=61) (not_abc h.1.1 (by omega)) hn e2;exact Prod.ext (str_ext e3) (str_ext e4)
theorem mark_has {w:Str}{p:Str×Str}(h:IsMark w p):61∈w.cps.toList:=by
 rw[h.2];unfold markT;rw[app_list,app_list];exact List.mem_append_left _ (List.mem_append_right _ (by decide))
theorem readMark_g (k:Nat)(M:MH)(w:Str)(hw:w.length<=2000){Q:D->MH->Prop}(q1:∀ p M',IsMark w p->Gr M M'->Q (.tup [.str p.1,.str p.2]) M')(q2:∀ M',(∀ p,¬ IsMark w p)->Gr M M'->Q .non M'):W ((cx srt (k + 3)).fn "read_mark" [.str w]) M Q:=by
 have big:=line_big;rw[f_read_mark,wf,b_read_mark];walk_at "wq";refine⟨⟨by decide,by omega⟩,?_⟩;have se:(Str.ofString "=")=sg 61:=by decide
 rcases part_cases w 61 with ⟨a,b,hn,e⟩ | hn
 ·have lw:w.length=a.length + 1 + b.length:=by rw[e,len_app,len_app];rfl
  have ps:(partS w (Str.ofString "=")).map D.str=[.str a,.str (sg 61),.str b]:=by rw[se,e,part_at hn];rfl
  rw[ps];walk_at "wq";refine isName_g (srt:=srt) k M a (by omega) fun M1 g1=>?_;walk_at "wq";cases ea:okB abc 8 a with
  | false =>
   walk_at "wq";refine q2 _ (fun p hp=>?_) g1
   have:=mark_cut hp e hn
   subst this;rw[okB_iff.mpr hp.1.1]at ea;cases ea
  | true =>
   walk_at "wq";refine isVal_g (srt:=srt) k M1 b (by omega) fun M2 g2=>?_;walk_at "wq";cases eb:okB abn 12 b with
   | false =>
    walk_at "wq";refine q2 _ (fun p hp=>?_) (g1.trans g2)
    have:=mark_cut hp e hn
    subst this;rw[okB_iff.mpr hp.1.2]at eb;cases eb
   | true =>
    walk_at "wq";exact⟨by omega,q1 (a,b) _ ⟨⟨okB_iff.mp ea,okB_iff.mp eb⟩,by rw[e,<- se];rfl⟩ (g1.trans g2)⟩
 ·have ps:(partS w (Str.ofString "=")).map D.str=[.str w,.str Str.empty,.str Str.empty]:=by rw[se,part_no hn];rfl
  rw[ps];walk_at "wq";refine isName_g (srt:=srt) k M w (by omega) fun M1 g1=>?_;walk_at "wq";cases ea:okB abc 8 w with
  | false =>
   walk_at "wq";refine q2 _ (fun p hp=>?_) g1;exact hn (mark_has hp)
  | true =>
   walk_at "wq";refine isVal_g (srt:=srt) k M1 Str.empty (by decide) fun M2 g2=>?_;rw[show okB abn 12 Str.empty=false from by decide +kernel];walk_at "wq";refine q2 _ (fun p hp=>?_) (g1.trans g2);exact hn (mark_has hp)
theorem glue_len {c:Nat}:∀ xs:List (List Nat),xs.length<=(glue [c] xs).length + 1
 | []=>Nat.zero_le _
 | [x]=>by show 1<=_;omega
 | x::y::r=>by
  have h:=glue_len (c:=c) (y::r);show (y::r).length + 1<=(x++[c]++glue [c] (y::r)).length + 1;rw[List.length_append,List.length_append];simp only[List.length_cons,List.length_nil]at h ⊢;omega
theorem split_len (s:Str)(c:Nat):(splitS s (sg c)).length<=s.length + 1:=by
 have e:=congrArg (fun s:Str=>s.cps.toList.length) (join_of_split s c);simp only[join_list]at e;have h:=glue_len (c:=c) ((splitS s (sg c)).map (·.cps.toList));rw[List.length_map]at h;rw[<- len_toList,<- e];exact h
theorem mark_split {w:Str}{p:Str×Str}(h:IsMark w p):splitS w (sg 61)=[p.1,p.2]:=by
 rw[h.2];exact split_join (c:=61) (ws:=[p.1,p.2]) (by simp) (fun x hx=>by
  rcases List.mem_cons.mp hx with rfl | hx
  ·exact not_abc h.1.1 (by omega)
  ·rw[List.mem_singleton.mp hx]
   exact not_abn h.1.2 (by omega))
theorem pair_g (k:Nat)(M:MH)(w:Str)(hw:w.length<=2000){Q:D->MH->Prop}(q1:∀ p M',IsMark w p->Gr M M'->Q (.tup [.str p.1,.str p.2]) M')(q2:∀ M',(∀ p,¬ IsMark w p)->Gr M M'->Q .non M'):W ((cx srt (k + 2)).fn "_law_pair" [.str w]) M Q:=by
 have big:=line_big;rw[f__law_pair,wf,b__law_pair];have se:(Str.ofString "=")=sg 61:=by decide
 have ej:=join_of_split w 61;have ef:=free_of_split w 61;have en:=split_ne w (sg 61);have el:=split_len w 61;have em:∀ p,IsMark w p->splitS w (sg 61)=[p.1,p.2]:=fun p=>mark_split;rw[<- se]at ej ef en el em;walk_at "wq";refine⟨⟨by decide,by omega,by omega⟩,?_⟩;by_cases h2:(splitS w (Str.ofString "=")).length=2
 ·obtain⟨a,b,e⟩:∃ a b,splitS w (Str.ofString "=")=[a,b]:=by
   generalize splitS w (Str.ofString "=")=l at h2;match l,h2 with
   | [a,b],_=>exact⟨a,b,rfl⟩
  rw[e]at ej em ef ⊢;have ej:a++Str.ofString "="++b=w:=ej;have lw:w.length=a.length + 1 + b.length:=by rw[<- ej,len_app,len_app];rfl
  have hnew:(M++[MO.lst ([a,b].map D.str)])[M.length]?=some (.lst [.str a,.str b]):=get_new _ _;have g0:Gr M (M++[MO.lst ([a,b].map D.str)]):=Gr.app _ _;generalize M++[MO.lst ([a,b].map D.str)]=M2 at hnew g0 ⊢;refine⟨_,hnew,fun _=>⟨_,hnew,?_⟩,fun z=>?_⟩
  ·walk_at "wq"
   refine clean_g (srt:=srt) k M2 a "" 8 (by omega) (by decide) (by omega) ?_;rw[show abc++("" : Str)=abc from by decide +kernel];cases ea:okB abc 8 a with
   | false =>
    walk_at "wq";refine q2 _ (fun p hp=>?_) g0;have e2:=em p hp;injection e2 with e2 e3
    rw[e2,okB_iff.mpr hp.1.1]at ea;cases ea
   | true =>
    walk_at "wq";refine⟨_,hnew,?_⟩;walk_at "wq";refine clean_g (srt:=srt) k M2 b "0123456789" 12 (by omega) (by decide) (by omega) ?_;rw[show abc++("0123456789" : Str)=abn from by decide +kernel];cases eb:okB abn 12 b with
    | false =>
     walk_at "wq";refine q2 _ (fun p hp=>?_) g0;have e2:=em p hp;injection e2 with e2 e3
     injection e3 with e3 e4
     rw[e3,okB_iff.mpr hp.1.2]at eb;cases eb
    | true =>
     walk_at "wq";refine⟨_,hnew,?_⟩;walk_at "wq";refine⟨_,hnew,?_⟩;walk_at "wq";exact⟨by omega,q1 (a,b) _ ⟨⟨okB_iff.mp ea,okB_iff.mp eb⟩,ej.symm⟩ g0⟩
  ·exact absurd z (by simp[lenO])
 ·refine⟨_,get_new _ _,fun z=>?_,fun _=>q2 _ (fun p hp=>h2 ?_) (Gr.app _ _)⟩
  ·exact absurd z (by simp[lenO];omega)
  ·rw[em p hp];rfl
end
end Law
namespace Law
open PySem L3
section
variable {srt:List D->Option (List D)}
inductive Kd where
 | is | no | there | lacks
 deriving DecidableEq
noncomputable def kdW:Kd->Str
 | .is=>"is" | .no=>"no" | .there=>"there" | .lacks=>"lacks"
noncomputable def kdS:Kd->Nat
 | .is=>61 | .no=>33 | .there=>43 | .lacks=>45
noncomputable def kds:List Kd:=[.is,.no,.there,.lacks]
structure Ask where
 k:Kd
 n:Str
 vs:List Str
noncomputable def askD (a:Ask):D:=.tup [.str (kdW a.k),.str a.n,.tup (a.vs.map .str)]
noncomputable def bar (vs:List Str):Str:=Str.join (sg 124) vs
noncomputable def askT (a:Ask):Str:=a.n++sg (kdS a.k)++bar a.vs
noncomputable def isKd:Kd->Bool
 | .is=>true | .no=>true | _=>false
structure AskOk (a:Ask):Prop where
 n:WordOk abc 8 a.n
 v:∀ v∈a.vs,WordOk abn 12 v
 l:a.vs.length<=3
 nd:a.vs.Nodup
 ne:isKd a.k=true->a.vs≠[]
 e:isKd a.k=false->a.vs=[]
theorem bar_len {vs:List Str}(h:∀ v∈vs,WordOk abn 12 v)(l:vs.length<=3):(bar vs).length<=39:=by
 have:=join_len (sep:=sg 124) (B:=12) (ws:=vs) fun w hw=>(h w hw).2.1
 have l1:(sg 124).length=1:=rfl;rw[l1]at this;unfold bar;omega
theorem kdS_inj:∀ {k l:Kd},kdS k=kdS l->k=l:=by
 intro k l;cases k <;> cases l <;> simp[kdS]
theorem kdS_97 (k:Kd):kdS k < 97:=by cases k <;> simp[kdS]
theorem addAll_nd:∀ (ys xs:List Str),(xs++ys).Nodup->addAll xs ys=xs++ys
 | [],xs,_=>by rw[List.append_nil];rfl
 | y::ys,xs,h=>by
  have hy:y ∉ xs:=fun z=>by
   have:=(List.nodup_append.mp h).2.2 y z y List.mem_cons_self
   exact this rfl
  have e:addS xs y=xs++[y]:=if_neg hy;rw[addAll,e,addAll_nd ys (xs++[y]) (by rw[List.append_assoc];exact h),List.append_assoc];rfl
theorem in_there {M:MH}(k:Kd):inL M (.str (kdW k)) [.str "there",.str "lacks"]=some (!isKd k):=by
 rw[inL_flat rfl rfl];cases k <;> decide +kernel
theorem addAll_le:∀ (ys xs:List Str),(addAll xs ys).length<=xs.length + ys.length
 | [],xs=>Nat.le_refl _
 | y::ys,xs=>by
  have h:=addAll_le ys (addS xs y)
  have:(addS xs y).length<=xs.length + 1:=by
   unfold addS;split
   ·omega
   ·rw[List.length_append];exact Nat.le_refl _
  rw[addAll,List.length_cons];omega
theorem addAll_lt:∀ (ys xs:List Str),xs.Nodup->¬ (xs++ys).Nodup->(addAll xs ys).length < xs.length + ys.length
 | [],xs,h,n=>absurd (by rw[List.append_nil];exact h) n
 | y::ys,xs,h,n=>by
  rw[addAll,List.length_cons];by_cases hy:y∈xs
  ·have e:addS xs y=xs:=if_pos hy
   have:=addAll_le ys xs
   rw[e];omega
  ·have e:addS xs y=xs++[y]:=if_neg hy
   rw[e]
   have:=addAll_lt ys (xs++[y]) (by
    rw[List.nodup_append];refine⟨h,by simp,fun a ha b hb=>?_⟩;rw[List.mem_singleton.mp hb];exact fun z=>hy (z ▸ ha)) (by rw[List.append_assoc];exact n)
   rw[List.length_append]at this;simp only[List.length_cons,List.length_nil]at this;omega
noncomputable def valsB (vs:List Str):Bool:=decide (vs.length<=3)&&(decide vs.Nodup&&vs.all (okB abn 12))
theorem valsB_iff {vs:List Str}:valsB vs=true ↔ vs.length<=3/\vs.Nodup/\∀ v∈vs,WordOk abn 12 v:=by
 unfold valsB;rw[Bool.and_eq_true,Bool.and_eq_true,decide_eq_true_eq,decide_eq_true_eq,List.all_eq_true];exact⟨fun h=>⟨h.1,h.2.1,fun v hv=>okB_iff.mp (h.2.2 v hv)⟩,fun h=>⟨h.1,h.2.1,fun v hv=>okB_iff.mpr (h.2.2 v hv)⟩⟩
theorem areVals_g (k:Nat)(M:MH)(vs:List Str)(h:∀ v∈vs,v.length<=2000)(hl:vs.length<=2001){Q:D->MH->Prop}(q:∀ M',Gr M M'->Q (.bl (valsB vs)) M'):W ((cx srt (k + 3)).fn "are_values" [.tup (vs.map .str)]) M Q:=by
 have big:=line_big;rw[f_are_values,wf,b_are_values];unfold valsB at q;walk_at "wq";refine⟨_,rfl,?_⟩;walk_at "wq";rw[List.length_map];by_cases h3:vs.length<=3
 ·rw[decide_eq_true h3,Bool.true_and]at q
  rw[decide_eq_true (show (vs.length:Int)<=3 by omega)];walk_at "wq";refine⟨vs,allS_map vs,?_⟩;have la:=addAll_le vs [];simp only[List.length_nil]at la;refine⟨by omega,?_⟩;walk_at "wq";by_cases nd:vs.Nodup
  ·rw[decide_eq_true nd,Bool.true_and]at q
   have e:(((addAll [] vs).length:Int)==(vs.length:Int))=true:=by rw[addAll_nd vs [] nd];simp
   rw[e];walk_at "wq";refine⟨by omega,?_⟩;refine w_compI (fun m ys M'=>Gr M M'/\ys=((vs.take m).map (okB abn 12)).map D.bl) ⟨Gr.refl,rfl⟩ (fun _ _ _ _=>trivial) ?_ ?_
   ·rintro m d ys M' hd ⟨g,rfl⟩
    rw[List.getElem?_map]at hd;obtain⟨v,hv,rfl⟩:=Option.map_eq_some_iff.mp hd;walk_at "wq";refine isVal_g (srt:=srt) k M' v (h v (List.mem_of_getElem? hv)) fun M2 g2=>?_;refine⟨g.trans g2,?_⟩;rw[List.take_succ,hv];simp
   ·rintro ys M' ⟨g,rfl⟩
    walk_at "wq";refine⟨_,get_new _ _,_,mapM_bools _,?_⟩;have e:((vs.take (vs.map D.str).length).map (okB abn 12)).all id=vs.all (okB abn 12):=by
     rw[List.length_map,List.take_length,List.all_map];rfl
    rw[e];exact q _ (g.snoc _)
  ·rw[decide_eq_false nd,Bool.false_and]at q
   have lt:=addAll_lt vs [] List.nodup_nil nd;have e:(((addAll [] vs).length:Int)==(vs.length:Int))=false:=by
    rw[beq_eq_false_iff_ne];simp only[List.length_nil]at lt;omega
   rw[e];walk_at "wq";exact q _ Gr.refl
 ·rw[decide_eq_false h3,Bool.false_and]at q
  rw[decide_eq_false (show ¬ (vs.length:Int)<=3 by omega)];walk_at "wq";exact q _ Gr.refl
noncomputable def IsAsk (w:Str)(a:Ask):Prop:=AskOk a/\w=askT a
end
end Law
namespace Law
open PySem L3
section
variable {srt:List D->Option (List D)}
theorem glue_le {c:Nat}{x:List Nat}:∀ {xs:List (List Nat)},x∈xs->x.length<=(glue [c] xs).length
 | [],h=>by cases h
 | [y],h=>by rw[List.mem_singleton.mp h];exact Nat.le_refl _
 | y::z::r,h=>by
  show _<=(y++[c]++glue [c] (z::r)).length;rw[List.length_append,List.length_append];rcases List.mem_cons.mp h with rfl | h
  ·omega
  ·have:=glue_le (c:=c) h
   omega
theorem part_le {s:Str}{c:Nat}{p:Str}(h:p∈splitS s (sg c)):p.length<=s.length:=by
 have e:=congrArg (fun s:Str=>s.cps.toList.length) (join_of_split s c);simp only[join_list]at e;have h:=glue_le (c:=c) (List.mem_map.mpr ⟨p,h,rfl⟩:p.cps.toList∈(splitS s (sg c)).map (·.cps.toList));rw[<- len_toList,<- len_toList s,<- e];exact h
theorem letters_cut {a a':Str}{c d n m:Nat}{r s:List Nat}(h:WordOk abc n a)(h':WordOk abc m a')(hc:c < 97)(hd:d < 97)(e:a.cps.toList++c::r=a'.cps.toList++d::s):a=a'/\c=d/\r=s:=by
 have key:∀ (l l':List Nat),(∀ x∈l,97<=x)->(∀ x∈l',97<=x)->l++c::r=l'++d::s->l=l'/\c=d/\r=s:=by
  intro l;induction l with
  | nil =>
   intro l' _ h2 e;cases l' with
   | nil =>
    injection e with e1 e2
    exact⟨rfl,e1,e2⟩
   | cons y l' =>
    injection e with e1 e2
    have:=h2 y List.mem_cons_self
    omega
  | cons x l ih =>
   intro l' h1 h2 e;cases l' with
   | nil =>
    injection e with e1 e2
    have:=h1 x List.mem_cons_self
    omega
   | cons y l' =>
    injection e with e1 e2
    obtain⟨e3,e4,e5⟩:=ih l' (fun z hz=>h1 z (List.mem_cons_of_mem _ hz)) (fun z hz=>h2 z (List.mem_cons_of_mem _ hz)) e2;exact⟨by rw[e1,e3],e4,e5⟩
 obtain⟨e1,e2,e3⟩:=key _ _ (fun x hx=>(abc_sign x (h.2.2 x hx)).1) (fun x hx=>(abc_sign x (h'.2.2 x hx)).1) e;exact⟨str_ext e1,e2,e3⟩
theorem ask_cut {w a b:Str}{kd:Kd}{x:Ask}(h:IsAsk w x)(e:w=a++sg (kdS kd)++b)(ha:WordOk abc 8 a):x.k=kd/\x.n=a/\bar x.vs=b:=by
 have e2:=congrArg (fun s:Str=>s.cps.toList) (h.2.symm.trans e);unfold askT at e2;simp only[app_list,List.append_assoc]at e2;obtain⟨e3,e4,e5⟩:=letters_cut h.1.n ha (kdS_97 _) (kdS_97 _) e2;exact⟨kdS_inj e4,e3,str_ext e5⟩
theorem askingOf_g (k:Nat)(M:MH)(kd:Kd)(n rest:Str)(hr:rest.length<=2000)(hn:WordOk abc 8 n){Q:D->MH->Prop}(q1:∀ (a:Ask) M',AskOk a->a.k=kd->a.n=n->bar a.vs=rest->Gr M M'->Q (askD a) M')(q2:∀ M',(∀ a:Ask,AskOk a->a.k=kd->a.n=n->bar a.vs≠rest)->Gr M M'->Q .non M') :
  W ((cx srt (k + 4)).fn "asking_of" [.str (kdW kd),.str n,.str rest]) M Q:=by
 have big:=line_big;rw[f_asking_of,wf,b_asking_of];walk_at "wq";refine⟨by walk_at "o",_,in_there kd,?_⟩;cases hk:isKd kd with
 | false =>
  walk_at "wq";by_cases e:rest = ""
  ·have e2:(rest==("" : Str))=true:=by rw[e];rfl
   rw[e2];walk_at "wq";refine⟨by walk_at "o",by walk_at "o",?_⟩;exact q1 ⟨kd,n,[]⟩ M ⟨hn,fun v hv=>(by cases hv),Nat.zero_le _,List.nodup_nil,fun z=>(by rw[hk]at z;cases z),fun _=>rfl⟩ rfl rfl (by rw[e];rfl) Gr.refl
  ·have e2:(rest==("" : Str))=false:=beq_eq_false_iff_ne.mpr e
   rw[e2];walk_at "wq";refine q2 M (fun a h1 h2 h3 h4=>e ?_) Gr.refl;rw[<- h4,h1.e (by rw[h2];exact hk)];rfl
 | true =>
  walk_at "wq";have se:(Str.ofString "|")=sg 124:=by decide
  have ej:=join_of_split rest 124;have el:=split_len rest 124;have en:=split_ne rest (sg 124);rw[se];refine⟨⟨by decide,by omega,by omega⟩,_,get_new _ _,?_⟩;refine areVals_g (srt:=srt) k _ (splitS rest (sg 124)) (fun v hv=>Nat.le_trans (part_le hv) hr) (by omega) fun M2 g2=>?_;cases ev:valsB (splitS rest (sg 124)) with
  | true =>
   walk_at "wq";obtain⟨v1,v2,v3⟩:=valsB_iff.mp ev;exact⟨by walk_at "o",q1 ⟨kd,n,splitS rest (sg 124)⟩ M2 ⟨hn,v3,v1,v2,fun _=>en,fun z=>(by rw[hk]at z;cases z)⟩ rfl rfl ej ((Gr.app _ _).trans g2)⟩
  | false =>
   walk_at "wq";refine q2 M2 (fun a h1 h2 h3 h4=>?_) ((Gr.app _ _).trans g2);have es:splitS (bar a.vs) (sg 124)=a.vs:=split_join (c:=124) (h1.ne (by rw[h2];exact hk)) fun v hv=>not_abn (h1.v v hv) (by omega);rw[<- h4,es,valsB_iff.mpr ⟨h1.l,h1.nd,h1.v⟩]at ev;cases ev
theorem readAsking_g (k:Nat)(M:MH)(w:Str)(hw:w.length<=2000){Q:D->MH->Prop}(q1:∀ (a:Ask) M',IsAsk w a->Gr M M'->Q (askD a) M')(q2:∀ M',(∀ a:Ask,¬ IsAsk w a)->Gr M M'->Q .non M'):W ((cx srt (k + 5)).fn "read_asking" [.str w]) M Q:=by
 have big:=line_big;rw[f_read_asking,wf,b_read_asking];walk_at "wq";refine⟨kds.map fun k=>(kdW k,sg (kdS k)),rfl,?_⟩;have eg:gdDs (kds.map fun k=>(kdW k,sg (kdS k)))=kds.map fun k=>D.tup [.str (kdW k),.str (sg (kdS k))]:=rfl;rw[eg];refine w_loopP (fun m ρ M'=>Gr M M'/\(∀ i kd,i < m->kds[i]?=some kd->∀ a,IsAsk w a->a.k≠kd)/\∃ x1 x2 x3,ρ=[some (.str w),x1,x2,x3]) ⟨Gr.refl,fun i _ z=>absurd z (Nat.not_lt_zero _),_,_,_,rfl⟩ (fun _ _ _ _=>trivial) ?_ ?_
 ·rintro m d ρ M' hd ⟨gM,hn,x1,x2,x3,rfl⟩
  rw[List.getElem?_map]at hd;obtain⟨kd,hkd,rfl⟩:=Option.map_eq_some_iff.mp hd;refine⟨_,_,rfl,?_⟩;have l1:(sg (kdS kd)).length=1:=rfl;have next:(∀ a,IsAsk w a->a.k≠kd)->∀ i kd',i < m + 1->kds[i]?=some kd'->∀ a,IsAsk w a->a.k≠kd':=fun h i kd' hi hk'=>by
   by_cases z:i=m
   ·subst z
    rw[hkd]at hk';cases hk';exact h
   ·exact hn i kd' (by omega) hk'
  walk_at "wq";refine⟨⟨by omega,by omega⟩,?_⟩;rcases part_cases w (kdS kd) with ⟨a,b,hna,e⟩ | hnw
  ·have lw:w.length=a.length + 1 + b.length:=by rw[e,len_app,len_app];rfl
   have ep:(partS w (sg (kdS kd))).map D.str=[.str a,.str (sg (kdS kd)),.str b]:=by rw[e,part_at hna];rfl
   rw[ep];walk_at "wq";have es:(sg (kdS kd)==sg (kdS kd))=true:=beq_self_eq_true _;rw[es];walk_at "wq";refine isName_g (srt:=srt) (k + 2) M' a (by omega) fun M2 g2=>?_;cases ea:okB abc 8 a with
   | true =>
    walk_at "wq";have ha:=okB_iff.mp ea;refine askingOf_g (srt:=srt) k M2 kd a b (by omega) ha (fun x M3 h1 h2 h3 h4 g3=>?_) (fun M3 h1 g3=>?_)
    ·exact q1 x M3 ⟨h1,by rw[e];unfold askT;rw[h2,h3,h4]⟩ ((gM.trans g2).trans g3)
    ·refine q2 M3 (fun x hx=>?_) ((gM.trans g2).trans g3)
     obtain⟨e1,e2,e3⟩:=ask_cut hx e ha;exact h1 x hx.1 e1 e2 e3
   | false =>
    walk_at "wq";refine⟨gM.trans g2,next fun x hx hk=>?_,_,_,_,rfl⟩;subst hk;have e2:=congrArg (fun s:Str=>s.cps.toList) (hx.2.symm.trans e);unfold askT at e2;simp only[app_list,List.append_assoc]at e2;obtain⟨e3,e4⟩:=cut_uniq (c:=kdS x.k) (not_abc hx.1.n (.inl (kdS_97 _))) hna e2;rw[<- str_ext e3,okB_iff.mpr hx.1.n]at ea;cases ea
  ·have ep:(partS w (sg (kdS kd))).map D.str=[.str w,.str Str.empty,.str Str.empty]:=by rw[part_no hnw];rfl
   rw[ep];walk_at "wq";have es:(Str.empty==sg (kdS kd))=false:=by cases kd <;> decide +kernel
   rw[es];walk_at "wq";refine⟨gM,next fun x hx hk=>hnw ?_,_,_,_,rfl⟩;rw[hx.2,<- hk];unfold askT;rw[app_list,app_list];exact List.mem_append_left _ (List.mem_append_right _ (by simp[sg]))
 ·rintro ρ M' ⟨gM,hn,x1,x2,x3,rfl⟩
  walk_at "wq";refine q2 M' (fun a ha=>?_) gM;cases hk:a.k
  ·exact hn 0 .is (by decide) rfl a ha hk
  ·exact hn 1 .no (by decide) rfl a ha hk
  ·exact hn 2 .there (by decide) rfl a ha hk
  ·exact hn 3 .lacks (by decide) rfl a ha hk
end
end Law
namespace Law
open PySem L3
section
variable {srt:List D->Option (List D)}
theorem cut_last (x:Str)(c:Nat):Str.mk (cutD (x++sg c).cps.toList none (some (((x++sg c).length:Int) - 1))).toArray=x:=by
 have l1:(sg c).length=1:=rfl;have hl:(x++sg c).length=x.length + 1:=by rw[len_app,l1]
 rw[hl,cut_hi _ (by omega),app_list];apply str_ext;rw[List.toList_toArray]
 have:(((x.length + 1:Nat):Int) - 1).toNat=x.cps.toList.length:=by rw[len_toList];omega
 rw[this];exact List.take_left
theorem at_last (x:Str)(c:Nat):atD (x++sg c).cps.toList (((x++sg c).length:Int) - 1)=some c:=by
 have l1:(sg c).length=1:=rfl;have hl:(x++sg c).length=x.length + 1:=by rw[len_app,l1]
 rw[hl,show ((x.length + 1:Nat):Int) - 1=(x.length:Nat) by omega];refine atD_nat ?_;rw[app_list,List.getElem?_append_right (by rw[len_toList];exact Nat.le_refl _),len_toList,Nat.sub_self];rfl
theorem last_of {w:Str}(h:w≠""):∃ x c,w=x++sg c:=by
 have hn:w.cps.toList≠[]:=fun z=>h (str_ext (by rw[z];rfl));refine⟨⟨w.cps.toList.dropLast.toArray⟩,w.cps.toList.getLast hn,str_ext ?_⟩;rw[app_list];exact(List.dropLast_concat_getLast hn).symm
theorem cutP {p:Nat->Bool}{c d:Nat}{r s:List Nat}(hc:p c=true)(hd:p d=true):∀ (l l':List Nat),(∀ x∈l,p x=false)->(∀ x∈l',p x=false)->l++c::r=l'++d::s->l=l'/\c=d/\r=s
 | [],[],_,_,e=>by
  injection e with e1 e2
  exact⟨rfl,e1,e2⟩
 | [],y::l',_,h2,e=>by
  injection e with e1 e2
  have:=h2 y List.mem_cons_self
  rw[<- e1,hc]at this;cases this
 | x::l,[],h1,_,e=>by
  injection e with e1 e2
  have:=h1 x List.mem_cons_self
  rw[e1,hd]at this;cases this
 | x::l,y::l',h1,h2,e=>by
  injection e with e1 e2
  obtain⟨e3,e4,e5⟩:=cutP hc hd l l' (fun z hz=>h1 z (List.mem_cons_of_mem _ hz)) (fun z hz=>h2 z (List.mem_cons_of_mem _ hz)) e2;exact⟨by rw[e1,e3],e4,e5⟩
theorem firstP (p:Nat->Bool):∀ l:List Nat,(∃ l1 c l2,l=l1++c::l2/\p c=true/\∀ x∈l1,p x=false)\/∀ x∈l,p x=false
 | []=>.inr fun x hx=>by cases hx
 | y::l=>by
  cases hy:p y with
  | true=>exact .inl ⟨[],y,l,rfl,hy,fun x hx=>by cases hx⟩
  | false =>
   rcases firstP p l with ⟨l1,c,l2,e1,e2,e3⟩ | h
   ·refine .inl ⟨y::l1,c,l2,by rw[e1];rfl,e2,fun x hx=>?_⟩
    rcases List.mem_cons.mp hx with rfl | hx
    ·exact hy
    ·exact e3 x hx
   ·refine .inr fun x hx=>?_
    rcases List.mem_cons.mp hx with rfl | hx
    ·exact hy
    ·exact h x hx
noncomputable def isEq (c:Nat):Bool:=decide (c∈("=!" : Str).cps.toList)
theorem valsB_take {vs:List Str}(h3:vs.length<=3)(h:∀ i v,vs[i]?=some v->okB abn 12 v=true/\v ∉ vs.take i):valsB vs=true:=by
 rw[valsB_iff];refine⟨h3,?_,fun v hv=>?_⟩
 ·refine List.pairwise_iff_getElem.mpr fun i j hi hj hij e=>?_
  refine(h j _ (List.getElem?_eq_getElem hj)).2 ?_;rw[<- e];exact List.mem_of_getElem? (i:=i) (by rw[List.getElem?_take,if_pos hij];exact List.getElem?_eq_getElem hi)
 ·obtain⟨i,hi⟩:=List.getElem?_of_mem hv
  exact okB_iff.mp (h i v hi).1
theorem inL_strs {M:MH}(v:Str)(vs:List Str):inL M (.str v) (vs.map .str)=some (decide (v∈vs)):=by
 rw[inL_flat rfl (by rw[List.all_map,List.all_eq_true];exact fun _ _=>rfl)];congr 1;rw[List.any_map,Bool.eq_iff_iff,List.any_eq_true,decide_eq_true_eq];exact⟨fun ⟨x,hx,e⟩=>(show (x==v)=true from e) |> eq_of_beq |> fun z=>z ▸ hx,fun h=>⟨v,h,beq_self_eq_true v⟩⟩
theorem askedU_g (k:Nat)(M:MH)(w a rest:Str)(c j:Nat)(r:List D)(x1 x2:Option D)(hw:w.length<=2000)(e:w=a++sg c++rest)(hj:M[j]?=some (.lst (.int a.length::r))){Q:D->MH->Prop}
  (q1:∀ M',valsB (splitS rest (sg 124))=true->Gr M M'->Q (.tup [.str (if c=61 then "is" else "no"),.str a,.tup ((splitS rest (sg 124)).map .str)]) M') (q2:∀ M',valsB (splitS rest (sg 124))=false->Gr M M'->Q .non M') :
  W (semSs (cx srt (k + 1)) (dropS 6 b__law_asked) [some (.str w),x1,x2,some (.ob j),none,none]) M (endF Q):=by
 have big:=line_big;rw[b__law_asked];dsimp only[dropS];walk_at "wq";refine⟨_,hj,?_⟩;walk_at "wq";have la:a.cps.toList.length=a.length:=len_toList a;have lw:w.length=a.length + 1 + rest.length:=by rw[e,len_app,len_app];rfl
 have ew:w.cps.toList=a.cps.toList++c::rest.cps.toList:=by rw[e,app_list,app_list,List.append_assoc];rfl
 have er:Str.mk (cutD w.cps.toList (some ((a.length:Int) + 1)) none).toArray=rest:=by
  refine str_ext ?_;rw[cut_lo _ (by omega),ew,List.toList_toArray,show ((a.length:Int) + 1).toNat=(a.cps.toList++[c]).length by rw[List.length_append,la];simp only[List.length_cons,List.length_nil];omega];rw[show a.cps.toList++c::rest.cps.toList=(a.cps.toList++[c])++rest.cps.toList by simp,List.drop_left]
 rw[er];have se:(Str.ofString "|")=sg 124:=by decide
 rw[se];have sl:=split_len rest 124;have pl:∀ v∈splitS rest (sg 124),v.length<=2000:=fun v hv=>Nat.le_trans (part_le hv) (by omega);generalize splitS rest (sg 124)=vs at sl pl q1 q2 ⊢;refine⟨by omega,⟨by decide,by omega,by omega⟩,_,get_new _ _,?_⟩;have hnew:(M++[MO.lst (vs.map D.str)])[M.length]?=some (.lst (vs.map D.str)):=get_new _ _;have g0:Gr M (M++[MO.lst (vs.map D.str)]):=Gr.app _ _;generalize M.length=i0 at hnew ⊢;generalize M++[MO.lst (vs.map D.str)]=M2 at hnew g0 ⊢;have lo:lenO (MO.lst (vs.map D.str))=(vs.length:Int):=by show ((vs.map D.str).length:Int)=_;rw[List.length_map]
 rw[lo];refine⟨⟨by walk_at "o",by walk_at "o"⟩,?_⟩;refine w_loop (fun m ρ M'=>Gr M2 M'/\(∃ x,ρ=[some (.str w),x1,x2,some (.ob j),some (.ob i0),x])/\m<=3/\∀ i v,i < m->vs[i]?=some v->okB abn 12 v=true/\v ∉ vs.take i) ⟨Gr.refl,⟨_,rfl⟩,by omega,fun i _ z=>absurd z (Nat.not_lt_zero _)⟩ (fun _ _ _ _=>trivial) ?_ ?_
 ·rintro m d ρ M' hd ⟨gM,⟨x,rfl⟩,hm3,hm⟩
  obtain⟨rfl,hm'⟩:=rng_get hd;obtain⟨v,hv⟩:∃ v,vs[m]?=some v:=⟨_,List.getElem?_eq_getElem (by omega)⟩;have hnM:=gM.keep _ _ hnew;rw[Int.zero_add];have hlt:m < vs.length:=by omega
  have vm:=List.mem_of_getElem? hv;walk_at "wq";by_cases h2:2 < m
  ·rw[decide_eq_true (show (2:Int) < m by omega)]
   have:valsB vs=false:=by
    unfold valsB;rw[decide_eq_false (by omega),Bool.false_and]
   walk_at "wq";exact q2 _ this (g0.trans gM)
  rw[decide_eq_false (show ¬ (2:Int) < m by omega)];walk_at "wq";refine⟨_,hnM,?_⟩;walk_at "wq";refine⟨_,atD_nat (by rw[List.getElem?_map,hv];rfl),?_⟩;refine clean_g (srt:=srt) k M' v "0123456789" 12 (pl v vm) (by decide) (by omega) ?_;rw[show abc++("0123456789" : Str)=abn from by decide +kernel];cases ev:okB abn 12 v with
  | false =>
   walk_at "wq";refine q2 _ ?_ (g0.trans gM);rw[<- Bool.not_eq_true,valsB_iff];intro z;rw[okB_iff.mpr (z.2.2 v vm)]at ev;cases ev
  | true =>
   walk_at "wq";refine⟨_,hnM,?_⟩;walk_at "wq";refine⟨_,atD_nat (by rw[List.getElem?_map,hv];rfl),?_⟩;walk_at "wq";refine⟨_,hnM,?_⟩;walk_at "wq";refine⟨_,get_new _ _,?_⟩;dsimp only;have ec:cutD (vs.map D.str) none (some (m:Int))=(vs.take m).map D.str:=by
    rw[cut_hi _ (by omega),List.map_take];rfl
   rw[w_inMo,ec,inL_strs];refine⟨_,rfl,_,rfl,?_⟩;have g3:Gr M' (M'++[MO.lst ((vs.take m).map D.str)]):=Gr.app _ _;by_cases hin:v∈vs.take m
   ·rw[decide_eq_true hin]
    walk_at "wq";refine q2 _ ?_ ((g0.trans gM).trans g3);rw[<- Bool.not_eq_true,valsB_iff];intro z;obtain⟨i,hi⟩:=List.getElem?_of_mem hin;rw[List.getElem?_take]at hi;split at hi
    ·rename_i him
     obtain⟨h1,h2⟩:=List.getElem?_eq_some_iff.mp hi;obtain⟨h3,h4⟩:=List.getElem?_eq_some_iff.mp hv;exact List.pairwise_iff_getElem.mp z.2.1 i m h1 h3 him (h2.trans h4.symm)
    ·cases hi
   ·rw[decide_eq_false hin]
    walk_at "wq";refine⟨gM.trans g3,⟨_,rfl⟩,by omega,fun i v' hi hv'=>?_⟩;by_cases z:i=m
    ·subst z
     rw[hv]at hv';cases hv';exact⟨ev,hin⟩
    ·exact hm i v' (by omega) hv'
 ·rintro ρ M' ⟨gM,⟨x,rfl⟩,hm3,hm⟩
  rw[rng_len]at hm3 hm;have hv:valsB vs=true:=valsB_take (by omega) fun i v hi=>hm i v (by have:=(List.getElem?_eq_some_iff.mp hi).1;omega) hi;walk_at "wq";have hjM:=(g0.trans gM).keep _ _ hj;refine⟨by omega,_,(Gr.app M' [MO.lst [D.str (Str.ofString "no"),D.str (Str.ofString "is")]]).keep _ _ hjM,?_⟩;walk_at "wq";have hnM:=gM.keep _ _ hnew;have g3:Gr M' (M'++[MO.lst [D.str (Str.ofString "no"),D.str (Str.ofString "is")]]):=Gr.app _ _;have h3:(M'++[MO.lst [D.str (Str.ofString "no"),D.str (Str.ofString "is")]])[M'.length]?=some (.lst [D.str (Str.ofString "no"),D.str (Str.ofString "is")]):=get_new _ _;have hjM':=g3.keep _ _ hjM;have hnM':=g3.keep _ _ hnM;have g4:=(g0.trans gM).trans g3;generalize M'.length=i3 at h3 ⊢;generalize M'++[MO.lst [D.str (Str.ofString "no"),D.str (Str.ofString "is")]]=M4 at h3 hjM' hnM' g4 ⊢;refine⟨by omega,c,atD_nat (by rw[ew,List.getElem?_append_right (by omega),la,Nat.sub_self];rfl),?_⟩;have ec:Str.mk (cutD w.cps.toList none (some (a.length:Int))).toArray=a:=by
   refine str_ext ?_;rw[cut_hi _ (by omega),ew,List.toList_toArray,show ((a.length:Int)).toNat=a.cps.toList.length by rw[la];omega,List.take_left]
  unfold sgn;by_cases h61:c=61
  ·rw[if_pos h61]at q1
   walk_at "wq";rw[show ((⟨#[c]⟩:Str)==Str.ofString "=")=true from by rw[h61];decide +kernel];walk_at "wq";rw[if_pos trivial];refine⟨_,h3,?_⟩;walk_at "wq";refine⟨_,hjM',?_⟩;walk_at "wq";refine⟨by omega,_,hnM',by omega,?_⟩;rw[ec];exact q1 _ hv g4
  ·rw[if_neg h61]at q1
   walk_at "wq";rw[show ((⟨#[c]⟩:Str)==Str.ofString "=")=false from beq_eq_false_iff_ne.mpr fun z=>h61 (by
    have:=congrArg (fun s:Str=>s.cps.toList) z
    injection this)]
   walk_at "wq";rw[if_neg (fun z=>z)];refine⟨_,h3,?_⟩;walk_at "wq";refine⟨_,hjM',?_⟩;walk_at "wq";refine⟨by omega,_,hnM',by omega,?_⟩;rw[ec];exact q1 _ hv g4
theorem askedT_g (k:Nat)(M:MH)(w:Str)(x1 x2:Option D)(hw:w.length<=2000){Q:D->MH->Prop}(q1:∀ (a:Ask) M',isKd a.k=true->IsAsk w a->Gr M M'->Q (askD a) M')(q2:∀ M',(∀ a:Ask,isKd a.k=true->¬ IsAsk w a)->Gr M M'->Q .non M') :
  W (semSs (cx srt (k + 1)) (dropS 4 b__law_asked) [some (.str w),x1,x2,none,none,none]) M (endF Q):=by
 have big:=line_big;rw[b__law_asked];dsimp only[dropS];walk_at "wq";have sm:small (w.length:Int):=⟨by walk_at "o",by walk_at "o"⟩;refine⟨by omega,sm,by rw[rng_len];omega,?_⟩;have look:∀ (m:Nat) (d:D),(rngD 0 (w.length:Int))[m]?=some d->d=D.int (m:Int)/\∃ c,w.cps.toList[m]?=some c:=fun m d hd=>by
  obtain⟨rfl,hm⟩:=rng_get hd;refine⟨by rw[Int.zero_add],?_⟩;cases e:w.cps.toList[m]? with
  | none =>
   exfalso;rw[List.getElem?_eq_none_iff,len_toList]at e
   omega
  | some c=>exact⟨c,rfl⟩
 rcases firstP isEq w.cps.toList with ⟨l1,c,l2,el,hc,hl1⟩ | hno
 ·refine w_compI (fun m ys M'=>M'=M/\(m<=l1.length->ys=[])/\(l1.length < m->∃ r,ys=.int l1.length::r)) ⟨rfl,fun _=>rfl,fun z=>absurd z (Nat.not_lt_zero _)⟩ (fun _ _ _ _=>trivial) ?_ ?_
  ·rintro m d ys M' hd ⟨rfl,h1,h2⟩
   obtain⟨rfl,c',hc'⟩:=look m d hd;walk_at "wq";refine⟨by omega,c',atD_nat hc',?_⟩;unfold sgn;walk_at "wq";rw[occ_eq];have hcc:∀ (h:m < l1.length),isEq c'=false:=fun h=>by
    rw[el,List.getElem?_append_left h]at hc';exact hl1 c' (List.mem_of_getElem? hc')
   have hce:m=l1.length->c'=c:=fun h=>by
    rw[el,List.getElem?_append_right (by omega),h,Nat.sub_self]at hc';injection hc' with z
    exact z.symm
   refine⟨fun z=>?_,fun z=>?_⟩
   ·have z:isEq c'=true:=z
    refine⟨fun y=>?_,fun y=>?_⟩
    ·rw[hcc (by omega)]at z
     cases z
    ·by_cases h:m=l1.length
     ·rw[h1 (by omega),h]
      exact⟨[],rfl⟩
     ·obtain⟨r,e⟩:=h2 (by
       rcases Nat.lt_or_ge m l1.length with q | q
       ·rw[hcc q]at z;cases z
       ·omega)
      exact⟨_,by rw[e];rfl⟩
   ·have z:isEq c'=false:=z
    refine⟨fun y=>h1 (by omega),fun y=>?_⟩;by_cases h:m=l1.length
    ·rw[hce h,hc]at z
     cases z
    ·exact h2 (by omega)
  ·skip
   rintro ys M' ⟨rfl,_,h2⟩;rw[rng_len]at h2;have lw:=congrArg List.length el;rw[len_toList,List.length_append,List.length_cons]at lw;obtain⟨r,rfl⟩:=h2 (by omega);walk_at "wq";have hnew:(M'++[MO.lst (D.int l1.length::r)])[M'.length]?=some (.lst (.int l1.length::r)):=get_new _ _;have g0:Gr M' (M'++[MO.lst (D.int l1.length::r)]):=Gr.app _ _;generalize hj:M'.length=j at hnew ⊢;generalize M'++[MO.lst (D.int l1.length::r)]=M2 at hnew g0 ⊢;refine⟨by omega,?_⟩;have hnew2:(M2++[MO.lst []])[j]?=some (.lst (.int l1.length::r)):=(Gr.app M2 _).keep _ _ hnew;have hnil:(M2++[MO.lst []])[M2.length]?=some (.lst []):=get_new _ _;have g1:Gr M' (M2++[MO.lst []]):=g0.trans (Gr.app _ _);generalize M2++[MO.lst []]=M3 at hnew2 hnil g1 ⊢;rw[p_eq];refine⟨_,eo_nil hnew2 hnil,_,rfl,?_⟩;have lA:(Str.mk l1.toArray).length=l1.length:=by rw[<- len_toList]
   have ea:Str.mk (cutD w.cps.toList none (some (l1.length:Int))).toArray=⟨l1.toArray⟩:=by
    refine str_ext ?_;rw[cut_hi _ (by omega),el,List.toList_toArray,List.toList_toArray,Int.toNat_natCast,List.take_left]
   have ew:w=⟨l1.toArray⟩++sg c++⟨l2.toArray⟩:=str_ext (by rw[app_list,app_list,List.append_assoc,el];rfl);have cut:∀ x:Ask,isKd x.k=true->IsAsk w x->x.n=⟨l1.toArray⟩/\kdS x.k=c/\bar x.vs=⟨l2.toArray⟩:=fun x hk hx=>by
    have e2:=congrArg (fun s:Str=>s.cps.toList) hx.2.symm;unfold askT at e2;simp only[app_list,List.append_assoc]at e2;rw[el]at e2;have hp:isEq (kdS x.k)=true:=by
     revert hk;cases x.k <;> simp[isKd] <;> decide +kernel
    obtain⟨e3,e4,e5⟩:=cutP (p:=isEq) hp hc x.n.cps.toList l1 (fun y hy=>by
     have:=abc_sign y (hx.1.n.2.2 y hy)
     unfold isEq;rw[decide_eq_false_iff_not];have h2:∀ z∈("=!" : Str).cps.toList,z < 97:=by decide +kernel
     intro z
     have:=h2 y z
     omega) hl1 e2
    exact⟨str_ext e3,e4,str_ext e5⟩
   walk_at "wq";refine⟨fun z=>(by cases z),fun _=>⟨_,hnew2,?_⟩⟩;walk_at "wq";refine⟨by omega,?_⟩;rw[ea];refine clean_g (srt:=srt) k M3 ⟨l1.toArray⟩ "" 8 (by omega) (by decide) (by omega) ?_;rw[show abc++("" : Str)=abc from by decide +kernel];cases eo:okB abc 8 ⟨l1.toArray⟩ with
   | false =>
    walk_at "wq";refine q2 _ (fun x hk hx=>?_) g1
    have:=(cut x hk hx).1
    rw[<- this,okB_iff.mpr hx.1.n]at eo;cases eo
   | true =>
    have ha:=okB_iff.mp eo;have t:=askedU_g (srt:=srt) k M3 w ⟨l1.toArray⟩ ⟨l2.toArray⟩ c j r x1 x2 hw ew (by rw[lA];exact hnew2) (Q:=Q) (fun M4 hv g=>?_) (fun M4 hv g=>?_)
    ·rw[b__law_asked]at t
     dsimp only[dropS]at t;revert t;walk_at "wq";exact id
    ·obtain⟨v1,v2,v3⟩:=valsB_iff.mp hv
     have hk:kdS (if c=61 then Kd.is else .no)=c/\isKd (if c=61 then Kd.is else .no)=true/\kdW (if c=61 then Kd.is else .no)=(if c=61 then ("is" : Str) else "no"):=by
      by_cases h:c=61
      ·rw[if_pos h,if_pos h]
       exact⟨h.symm,rfl,rfl⟩
      ·rw[if_neg h,if_neg h]
       refine⟨?_,rfl,rfl⟩
       have:c∈("=!" : Str).cps.toList:=of_decide_eq_true hc
       have h2:∀ z∈("=!" : Str).cps.toList,z=61\/z=33:=by decide +kernel
       rcases h2 c this with z | z
       ·exact absurd z h
       ·exact z.symm
     have:=q1 ⟨if c=61 then Kd.is else .no,⟨l1.toArray⟩,splitS ⟨l2.toArray⟩ (sg 124)⟩ M4 hk.2.1 ⟨⟨ha,v3,v1,v2,fun _=>split_ne _ _,fun z=>(by rw[hk.2.1]at z;cases z)⟩,by
      unfold askT bar;rw[hk.1,join_of_split];exact ew⟩ (g1.trans g)
     unfold askD at this;rw[hk.2.2]at this;exact this
    ·refine q2 _ (fun x hk hx=>?_) (g1.trans g)
     obtain⟨_,_,e5⟩:=cut x hk hx;have es:splitS (bar x.vs) (sg 124)=x.vs:=split_join (c:=124) (hx.1.ne hk) fun v hv=>not_abn (hx.1.v v hv) (by omega);rw[<- e5,es,valsB_iff.mpr ⟨hx.1.l,hx.1.nd,hx.1.v⟩]at hv;cases hv
 ·refine w_compI (fun m ys M'=>M'=M/\ys=[]) ⟨rfl,rfl⟩ (fun _ _ _ _=>trivial) ?_ ?_
  ·rintro m d ys M' hd ⟨rfl,rfl⟩
   obtain⟨rfl,c',hc'⟩:=look m d hd;walk_at "wq";refine⟨by omega,c',atD_nat hc',?_⟩;unfold sgn;walk_at "wq";rw[occ_eq];have z:isEq c'=false:=hno c' (List.mem_of_getElem? hc');intro y;rw[show decide (c'∈(Str.ofString "=!").cps.toList)=false from z]at y;cases y
  ·rintro ys M' ⟨rfl,rfl⟩
   walk_at "wq";refine⟨by omega,?_⟩;rw[p_eq];refine⟨_,eo_nil (xs:=[]) ((Gr.app _ _).keep _ _ (get_new _ _)) (get_new _ _),_,rfl,?_⟩;walk_at "wq";refine⟨fun _=>q2 _ (fun x hk hx=>?_) ((Gr.app _ _).trans (Gr.app _ _)),fun z=>(by cases z)⟩;have hp:isEq (kdS x.k)=true:=by
    revert hk;cases x.k <;> simp[isKd] <;> decide +kernel
   rw[hno (kdS x.k) (by
    rw[hx.2];unfold askT;rw[app_list,app_list];exact List.mem_append_left _ (List.mem_append_right _ (by simp[sg])))]at hp
   cases hp
theorem app_empty (x:Str):x++bar []=x:=str_ext (by rw[app_list];exact List.append_nil _)
theorem asked_g (k:Nat)(M:MH)(w:Str)(hw:w.length<=2000){Q:D->MH->Prop}(q1:∀ (a:Ask) M',IsAsk w a->Gr M M'->Q (askD a) M')(q2:∀ M',(∀ a:Ask,¬ IsAsk w a)->Gr M M'->Q .non M'):W ((cx srt (k + 2)).fn "_law_asked" [.str w]) M Q:=by
 have big:=line_big;by_cases hw0:w = ""
 ·subst hw0
  rw[f__law_asked,wf,b__law_asked];walk_at "wq";rw[show (Str.ofString ""==Str.ofString "")=true from rfl];walk_at "wq";refine q2 M (fun a ha=>?_) Gr.refl;have h1:=congrArg (fun s:Str=>s.length) ha.2;unfold askT at h1;simp only[len_app]at h1;have h2:=ha.1.n.1;have h3:(Str.ofString "").length=0:=rfl;omega
 have tl:(∀ a:Ask,isKd a.k=false->¬ IsAsk w a)->∀ x1 x2,W (semSs (cx srt (k + 1)) (dropS 4 b__law_asked) [some (.str w),x1,x2,none,none,none]) M (endF Q):=fun h x1 x2 =>
  askedT_g (srt:=srt) k M w x1 x2 hw (fun a M' _ ha g=>q1 a M' ha g) (fun M' hn g=>q2 M' (fun a ha=>by
   cases hk:isKd a.k with
   | true=>exact hn a hk ha
   | false=>exact h a hk ha) g)
 obtain⟨x,c,e⟩:=last_of hw0;have lx:w.length=x.length + 1:=by rw[e,len_app];rfl
 have last:∀ a:Ask,isKd a.k=false->IsAsk w a->kdS a.k=c/\a.n=x:=fun a hk ha=>by
  have h1:=ha.2;unfold askT at h1;rw[ha.1.e hk,app_empty,e]at h1;have h2:=congrArg (fun s:Str=>s.cps.toList) h1;simp only[app_list]at h2;obtain⟨h3,h4⟩:=List.append_inj' h2 rfl;exact⟨by injection h4 with h5;exact h5.symm,(str_ext h3).symm⟩
 rw[f__law_asked,wf,b__law_asked];rw[b__law_asked]at tl;dsimp only[dropS]at tl;walk_at "wq";rw[show (w==Str.ofString "")=false from beq_eq_false_iff_ne.mpr hw0];walk_at "wq";refine⟨by omega,by omega,c,by rw[e];exact at_last x c,by omega,by omega,?_⟩;rw[show Str.mk (cutD w.cps.toList none (some ((w.length:Int) - 1))).toArray=x from by rw[e];exact cut_last x c];unfold sgn;walk_at "wq";rw[occ_eq];have h2:∀ z∈(Str.ofString "+-").cps.toList,z=43\/z=45:=by decide +kernel
 have h3:∀ k,isKd k=false->kdS k∈(Str.ofString "+-").cps.toList:=by intro k;cases k <;> decide +kernel
 by_cases hpm:c∈(Str.ofString "+-").cps.toList
 ·rw[decide_eq_true hpm]
  walk_at "wq";refine clean_g (srt:=srt) k M x "" 8 (by omega) (by decide) (by omega) ?_;rw[show abc++("" : Str)=abc from by decide +kernel];cases eo:okB abc 8 x with
  | false =>
   have t:=tl (fun a hk ha=>by
    rw[<- (last a hk ha).2,okB_iff.mpr ha.1.n]at eo;cases eo) (some (.str ⟨#[c]⟩)) (some (.str x))
   revert t;walk_at "wq";exact id
  | true =>
   have ha:=okB_iff.mp eo;walk_at "wq";have hk:kdS (if c=43 then Kd.there else .lacks)=c/\isKd (if c=43 then Kd.there else .lacks)=false:=by
    by_cases h:c=43
    ·rw[if_pos h]
     exact⟨h.symm,rfl⟩
    ·rw[if_neg h]
     rcases h2 c hpm with z | z
     ·exact absurd z h
     ·exact⟨z.symm,rfl⟩
   have hq:=q1 ⟨if c=43 then Kd.there else .lacks,x,[]⟩ (M++[MO.lst [D.str (Str.ofString "lacks"),D.str (Str.ofString "there")]]) ⟨⟨ha,fun v hv=>(by cases hv),Nat.zero_le _,List.nodup_nil,fun z=>(by rw[hk.2]at z;cases z),fun _=>rfl⟩,by
    unfold askT;rw[hk.1,app_empty];exact e⟩ (Gr.app _ _)
   unfold askD at hq;by_cases h43:c=43
   ·rw[if_pos h43]at hq
    rw[show ((⟨#[c]⟩:Str)==Str.ofString "+")=true from by rw[h43];decide +kernel];walk_at "wq";rw[if_pos trivial];refine⟨by omega,_,get_new _ _,?_⟩;walk_at "wq";exact⟨by omega,by omega,hq⟩
   ·rw[if_neg h43]at hq
    rw[show ((⟨#[c]⟩:Str)==Str.ofString "+")=false from beq_eq_false_iff_ne.mpr fun z=>h43 (by
     have:=congrArg (fun s:Str=>s.cps.toList) z
     injection this)]
    walk_at "wq";rw[if_neg (fun z=>z)];refine⟨by omega,_,get_new _ _,?_⟩;walk_at "wq";exact⟨by omega,by omega,hq⟩
 ·rw[decide_eq_false hpm]
  have t:=tl (fun a hk ha=>hpm (by
   rw[<- (last a hk ha).1];exact h3 _ hk)) (some (.str ⟨#[c]⟩)) (some (.str x))
  revert t;walk_at "wq";exact id
end
end Law
namespace L3
open PySem
section
variable {Γ:Ctx}{s:IS}{r a b:ISs}{c:IC}{e:IE}{ρ:Ev}{M:MH}{P:Int×MH->Prop}
theorem W.got {α:Type}{m:Mo α}{M:MH}{Q:α->MH->Prop}(h:W m M Q):∃ d M',m M=some (.ok d,M')/\Q d M':=h
theorem stopSs0 (h:semS Γ s ρ M=none):semSs Γ (.cons s r) ρ M=none:=by
 rw[semSs,run_bind,h]
theorem zSs (h:W (semS Γ s ρ) M fun f M1=>∃ ρ',f=.nx ρ'/\∃ r',rzSs Γ r ρ' M1=some r'/\P r'):∃ r',rzSs Γ (.cons s r) ρ M=some r'/\P r':=by
 obtain⟨f,M1,e1,ρ',rfl,r',e2,q⟩:=h.got;refine⟨r',?_,q⟩;rw[rzSs,e1];exact e2
theorem zSs0 (h0:semS Γ s ρ M=none)(h:∃ r',rzS Γ s ρ M=some r'/\P r'):∃ r',rzSs Γ (.cons s r) ρ M=some r'/\P r':=by
 obtain⟨r',e2,q⟩:=h;refine⟨r',?_,q⟩;rw[rzSs,h0];exact e2
theorem zRz (h:W (semE Γ e ρ) M fun d M1=>∃ i,d=.int i/\P (i,M1)):∃ r',rzS Γ (.rz e) ρ M=some r'/\P r':=by
 obtain⟨d,M1,e1,i,rfl,q⟩:=h.got;refine⟨(i,M1),?_,q⟩;rw[rzS,e1]
theorem zIfRz (h:W (semC Γ c ρ) M fun k M1=>k=true/\W (semE Γ e ρ) M1 fun d M2=>∃ i,d=.int i/\P (i,M2)):semS Γ (.ifS c (.cons (.rz e) r) b) ρ M=none/\∃ r',rzS Γ (.ifS c (.cons (.rz e) r) b) ρ M=some r'/\P r':=by
 obtain⟨k,M1,e1,rfl,h⟩:=h.got;refine⟨?_,?_⟩
 ·rw[semS,ok_bind e1,if_pos rfl]
  exact stopSs0 rfl
 ·obtain⟨r',e2,q⟩:=zSs0 (Γ:=Γ) (r:=r) (s:=.rz e) (ρ:=ρ) (M:=M1) rfl (zRz h)
  refine⟨r',?_,q⟩;rw[rzS,e1];exact e2
theorem zLoop {ck:Option (Nat×List D)}{i j n:Nat}{fb:Ev->Mo Fl}{zb:Ev->MH->Option (Int×MH)}{ds:List D}(I:Nat->Ev->MH->Prop)(h0:I 0 ρ M)(hs:∀ m ρ M,I m ρ M->okM ck M)
  (step:∀ (m:Nat) (d:D) (ρ:Ev) (M:MH),m < n->ds[m]?=some d->I m ρ M->∃ x y,d=.tup [x,y]/\W (fb ((ρ.set i (some x)).set j (some y))) M fun f M1=>∃ ρ',f=.nx ρ'/\I (m + 1) ρ' M1)
  (last:∀ (d:D) (ρ:Ev) (M:MH),ds[n]?=some d->I n ρ M->∃ x y,d=.tup [x,y]/\fb ((ρ.set i (some x)).set j (some y)) M=none/\∃ r',zb ((ρ.set i (some x)).set j (some y)) M=some r'/\P r') (hn:n < ds.length) :
  loopP ck i j fb ds ρ M=none/\∃ r',rzLP ck i j fb zb ds ρ M=some r'/\P r':=by
 suffices H:∀ (r:List D) (m:Nat) (ρ:Ev) (M:MH),(∀ j d,r[j]?=some d->ds[m + j]?=some d)->m + r.length=ds.length->m<=n->I m ρ M->loopP ck i j fb r ρ M=none/\∃ r',rzLP ck i j fb zb r ρ M=some r'/\P r' from
  H ds 0 ρ M (fun j d e=>by simpa using e) (by simp) (Nat.zero_le _) h0
 intro r;induction r with
 | nil =>
  intro m ρ M _ hl hm _;simp at hl;omega
 | cons d r ih =>
  intro m ρ M hr hl hm hI;have hd:ds[m]?=some d:=by simpa using hr 0 d rfl
  have st:stand ck M=some (.ok (),M):=if_pos (hs _ _ _ hI);by_cases hmn:m=n
  ·subst hmn
   obtain⟨x,y,rfl,e1,r',e2,q⟩:=last d ρ M hd hI;refine⟨?_,r',?_,q⟩
   ·rw[loopP,ok_bind st]
    show ((lift (pairD (.tup [x,y])) >>= _):Mo Fl) M=none;rw[ok_bind (show (lift (pairD (.tup [x,y])):Mo (D×D)) M=some (.ok (x,y),M) from rfl),run_bind,e1]
   ·rw[rzLP,st]
    dsimp only[pairD];rw[e1];exact e2
  ·obtain⟨x,y,rfl,h⟩:=step m d ρ M (by omega) hd hI
   obtain⟨f,M1,e1,ρ',rfl,hI'⟩:=h.got;obtain⟨a1,r',a2,q⟩:=ih (m + 1) ρ' M1 (fun j d e=>by
    have:=hr (j + 1) d (by simpa using e)
    rw[show m + 1 + j=m + (j + 1) by omega];exact this) (by rw[List.length_cons]at hl;omega) (by omega) hI'
   refine⟨?_,r',?_,q⟩
   ·rw[loopP,ok_bind st]
    show ((lift (pairD (.tup [x,y])) >>= _):Mo Fl) M=none;rw[ok_bind (show (lift (pairD (.tup [x,y])):Mo (D×D)) M=some (.ok (x,y),M) from rfl),ok_bind e1];exact a1
   ·rw[rzLP,st]
    dsimp only[pairD];rw[e1];exact a2
theorem zFor {i j:Nat}{it:IP}{b:ISs}(h:W (semP Γ it ρ) M fun s M1=>loopP s.ck i j (semSs Γ b) s.ds ρ M1=none/\∃ r',rzLP s.ck i j (semSs Γ b) (rzSs Γ b) s.ds ρ M1=some r'/\P r') :
  semS Γ (.forP i j it b) ρ M=none/\∃ r',rzS Γ (.forP i j it b) ρ M=some r'/\P r':=by
 obtain⟨src,M1,e1,h1,r',h2,q⟩:=h.got;refine⟨?_,r',?_,q⟩
 ·rw[semS,ok_bind e1]
  exact h1
 ·rw[rzS,e1]
  exact h2
end
end L3
namespace L3
open PySem
section
variable {Γ:Ctx}{s:IS}{r:ISs}{ρ:Ev}{M:MH}{P:Int×MH->Prop}
theorem zSs2 (h:W (semS Γ s ρ) M fun f M1=>∃ ρ',f=.nx ρ'/\semSs Γ r ρ' M1=none/\∃ r',rzSs Γ r ρ' M1=some r'/\P r'):semSs Γ (.cons s r) ρ M=none/\∃ r',rzSs Γ (.cons s r) ρ M=some r'/\P r':=by
 obtain⟨f,M1,e1,ρ',rfl,e2,r',e3,q⟩:=h.got;refine⟨?_,r',?_,q⟩
 ·rw[semSs,ok_bind e1]
  exact e2
 ·rw[rzSs,e1]
  exact e3
theorem zSs02 (h:semS Γ s ρ M=none/\∃ r',rzS Γ s ρ M=some r'/\P r'):semSs Γ (.cons s r) ρ M=none/\∃ r',rzSs Γ (.cons s r) ρ M=some r'/\P r':=⟨stopSs0 h.1,zSs0 h.1 h.2⟩
end
end L3
namespace Law
open PySem L3
section
variable {srt:List D->Option (List D)}
structure Pre (t:Str) (ps:List (Str×Str)) (tl:List Str):Prop where
 e:splitS t (sg 32)=ps.map markT++tl
 ok:∀ p∈ps,MarkOk p
 nd:(ps.map (·.1)).Nodup
 l:ps.length<=8
noncomputable def MBad (ps:List (Str×Str))(w:Str):Prop:=ps.length=8\/(∀ p,¬ IsMark w p)\/∃ p,IsMark w p/\p.1∈ps.map (·.1)
theorem marks_cases (t:Str):∃ ps tl,Pre t ps tl/\∀ w r,tl=w::r->MBad ps w:=by
 suffices H:∀ (tl:List Str) (ps:List (Str×Str)),Pre t ps tl->∃ ps tl,Pre t ps tl/\∀ w r,tl=w::r->MBad ps w from
  H (splitS t (sg 32)) [] ⟨rfl,fun p h=>(by cases h),List.nodup_nil,Nat.zero_le _⟩
 intro tl;induction tl with
 | nil=>exact fun ps h=>⟨ps,[],h,fun w r z=>(by cases z)⟩
 | cons w tl ih =>
  intro ps h;by_cases hb:MBad ps w
  ·exact⟨ps,w::tl,h,fun w' r z=>by injection z with z1 z2;exact z1 ▸ hb⟩
  ·have h8:ps.length≠8:=fun z=>hb (.inl z)
   obtain⟨p,hp⟩:∃ p,IsMark w p:=Classical.byContradiction fun z=>hb (.inr (.inl fun p hp=>z ⟨p,hp⟩));have hn:p.1 ∉ ps.map (·.1):=fun z=>hb (.inr (.inr ⟨p,hp,z⟩));refine ih (ps++[p]) ⟨?_,fun q hq=>?_,?_,?_⟩
   ·rw[h.e,hp.2,List.map_append,List.append_assoc]
    rfl
   ·rcases List.mem_append.mp hq with hq | hq
    ·exact h.ok q hq
    ·rw[List.mem_singleton.mp hq]
     exact hp.1
   ·rw[List.map_append,List.nodup_append]
    refine⟨h.nd,by simp,fun a ha b hb' e=>hn ?_⟩;rw[List.map_cons,List.map_nil,List.mem_singleton]at hb';rw[<- hb',<- e];exact ha
   ·rw[List.length_append]
    have:=h.l
    simp only[List.length_cons,List.length_nil];omega
theorem name_new {ps:List (Str×Str)}{m:Nat}{p:Str×Str}(hnd:(ps.map (·.1)).Nodup)(hpm:ps[m]?=some p):p.1 ∉ (ps.take m).map (·.1):=fun z=>by
 have ml:m < ps.length:=(List.getElem?_eq_some_iff.mp hpm).1;obtain⟨p',hp',e'⟩:=List.mem_map.mp z;obtain⟨i,hi⟩:=List.getElem?_of_mem hp';have him:i < m:=by
  have:=(List.getElem?_eq_some_iff.mp hi).1
  rw[List.length_take]at this;omega
 rw[List.getElem?_take_of_lt him]at hi;have pw:=List.pairwise_iff_getElem.mp hnd;have hi':i < ps.length:=by omega
 have:=pw i m (by simpa using hi') (by simpa using ml) him
 rw[List.getElem_map,List.getElem_map]at this;rw[(List.getElem?_eq_some_iff.mp hi).2,(List.getElem?_eq_some_iff.mp hpm).2]at this;exact this e'
noncomputable def loopB (b:ISs):ISs:=match b with
 | .cons (.forP _ _ _ b) _=>b
 | _=>.nil
noncomputable def rmB:ISs:=loopB (dropS 2 b_read_marks)
theorem rmStep (k:Nat)(M:MH)(t:Str)(j m:Nat)(ps:List (Str×Str))(p:Str×Str)(x4:Option D)(hnd:(ps.map (·.1)).Nodup)(hok:MarkOk p)(hpm:ps[m]?=some p)(hl:ps.length<=8)(hw:(markT p).length<=2000)(hj:M[j]?=some (.lst ((ps.take m).map prD))){Q:Fl->MH->Prop}
  (q:∀ M2 x4',Gr M M2->Q (.nx [some (.str t),some (.ob j),some (.int m),some (.str (markT p)),x4']) (M2.set j (.lst ((ps.take (m + 1)).map prD)))) :
  W (semSs (cx srt (k + 3)) rmB [some (.str t),some (.ob j),some (.int m),some (.str (markT p)),x4]) M Q:=by
 have big:=line_big;have ml:m < ps.length:=(List.getElem?_eq_some_iff.mp hpm).1;rw[rmB,b_read_marks];dsimp only[dropS,loopB];walk_at "wq";refine readMark_g (srt:=srt) k M (markT p) hw (fun p' M2 h' g2=>?_) (fun M2 h' g2=>absurd ⟨hok,rfl⟩ (h' p));obtain rfl:p'=p:=mark_one h' ⟨hok,rfl⟩;walk_at "wq";refine⟨_,rfl,?_⟩;walk_at "wq";have e8:((m:Int)==8)=false:=beq_eq_false_iff_ne.mpr (by omega);rw[e8];walk_at "wq";refine⟨rfl,fun z=>(by cases z),fun _=>?_⟩;refine hasName_g (srt:=srt) (k + 2) M2 j (ps.take m) p'.1 (g2.keep _ _ hj) (by rw[List.length_take];omega) fun M3 g3=>?_;rw[decide_eq_false (name_new hnd hpm)];walk_at "wq";have h3:=g3.keep _ _ (g2.keep _ _ hj);refine⟨_,h3,_,h3,by rw[List.length_map,List.length_take];omega,?_⟩;have e:(ps.take m).map prD++[D.tup [.str p'.1,.str p'.2]]=(ps.take (m + 1)).map prD:=by
  rw[List.take_succ,hpm,List.map_append];rfl
 rw[e];exact q M3 _ (g2.trans g3)
end
end Law
namespace Law
open PySem L3
section
variable {srt:List D->Option (List D)}
noncomputable def Sorts (srt:List D->Option (List D)):Prop:=∀ ps:List (Str×Str),ps.length < 64->∃ qs:List (Str×Str),srt (ps.map prD)=some (qs.map prD)/\qs.Perm ps
theorem dash_eq {t:Str}:(t==Str.ofString "-")=decide (t = "-"):=by
 by_cases h:t = "-"
 ·rw[h];decide
 ·rw[decide_eq_false h]
  exact beq_eq_false_iff_ne.mpr h
theorem readMarks_dash (k:Nat)(M:MH){Q:D->MH->Prop}(q:Q (.tup []) M):W ((cx srt (k + 4)).fn "read_marks" [.str "-"]) M Q:=by
 have big:=line_big;rw[f_read_marks,wf,b_read_marks];walk_at "wq";refine⟨_,rfl,?_⟩;walk_at "wq";rw[dash_eq,decide_eq_true rfl];walk_at "wq";exact⟨by omega,q⟩
structure RmI (M:MH) (t:Str) (j jw:Nat) (ws:List Str) (ps:List (Str×Str)) (m:Nat) (ρ:Ev) (M':MH):Prop where
 g:Gr M M'
 a:M'[j]?=some (.lst ((ps.take m).map prD))
 b:M'[jw]?=some (.lst (ws.map .str))
 r:∃ x2 x3 x4,ρ=[some (.str t),some (.ob j),x2,x3,x4]
theorem readMarks_good (k:Nat)(M:MH)(t:Str)(ps qs:List (Str×Str))(ht:t.length<=2000)(hd:t≠"-")(P:Pre t ps [])(hq:srt (ps.map prD)=some (qs.map prD)){Q:D->MH->Prop}(q:∀ M',Gr M M'->Q (.tup (qs.map prD)) M') :
  W ((cx srt (k + 4)).fn "read_marks" [.str t]) M Q:=by
 have big:=line_big;have se:(Str.ofString " ")=sg 32:=by decide
 have sl:=split_len t 32;have hl:=P.l;rw[f_read_marks,wf,b_read_marks];walk_at "wq";refine⟨_,rfl,?_⟩;walk_at "wq";rw[dash_eq,decide_eq_false hd];walk_at "wq";rw[se];refine⟨by omega,⟨by decide,by omega,by omega⟩,_,get_new _ _,?_⟩;have hI:((M++[MO.lst []])++[MO.lst ((splitS t (sg 32)).map D.str)])[M.length]?=some (.lst []):=(Gr.app _ _).keep _ _ (get_new _ _);have hJ:((M++[MO.lst []])++[MO.lst ((splitS t (sg 32)).map D.str)])[(M++[MO.lst []]).length]?=some (.lst ((splitS t (sg 32)).map D.str)):=get_new _ _;have g0:Gr M ((M++[MO.lst []])++[MO.lst ((splitS t (sg 32)).map D.str)]):=(Gr.app _ _).snoc _;generalize (M++[MO.lst []])++[MO.lst ((splitS t (sg 32)).map D.str)]=M1 at hI hJ g0 ⊢;have hlt:M.length < (M++[MO.lst []]).length:=by rw[List.length_append];exact Nat.lt_succ_self _
 generalize (M++[MO.lst []]).length=jw at hJ hlt ⊢;have he:splitS t (sg 32)=ps.map markT:=by rw[P.e,List.append_nil]
 refine w_loopP (RmI M t M.length jw (splitS t (sg 32)) ps) ⟨g0,hI,hJ,_,_,_,rfl⟩ (fun _ _ _ h=>h.b) ?_ ?_
 ·rintro m d ρ M' hd' ⟨gM,hA,hB,x2,x3,x4,rfl⟩
  obtain⟨x,hx,rfl⟩:=enumG hd';rw[he,List.getElem?_map,List.getElem?_map]at hx;obtain⟨w,hw,rfl⟩:=Option.map_eq_some_iff.mp hx;obtain⟨p,hpm,rfl⟩:=Option.map_eq_some_iff.mp hw;have ml:m < ps.length:=(List.getElem?_eq_some_iff.mp hpm).1;refine⟨_,_,rfl,?_⟩;have lw:(markT p).length<=2000:=Nat.le_trans (part_le (s:=t) (c:=32) (by rw[he];exact List.mem_of_getElem? (by rw[List.getElem?_map,hpm];rfl))) ht;refine rmStep (srt:=srt) k M' t M.length m ps p x4 P.nd (P.ok p (List.mem_of_getElem? hpm)) hpm hl lw hA fun M2 x4' g2=>?_;refine⟨(gM.trans g2).set (Nat.le_refl _) _,set_get (g2.keep _ _ hA),?_,_,_,_,rfl⟩;rw[List.getElem?_set_ne (by omega)];exact g2.keep _ _ hB
 ·rintro ρ M' ⟨gM,hA,hB,x2,x3,x4,rfl⟩
  rw[enumN,List.length_map,he,List.length_map,List.take_length]at hA;walk_at "wq";refine⟨_,hA,_,hq,?_⟩;refine⟨_,get_new _ _,q _ (gM.snoc _)⟩
theorem readMarks_bad (k:Nat)(M:MH)(t:Str)(ps:List (Str×Str))(w:Str)(r:List Str)(ht:t.length<=2000)(hd:t≠"-")(P:Pre t ps (w::r))(hb:MBad ps w) :
  ∃ r',(cx srt (k + 4)).rz "read_marks" [.str t] M=some r'/\(r'.1=ps.length/\Gr M r'.2):=by
 have big:=line_big;have se:(Str.ofString " ")=sg 32:=by decide
 have sl:=split_len t 32;have hl:=P.l;have lw:w.length<=2000:=Nat.le_trans (part_le (s:=t) (c:=32) (by rw[P.e];simp)) ht;rw[z_read_marks,if_pos (show [D.str t].length=1 from rfl)];show ∃ r',rzSs (cx srt (k + 3)) b_read_marks [some (.str t),none,none,none,none] M=some r'/\_;rw[b_read_marks];refine zSs ?_;walk_at "wq";refine⟨_,rfl,?_⟩;walk_at "wq";rw[dash_eq,decide_eq_false hd];walk_at "wq";refine⟨_,rfl,zSs ?_⟩;walk_at "wq";refine⟨by omega,_,rfl,(zSs02 (zFor ?_)).2⟩;walk_at "wq";rw[se];refine⟨⟨by decide,by omega,by omega⟩,_,get_new _ _,?_⟩;have hI:((M++[MO.lst []])++[MO.lst ((splitS t (sg 32)).map D.str)])[M.length]?=some (.lst []):=(Gr.app _ _).keep _ _ (get_new _ _);have hJ:((M++[MO.lst []])++[MO.lst ((splitS t (sg 32)).map D.str)])[(M++[MO.lst []]).length]?=some (.lst ((splitS t (sg 32)).map D.str)):=get_new _ _;have g0:Gr M ((M++[MO.lst []])++[MO.lst ((splitS t (sg 32)).map D.str)]):=(Gr.app _ _).snoc _;generalize (M++[MO.lst []])++[MO.lst ((splitS t (sg 32)).map D.str)]=M1 at hI hJ g0 ⊢;have hlt:M.length < (M++[MO.lst []]).length:=by rw[List.length_append];exact Nat.lt_succ_self _
 generalize (M++[MO.lst []]).length=jw at hJ hlt ⊢;refine zLoop (n:=ps.length) (RmI M t M.length jw (splitS t (sg 32)) ps) ⟨g0,hI,hJ,_,_,_,rfl⟩ (fun _ _ _ h=>h.b) ?_ ?_ ?_
 ·rintro m d ρ M' hm hd' ⟨gM,hA,hB,x2,x3,x4,rfl⟩
  obtain⟨x,hx,rfl⟩:=enumG hd';obtain⟨p,hpm⟩:∃ p,ps[m]?=some p:=⟨_,List.getElem?_eq_getElem hm⟩;rw[P.e,List.getElem?_map,List.getElem?_append_left (by rw[List.length_map];exact hm),List.getElem?_map,hpm]at hx;cases hx;refine⟨_,_,rfl,?_⟩;have lw:(markT p).length<=2000:=Nat.le_trans (part_le (s:=t) (c:=32) (by rw[P.e];exact List.mem_append_left _ (List.mem_map.mpr ⟨p,List.mem_of_getElem? hpm,rfl⟩))) ht;refine rmStep (srt:=srt) k M' t M.length m ps p x4 P.nd (P.ok p (List.mem_of_getElem? hpm)) hpm hl lw hA fun M2 x4' g2=>?_;refine⟨_,rfl,(gM.trans g2).set (Nat.le_refl _) _,set_get (g2.keep _ _ hA),?_,_,_,_,rfl⟩;rw[List.getElem?_set_ne (by omega)];exact g2.keep _ _ hB
 ·rintro d ρ M' hd' ⟨gM,hA,hB,x2,x3,x4,rfl⟩
  obtain⟨x,hx,rfl⟩:=enumG hd';rw[P.e,List.getElem?_map,List.getElem?_append_right (by rw[List.length_map];exact Nat.le_refl _),List.length_map,Nat.sub_self]at hx;cases hx;rw[List.take_length]at hA;refine⟨_,_,rfl,zSs2 ?_⟩;walk_at "wq";refine readMark_g (srt:=srt) k M' w lw (fun p M2 hp g2=>?_) (fun M2 hn g2=>?_)
  ·refine⟨_,rfl,zSs02 (zIfRz ?_)⟩
   walk_at "wq";refine⟨_,rfl,?_⟩;walk_at "wq";by_cases h8:ps.length=8
   ·rw[show ((ps.length:Int)==8)=true from by rw[h8];rfl]
    walk_at "wq";exact gM.trans g2
   ·rw[show ((ps.length:Int)==8)=false from beq_eq_false_iff_ne.mpr (by omega)]
    walk_at "wq";refine⟨rfl,fun z=>(by cases z),fun _=>?_⟩;refine hasName_g (srt:=srt) (k + 2) M2 M.length ps p.1 (g2.keep _ _ hA) (by omega) fun M3 g3=>?_;have hin:p.1∈ps.map (·.1):=by
     rcases hb with z | z | ⟨p',hp',z⟩
     ·exact absurd z h8
     ·exact absurd hp (z p)
     ·rw[mark_one hp hp']
      exact z
    rw[decide_eq_true hin];walk_at "wq";exact(gM.trans g2).trans g3
  ·refine⟨_,rfl,zSs02 (zIfRz ?_)⟩
   walk_at "wq";refine⟨_,rfl,?_⟩;walk_at "wq";cases e8:((ps.length:Int)==8) with
   | true =>
    walk_at "wq";exact gM.trans g2
   | false =>
    walk_at "wq";exact⟨rfl,fun _=>gM.trans g2,fun z=>(by cases z)⟩
 ·rw[enumN,List.length_map,P.e,List.length_append,List.length_map,List.length_cons]
  omega
end
end Law
namespace Law
open PySem L3
section
variable {srt:List D->Option (List D)}
theorem names_of {M:MH}{k j:Nat}{ps:List (Str×Str)}{ρ:Ev}(hj:M[j]?=some (.lst (ps.map prD)))(hl:ps.length<=100){L:List D->MH->Prop}(q:L ((ps.map (·.1)).map D.str) M) :
  W (compD (some (j,ps.map prD)) (semCo (cx srt k) .none) (semE (cx srt k) ((IE.var 0).idx (.cint 0))) ρ (ps.map prD)) M L:=by
 have big:=line_big;refine w_compI (fun m ys M'=>M'=M/\ys=((ps.take m).map (·.1)).map D.str) ⟨rfl,rfl⟩ (fun _ _ _ h=>h.1 ▸ hj) ?_ ?_
 ·rintro m d ys M' hd ⟨rfl,rfl⟩
  rw[List.getElem?_map]at hd;obtain⟨p,hp,rfl⟩:=Option.map_eq_some_iff.mp hd;unfold prD;walk_at "wq";rw[List.take_succ,hp];simp
 ·rintro ys M' ⟨rfl,rfl⟩
  rw[List.length_map,List.take_length];exact q
theorem marksDue_g (k:Nat)(M:MH)(t:Str)(ps qs:List (Str×Str))(tl:List Str)(ht:t.length<=2000)(hd:t≠"-")(P:Pre t ps tl)(hb:∀ w r,tl=w::r->MBad ps w)(hq:srt (ps.map prD)=some (qs.map prD)){Q:D->MH->Prop}
  (q1:∀ M',tl=[]->Gr M M'->Q (.tup (qs.map prD)) M') (q2:∀ M' w r,tl=w::r->Gr M M'->Q (.int ps.length) M') :
  W ((cx srt (k + 3)).fn "_law_marks_due" [.str t]) M Q:=by
 have big:=line_big;have se:(Str.ofString " ")=sg 32:=by decide
 have sl:=split_len t 32;have hl:=P.l;rw[f__law_marks_due,wf,b__law_marks_due];walk_at "wq";rw[dash_eq,decide_eq_false hd];walk_at "wq";rw[se];refine⟨by omega,⟨by decide,by omega,by omega⟩,_,get_new _ _,?_⟩;have hI:((M++[MO.lst []])++[MO.lst ((splitS t (sg 32)).map D.str)])[M.length]?=some (.lst []):=(Gr.app _ _).keep _ _ (get_new _ _);have hJ:((M++[MO.lst []])++[MO.lst ((splitS t (sg 32)).map D.str)])[(M++[MO.lst []]).length]?=some (.lst ((splitS t (sg 32)).map D.str)):=get_new _ _;have g0:Gr M ((M++[MO.lst []])++[MO.lst ((splitS t (sg 32)).map D.str)]):=(Gr.app _ _).snoc _;generalize (M++[MO.lst []])++[MO.lst ((splitS t (sg 32)).map D.str)]=M1 at hI hJ g0 ⊢;have hlt:M.length < (M++[MO.lst []]).length:=by rw[List.length_append];exact Nat.lt_succ_self _
 generalize (M++[MO.lst []]).length=jw at hJ hlt ⊢;refine w_loopP (fun m ρ M'=>RmI M t M.length jw (splitS t (sg 32)) ps m ρ M'/\m<=ps.length) ⟨⟨g0,hI,hJ,_,_,_,rfl⟩,Nat.zero_le _⟩ (fun _ _ _ h=>h.1.b) ?_ ?_
 ·rintro m d ρ M' hd' ⟨⟨gM,hA,hB,x2,x3,x4,rfl⟩,hm⟩
  obtain⟨x,hx,rfl⟩:=enumG hd';rw[List.getElem?_map]at hx;obtain⟨w,hw,rfl⟩:=Option.map_eq_some_iff.mp hx;refine⟨_,_,rfl,?_⟩;have lw:w.length<=2000:=Nat.le_trans (part_le (s:=t) (c:=32) (List.mem_of_getElem? hw)) ht;have ltk:((ps.take m).map prD).length<=100:=by rw[List.length_map,List.length_take];omega
  walk_at "wq";by_cases hmm:m < ps.length
  ·obtain⟨p,hpm⟩:∃ p,ps[m]?=some p:=⟨_,List.getElem?_eq_getElem hmm⟩
   rw[P.e,List.getElem?_append_left (by rw[List.length_map];exact hmm),List.getElem?_map,hpm]at hw;cases hw;have hok:=P.ok p (List.mem_of_getElem? hpm);refine pair_g (srt:=srt) k M' (markT p) lw (fun p' M2 h' g2=>?_) (fun M2 h' g2=>absurd ⟨hok,rfl⟩ (h' p));obtain rfl:p'=p:=mark_one h' ⟨hok,rfl⟩;walk_at "wq";have h2:=g2.keep _ _ hA;refine⟨rfl,fun z=>(by cases z),fun _=>⟨fun z=>?_,fun _=>⟨_,h2,by omega,?_⟩⟩⟩
   ·have:=eq_of_beq z
    omega
   refine names_of (srt:=srt) h2 (by rw[List.length_take];omega) ?_;walk_at "wq";refine⟨_,get_new _ _,?_⟩;dsimp only;rw[w_inMo,inL_strs];refine⟨_,rfl,_,rfl,?_⟩;rw[decide_eq_false (name_new P.nd hpm)];have g3:Gr M2 (M2++[MO.lst (((ps.take m).map (·.1)).map D.str)]):=Gr.app _ _;generalize M2++[MO.lst (((ps.take m).map (·.1)).map D.str)]=M3 at g3 ⊢;have h3:=g3.keep _ _ h2;walk_at "wq";refine⟨_,h3,_,h3,by rw[List.length_map,List.length_take];omega,?_⟩;have e:(ps.take m).map prD++[D.tup [.str p'.1,.str p'.2]]=(ps.take (m + 1)).map prD:=by
    rw[List.take_succ,hpm,List.map_append];rfl
   rw[e];refine⟨⟨((gM.trans g2).trans g3).set (Nat.le_refl _) _,set_get h3,?_,_,_,_,rfl⟩,by omega⟩;rw[List.getElem?_set_ne (by omega)];exact g3.keep _ _ (g2.keep _ _ hB)
  ·obtain rfl:m=ps.length:=by omega
   rw[List.take_length]at hA;rw[P.e,List.getElem?_append_right (by rw[List.length_map];exact Nat.le_refl _),List.length_map,Nat.sub_self]at hw;obtain⟨r,htl⟩:∃ r,tl=w::r:=by
    cases tl with
    | nil=>cases hw
    | cons a r =>
     cases hw;exact⟨r,rfl⟩
   have bad:=hb w r htl;refine pair_g (srt:=srt) k M' w lw (fun p M2 hp g2=>?_) (fun M2 hn g2=>?_)
   ·walk_at "wq"
    have h2:=g2.keep _ _ hA;refine⟨rfl,fun z=>(by cases z),fun _=>⟨fun z=>q2 _ w r htl (gM.trans g2),fun z=>⟨_,h2,by rw[List.length_map];omega,?_⟩⟩⟩;refine names_of (srt:=srt) h2 (by omega) ?_;walk_at "wq";refine⟨_,get_new _ _,?_⟩;dsimp only;rw[w_inMo,inL_strs];refine⟨_,rfl,_,rfl,?_⟩;have hin:p.1∈ps.map (·.1):=by
     rcases bad with y | y | ⟨p',hp',y⟩
     ·rw[y]at z
      cases z
     ·exact absurd hp (y p)
     ·rw[mark_one hp hp']
      exact y
    rw[decide_eq_true hin];walk_at "wq";exact q2 _ w r htl ((gM.trans g2).trans (Gr.app _ _))
   ·walk_at "wq"
    exact⟨rfl,fun _=>q2 _ w r htl (gM.trans g2),fun z=>(by cases z)⟩
 ·rintro ρ M' ⟨⟨gM,hA,hB,x2,x3,x4,rfl⟩,hm⟩
  rw[enumN,List.length_map,P.e,List.length_append,List.length_map]at hA hm;have htl:tl=[]:=List.length_eq_zero_iff.mp (by omega);rw[htl,List.length_nil,Nat.add_zero,List.take_length]at hA;walk_at "wq";refine⟨_,hA,_,hq,?_⟩;exact⟨_,get_new _ _,q1 _ htl (gM.snoc _)⟩
end
end Law
namespace Law
open PySem L3
section
variable {srt:List D->Option (List D)}
theorem ask_one {w:Str}{a b:Ask}(h:IsAsk w a)(g:IsAsk w b):a=b:=by
 obtain⟨e1,e2,e3⟩:=ask_cut h (kd:=b.k) (a:=b.n) (b:=bar b.vs) g.2 g.1.n;have e4:a.vs=b.vs:=by
  cases hk:isKd b.k with
  | true =>
   have sp:∀ x:Ask,AskOk x->isKd x.k=true->splitS (bar x.vs) (sg 124)=x.vs:=fun x hx hk=>split_join (c:=124) (hx.ne hk) fun v hv=>not_abn (hx.v v hv) (by omega);rw[<- sp a h.1 (by rw[e1];exact hk),<- sp b g.1 hk,e3]
  | false=>rw[h.1.e (by rw[e1];exact hk),g.1.e hk]
 cases a;cases b;simp only at e1 e2 e4;rw[e1,e2,e4]
structure APre (t:Str) (xs:List Ask) (tl:List Str):Prop where
 e:splitS t (sg 32)=xs.map askT++tl
 ok:∀ a∈xs,AskOk a
 l:xs.length<=4
noncomputable def ABad (xs:List Ask)(w:Str):Prop:=xs.length=4\/∀ a,¬ IsAsk w a
theorem asks_cases (t:Str):∃ xs tl,APre t xs tl/\∀ w r,tl=w::r->ABad xs w:=by
 suffices H:∀ (tl:List Str) (xs:List Ask),APre t xs tl->∃ xs tl,APre t xs tl/\∀ w r,tl=w::r->ABad xs w from
  H (splitS t (sg 32)) [] ⟨rfl,fun p h=>(by cases h),Nat.zero_le _⟩
 intro tl;induction tl with
 | nil=>exact fun ps h=>⟨ps,[],h,fun w r z=>(by cases z)⟩
 | cons w tl ih =>
  intro xs h;by_cases hb:ABad xs w
  ·exact⟨xs,w::tl,h,fun w' r z=>by injection z with z1 z2;exact z1 ▸ hb⟩
  ·have h4:xs.length≠4:=fun z=>hb (.inl z)
   obtain⟨p,hp⟩:∃ p,IsAsk w p:=Classical.byContradiction fun z=>hb (.inr fun p hp=>z ⟨p,hp⟩);refine ih (xs++[p]) ⟨?_,fun q hq=>?_,?_⟩
   ·rw[h.e,hp.2,List.map_append,List.append_assoc]
    rfl
   ·rcases List.mem_append.mp hq with hq | hq
    ·exact h.ok q hq
    ·rw[List.mem_singleton.mp hq]
     exact hp.1
   ·rw[List.length_append]
    have:=h.l
    simp only[List.length_cons,List.length_nil];omega
theorem ahead_g (k:Nat)(M:MH)(j:Nat)(t:Str)(xs:List Ask)(tl:List Str)(ht:t.length<=2000)(P:APre t xs tl)(hb:∀ w r,tl=w::r->ABad xs w)(hj:M[j]?=some (.lst ((splitS t (sg 32)).map .str))){Q:D->MH->Prop}
  (q:∀ i M',Gr M M'->M'[i]?=some (.lst (xs.map askD))->Q (.ob i) M'):W ((cx srt (k + 6)).fn "askings_ahead" [.ob j]) M Q:=by
 have big:=line_big;have hl:=P.l;rw[f_askings_ahead,wf,b_askings_ahead];walk_at "wq";refine⟨by walk_at "o",_,rfl,?_⟩;walk_at "wq";refine⟨_,(Gr.app _ _).keep _ _ hj,?_⟩;have hc:cutD ((splitS t (sg 32)).map D.str) none (some 4)=((splitS t (sg 32)).take 4).map D.str:=by
  rw[cut_hi _ (by decide),List.map_take];rfl
 rw[hc];refine⟨_,get_new _ _,?_⟩;generalize hus:(splitS t (sg 32)).take 4=us;have lus:us.length=min 4 (xs.length + tl.length):=by rw[<- hus,P.e,List.length_take,List.length_append,List.length_map]
 have hI:((M++[MO.lst []])++[MO.lst (us.map D.str)])[M.length]?=some (.lst []):=(Gr.app _ _).keep _ _ (get_new _ _);have hJ:((M++[MO.lst []])++[MO.lst (us.map D.str)])[(M++[MO.lst []]).length]?=some (.lst (us.map D.str)):=get_new _ _;have g0:Gr M ((M++[MO.lst []])++[MO.lst (us.map D.str)]):=(Gr.app _ _).snoc _;generalize (M++[MO.lst []])++[MO.lst (us.map D.str)]=M1 at hI hJ g0 ⊢;have hlt:M.length < (M++[MO.lst []]).length:=by rw[List.length_append];exact Nat.lt_succ_self _
 generalize (M++[MO.lst []]).length=jw at hJ hlt ⊢;refine w_loop (fun m ρ M'=>Gr M M'/\M'[M.length]?=some (.lst ((xs.take m).map askD))/\M'[jw]?=some (.lst (us.map D.str))/\m<=xs.length/\∃ x2 x3,ρ=[some (.ob j),some (.ob M.length),x2,x3]) ⟨g0,hI,hJ,Nat.zero_le _,_,_,rfl⟩ (fun _ _ _ h=>h.2.2.1) ?_ ?_
 ·rintro m d ρ M' hd ⟨gM,hA,hB,hm,x2,x3,rfl⟩
  rw[List.getElem?_map]at hd;obtain⟨w,hw,rfl⟩:=Option.map_eq_some_iff.mp hd;have hw0:=hw;have m4:m < 4:=by
   have:=(List.getElem?_eq_some_iff.mp hw).1
   omega
  rw[<- hus,List.getElem?_take,if_pos m4]at hw;have lw:w.length<=2000:=Nat.le_trans (part_le (s:=t) (c:=32) (List.mem_of_getElem? hw)) ht;walk_at "wq";by_cases hmm:m < xs.length
  ·obtain⟨a,ham⟩:∃ a,xs[m]?=some a:=⟨_,List.getElem?_eq_getElem hmm⟩
   rw[P.e,List.getElem?_append_left (by rw[List.length_map];exact hmm),List.getElem?_map,ham]at hw;cases hw;have hok:=P.ok a (List.mem_of_getElem? ham);refine readAsking_g (srt:=srt) k M' (askT a) lw (fun a' M2 h' g2=>?_) (fun M2 h' g2=>absurd ⟨hok,rfl⟩ (h' a));obtain rfl:a'=a:=ask_one h' ⟨hok,rfl⟩;walk_at "wq";refine⟨rfl,fun z=>(by cases z),fun _=>?_⟩;refine⟨_,g2.keep _ _ hA,_,g2.keep _ _ hA,by rw[List.length_map,List.length_take];omega,?_⟩;refine⟨(gM.trans g2).set (Nat.le_refl _) _,?_,?_,by omega,_,_,rfl⟩
   ·rw[set_get (g2.keep _ _ hA),List.take_add_one,ham,List.map_append]
    rfl
   ·rw[List.getElem?_set_ne (by omega)]
    exact g2.keep _ _ hB
  ·obtain rfl:m=xs.length:=by omega
   rw[List.take_length]at hA;rw[P.e,List.getElem?_append_right (by rw[List.length_map];exact Nat.le_refl _),List.length_map,Nat.sub_self]at hw;obtain⟨r,htl⟩:∃ r,tl=w::r:=by
    cases tl with
    | nil=>cases hw
    | cons a r =>
     cases hw;exact⟨r,rfl⟩
   have bad:∀ a,¬ IsAsk w a:=(hb w r htl).resolve_left (by omega);refine readAsking_g (srt:=srt) k M' w lw (fun a' M2 h' g2=>absurd h' (bad a')) (fun M2 h' g2=>?_);walk_at "wq";refine⟨rfl,fun _=>?_,fun z=>(by cases z)⟩;exact q _ _ (gM.trans g2) (g2.keep _ _ hA)
 ·rintro ρ M' ⟨gM,hA,hB,hm,x2,x3,rfl⟩
  rw[List.length_map]at hA hm
  have:us.length=xs.length:=by omega
  rw[this,List.take_length]at hA;walk_at "wq";exact q _ _ gM hA
theorem readAskings_dash (k:Nat)(M:MH){Q:D->MH->Prop}(q:Q (.tup []) M):W ((cx srt (k + 7)).fn "read_askings" [.str "-"]) M Q:=by
 have big:=line_big;rw[f_read_askings,wf,b_read_askings];walk_at "wq";refine⟨_,rfl,?_⟩;walk_at "wq";rw[dash_eq,decide_eq_true rfl];walk_at "wq";exact⟨by omega,q⟩
theorem readAskings_good (k:Nat)(M:MH)(t:Str)(xs:List Ask)(ht:t.length<=2000)(hd:t≠"-")(P:APre t xs []){Q:D->MH->Prop}(q:∀ M',Gr M M'->Q (.tup (xs.map askD)) M'):W ((cx srt (k + 7)).fn "read_askings" [.str t]) M Q:=by
 have big:=line_big;have se:(Str.ofString " ")=sg 32:=by decide
 have sl:=split_len t 32;rw[f_read_askings,wf,b_read_askings];walk_at "wq";refine⟨_,rfl,?_⟩;walk_at "wq";rw[dash_eq,decide_eq_false hd];walk_at "wq";rw[se];refine⟨⟨by decide,by omega,by omega⟩,?_⟩;refine ahead_g (srt:=srt) k _ _ t xs [] ht P (fun _ _ z=>(by cases z)) (get_new _ _) fun i M2 g2 h2=>?_;walk_at "wq";refine⟨_,h2,?_⟩;walk_at "wq";refine⟨_,g2.keep _ _ (get_new _ _),?_⟩;walk_at "wq";refine⟨fun z=>absurd (of_decide_eq_true z) (by rw[P.e];simp),fun _=>?_⟩;exact⟨_,h2,q _ ((Gr.app _ _).trans g2)⟩
theorem readAskings_bad (k:Nat)(M:MH)(t:Str)(xs:List Ask)(w:Str)(r:List Str)(ht:t.length<=2000)(hd:t≠"-")(P:APre t xs (w::r))(hb:ABad xs w) :
  ∃ r',(cx srt (k + 7)).rz "read_askings" [.str t] M=some r'/\(r'.1=xs.length/\Gr M r'.2):=by
 have big:=line_big;have se:(Str.ofString " ")=sg 32:=by decide
 have sl:=split_len t 32;rw[z_read_askings,if_pos (show [D.str t].length=1 from rfl)];show ∃ r',rzSs (cx srt (k + 6)) b_read_askings [some (.str t),none,none] M=some r'/\_;rw[b_read_askings];refine zSs ?_;walk_at "wq";refine⟨_,rfl,?_⟩;walk_at "wq";rw[dash_eq,decide_eq_false hd];walk_at "wq";refine⟨_,rfl,zSs ?_⟩;walk_at "wq";rw[se];refine⟨⟨by decide,by omega,by omega⟩,_,rfl,zSs ?_⟩;walk_at "wq";refine ahead_g (srt:=srt) k _ _ t xs (w::r) ht P (fun w' r' z=>(by injection z with z1 z2;exact z1 ▸ hb)) (get_new _ _) fun i M2 g2 h2=>?_;refine⟨_,rfl,(zSs02 (zIfRz ?_)).2⟩;walk_at "wq";refine⟨_,h2,?_⟩;walk_at "wq";refine⟨_,g2.keep _ _ (get_new _ _),?_⟩;walk_at "wq";exact⟨decide_eq_true (by rw[P.e];simp;omega),_,h2,by show ((xs.map askD).length:Int)=_;rw[List.length_map],(Gr.app _ _).trans g2⟩
theorem askingsDue_g (k:Nat)(M:MH)(t:Str)(xs:List Ask)(tl:List Str)(ht:t.length<=2000)(hd:t≠"-")(P:APre t xs tl)(hb:∀ w r,tl=w::r->ABad xs w){Q:D->MH->Prop}
  (q1:∀ M',tl=[]->Gr M M'->Q (.tup (xs.map askD)) M') (q2:∀ M' w r,tl=w::r->Gr M M'->Q (.int xs.length) M') :
  W ((cx srt (k + 3)).fn "_law_askings_due" [.str t]) M Q:=by
 have big:=line_big;have se:(Str.ofString " ")=sg 32:=by decide
 have sl:=split_len t 32;have hl:=P.l;rw[f__law_askings_due,wf,b__law_askings_due];walk_at "wq";rw[dash_eq,decide_eq_false hd];walk_at "wq";rw[se];refine⟨by omega,⟨by decide,by omega,by omega⟩,_,get_new _ _,?_⟩;have hI:((M++[MO.lst []])++[MO.lst ((splitS t (sg 32)).map D.str)])[M.length]?=some (.lst []):=(Gr.app _ _).keep _ _ (get_new _ _);have hJ:((M++[MO.lst []])++[MO.lst ((splitS t (sg 32)).map D.str)])[(M++[MO.lst []]).length]?=some (.lst ((splitS t (sg 32)).map D.str)):=get_new _ _;have g0:Gr M ((M++[MO.lst []])++[MO.lst ((splitS t (sg 32)).map D.str)]):=(Gr.app _ _).snoc _;generalize (M++[MO.lst []])++[MO.lst ((splitS t (sg 32)).map D.str)]=M1 at hI hJ g0 ⊢;have hlt:M.length < (M++[MO.lst []]).length:=by rw[List.length_append];exact Nat.lt_succ_self _
 generalize (M++[MO.lst []]).length=jw at hJ hlt ⊢;refine w_loopP (fun m ρ M'=>Gr M M'/\M'[M.length]?=some (.lst ((xs.take m).map askD))/\M'[jw]?=some (.lst ((splitS t (sg 32)).map D.str))/\m<=xs.length/\∃ x2 x3 x4,ρ=[some (.str t),some (.ob M.length),x2,x3,x4]) ⟨g0,hI,hJ,Nat.zero_le _,_,_,_,rfl⟩ (fun _ _ _ h=>h.2.2.1) ?_ ?_
 ·rintro m d ρ M' hd' ⟨gM,hA,hB,hm,x2,x3,x4,rfl⟩
  obtain⟨x,hx,rfl⟩:=enumG hd';rw[List.getElem?_map]at hx;obtain⟨w,hw,rfl⟩:=Option.map_eq_some_iff.mp hx;refine⟨_,_,rfl,?_⟩;have lw:w.length<=2000:=Nat.le_trans (part_le (s:=t) (c:=32) (List.mem_of_getElem? hw)) ht;walk_at "wq";by_cases hmm:m < xs.length
  ·obtain⟨a,ham⟩:∃ a,xs[m]?=some a:=⟨_,List.getElem?_eq_getElem hmm⟩
   rw[P.e,List.getElem?_append_left (by rw[List.length_map];exact hmm),List.getElem?_map,ham]at hw;cases hw;have hok:=P.ok a (List.mem_of_getElem? ham);refine asked_g (srt:=srt) k M' (askT a) lw (fun a' M2 h' g2=>?_) (fun M2 h' g2=>absurd ⟨hok,rfl⟩ (h' a));obtain rfl:a'=a:=ask_one h' ⟨hok,rfl⟩;walk_at "wq";refine⟨rfl,fun z=>(by cases z),fun _=>?_⟩;have e4:((m:Int)==4)=false:=beq_eq_false_iff_ne.mpr (by omega);rw[e4];walk_at "wq";refine⟨_,g2.keep _ _ hA,_,g2.keep _ _ hA,by rw[List.length_map,List.length_take];omega,?_⟩;refine⟨(gM.trans g2).set (Nat.le_refl _) _,?_,?_,by omega,_,_,_,rfl⟩
   ·rw[set_get (g2.keep _ _ hA),List.take_add_one,ham,List.map_append]
    rfl
   ·rw[List.getElem?_set_ne (by omega)]
    exact g2.keep _ _ hB
  ·obtain rfl:m=xs.length:=by omega
   rw[List.take_length]at hA;rw[P.e,List.getElem?_append_right (by rw[List.length_map];exact Nat.le_refl _),List.length_map,Nat.sub_self]at hw;obtain⟨r,htl⟩:∃ r,tl=w::r:=by
    cases tl with
    | nil=>cases hw
    | cons a r =>
     cases hw;exact⟨r,rfl⟩
   have bad:=hb w r htl;refine asked_g (srt:=srt) k M' w lw (fun a' M2 h' g2=>?_) (fun M2 h' g2=>?_)
   ·walk_at "wq"
    refine⟨rfl,fun z=>(by cases z),fun _=>?_⟩;have h4:xs.length=4:=bad.resolve_right fun z=>z a' h';rw[show ((xs.length:Int)==4)=true from by rw[h4];rfl];walk_at "wq";exact q2 _ w r htl (gM.trans g2)
   ·walk_at "wq"
    exact⟨rfl,fun _=>q2 _ w r htl (gM.trans g2),fun z=>(by cases z)⟩
 ·rintro ρ M' ⟨gM,hA,hB,hm,x2,x3,x4,rfl⟩
  rw[enumN,List.length_map,P.e,List.length_append,List.length_map]at hA hm;have htl:tl=[]:=List.length_eq_zero_iff.mp (by omega);rw[htl,List.length_nil,Nat.add_zero,List.take_length]at hA;walk_at "wq";exact⟨_,hA,q1 _ htl gM⟩
end
end Law
namespace Law
open PySem L3 PyProof
section
theorem piled_le {B:Nat}:∀ ts:List Str,(∀ t∈ts,t.length<=B)->piled ts<=ts.length * (B + 2)
 | [],_=>Nat.zero_le _
 | t::ts,h=>by
  have h1:=h t List.mem_cons_self;have h2:=piled_le ts fun s hs=>h s (List.mem_cons_of_mem _ hs);rw[piled_cons,List.length_cons,Nat.succ_mul];omega
theorem tup_len (ts:List Str):(tupleText ts).length<=piled ts + 3:=by
 unfold tupleText;rw[len_app,len_app];have e1:((("(" : String):Str)).length=1:=rfl;have e3:(((if ts.length==1 then ",)" else ")" : String):Str)).length<=2:=by split <;> decide
 have e2:(Str.join ", " ts).length<=piled ts:=by
  by_cases h:ts=[]
  ·subst h;decide
  ·have:=join_length_add ts h;omega
 omega
theorem shownAll_map {α:Type}(f:α->PyData):∀ xs:List α,PyData.shownAll (xs.map f)=xs.map fun x=>(f x).shown
 | []=>rfl
 | x::xs=>by rw[List.map_cons,PyData.shownAll,shownAll_map f xs];rfl
theorem showableAll_map {α:Type}(f:α->PyData):∀ xs:List α,(∀ x∈xs,(f x).showable=true)->PyData.showableAll (xs.map f)=true
 | [],_=>rfl
 | x::xs,h=>by rw[List.map_cons,PyData.showableAll,h x List.mem_cons_self,showableAll_map f xs fun y hy=>h y (List.mem_cons_of_mem _ hy)];rfl
theorem depthAll_map {α:Type}(f:α->PyData){B:Nat}:∀ xs:List α,(∀ x∈xs,(f x).depth<=B)->PyData.depthAll (xs.map f)<=B
 | [],_=>Nat.zero_le _
 | x::xs,h=>by
  rw[List.map_cons,PyData.depthAll];exact Nat.max_le.mpr ⟨h x List.mem_cons_self,depthAll_map f xs fun y hy=>h y (List.mem_cons_of_mem _ hy)⟩
structure Sh (B d:Nat) (x:PyData):Prop where
 s:x.showable=true
 l:x.shown.length<=B
 d:x.depth<=d
theorem sh_tup {α:Type}{f:α->PyData}{B d n:Nat}{xs:List α}(hl:xs.length<=n)(h:∀ x∈xs,Sh B d (f x)):Sh (n * (B + 2) + 3) (d + 1) (.tuple (xs.map f)):=by
 refine⟨?_,?_,?_⟩
 ·rw[PyData.showable]
  exact showableAll_map _ xs fun i hi=>(h i hi).s
 ·rw[PyData.shown,shownAll_map]
  have h1:=tup_len (xs.map fun x=>(f x).shown);have h2:=piled_le (B:=B) (xs.map fun x=>(f x).shown) fun t ht=>by
   obtain⟨x,hx,rfl⟩:=List.mem_map.mp ht;exact(h x hx).l
  rw[List.length_map]at h2;have h3:=Nat.mul_le_mul_right (B + 2) hl;omega
 ·rw[PyData.depth]
  exact Nat.succ_le_succ (depthAll_map _ xs fun i hi=>(h i hi).d)
theorem sh_str {v:Str}{n:Nat}(hl:v.length<=n)(h:∀ c∈v.cps.toList,c < 1000):Sh (10 * n + 2) 0 (.str v):=by
 have h1:=StrLaws.reprText_len v fun c hc=>Nat.lt_of_lt_of_le (h c hc) (by decide);refine⟨by rw[PyData.showable],?_,by rw[PyData.depth];exact Nat.le_refl _⟩;rw[PyData.shown];omega
theorem Sh.up {B B' d d':Nat}{x:PyData}(h:Sh B d x)(hb:B<=B')(hd:d<=d'):Sh B' d' x:=⟨h.s,Nat.le_trans h.l hb,Nat.le_trans h.d hd⟩
theorem abn_lo {w:Str}{n:Nat}(h:WordOk abn n w):∀ c∈w.cps.toList,c < 1000:=fun c hc=>by
 have:=abn_sign c (h.2.2 c hc)
 omega
theorem abc_lo {w:Str}{n:Nat}(h:WordOk abc n w):∀ c∈w.cps.toList,c < 1000:=fun c hc=>by
 have:=abc_sign c (h.2.2 c hc)
 omega
theorem toPys_map {α:Type}{M:MH}{n:Nat}{f:α->D}{g:α->PyData}:∀ {xs:List α},(∀ x∈xs,toPy M n (f x)=some (g x))->toPys M n (xs.map f)=some (xs.map g)
 | [],_=>by rw[List.map_nil,toPys];rfl
 | x::xs,h=>by rw[List.map_cons,toPys,toPys_map fun y hy=>h y (List.mem_cons_of_mem _ hy),h x List.mem_cons_self];rfl
theorem repr_tup {α:Type}{M:MH}{f:α->D}{g:α->PyData}{B d n:Nat}{xs:List α}(hl:xs.length<=n)(hB:n * (B + 2) + 3<=100000)(hd:d<=30)(hp:∀ x∈xs,toPy M 19 (f x)=some (g x))(h:∀ x∈xs,Sh B d (g x)):reprT M (.tup (xs.map f))=some (PyData.tuple (xs.map g)).shown:=by
 have big:=line_big;obtain⟨h1,h2,h3⟩:=sh_tup hl h;have e:toPy M 20 (.tup (xs.map f))=some (PyData.tuple (xs.map g)):=by rw[toPy,toPys_map hp];rfl
 unfold reprT;rw[if_pos (show isRefD (D.tup (xs.map f))=true from rfl),e];dsimp only;rw[if_pos ?_];simp only[Bool.and_eq_true,decide_eq_true_eq];exact⟨⟨h1,by omega⟩,by omega⟩
noncomputable def pyM (p:Str×Str):PyData:=.tuple ([p.1,p.2].map .str)
noncomputable def pyA (a:Ask):PyData:=.tuple ([.str (kdW a.k),.str a.n,.tuple (a.vs.map .str)].map id)
theorem repr_marks {M:MH}{ps:List (Str×Str)}(hl:ps.length<=8)(h:∀ p∈ps,MarkOk p):reprT M (.tup (ps.map prD))=some (PyData.tuple (ps.map pyM)).shown:=by
 refine repr_tup (B:=251) (d:=1) hl (by decide) (by decide) (fun p _=>?_) fun p hp=>?_
 ·unfold prD pyM
  have e:[D.str p.1,D.str p.2]=[p.1,p.2].map D.str:=rfl;rw[e,toPy,toPys_map (g:=.str) fun x _=>by rw[toPy]];rfl
 ·have ok:=h p hp
  refine(sh_tup (n:=2) (B:=122) (d:=0) (Nat.le_refl _) fun x hx=>?_).up (by decide) (by decide);rcases List.mem_cons.mp hx with rfl | hx
  ·exact(sh_str ok.1.2.1 (abc_lo ok.1)).up (by decide) (by decide)
  ·rw[List.mem_singleton.mp hx]
   exact(sh_str ok.2.2.1 (abn_lo ok.2)).up (by decide) (by decide)
theorem kd_lo (k:Kd):(kdW k).length<=5/\∀ c∈(kdW k).cps.toList,c < 1000:=by cases k <;> exact⟨by decide +kernel,by decide +kernel⟩
theorem repr_asks {M:MH}{xs:List Ask}(hl:xs.length<=4)(h:∀ a∈xs,AskOk a):reprT M (.tup (xs.map askD))=some (PyData.tuple (xs.map pyA)).shown:=by
 refine repr_tup (B:=3000) (d:=2) hl (by decide) (by decide) (fun a _=>?_) fun a ha=>?_
 ·unfold askD pyA
  have e:toPy M 18 (.tup (a.vs.map .str))=some (.tuple (a.vs.map .str)):=by rw[toPy,toPys_map (g:=.str) fun x _=>by rw[toPy]];rfl
  rw[toPy,toPys,toPys,toPys,toPys,e,toPy,toPy];rfl
 ·have ok:=h a ha
  refine(sh_tup (n:=3) (B:=500) (d:=1) (Nat.le_refl _) fun x hx=>?_).up (by decide) (by decide);simp only[List.mem_cons,List.not_mem_nil,or_false]at hx;rcases hx with rfl | rfl | rfl
  ·exact(sh_str (kd_lo a.k).1 (kd_lo a.k).2).up (by decide) (by decide)
  ·exact(sh_str ok.n.2.1 (abc_lo ok.n)).up (by decide) (by decide)
  ·refine(sh_tup (n:=3) (B:=122) (d:=0) ok.l fun v hv=>?_).up (by decide) (by decide)
   exact(sh_str (ok.v v hv).2.1 (abn_lo (ok.v v hv))).up (by decide) (by decide)
end
end Law
namespace Law
open PySem L3
section
variable {srt:List D->Option (List D)}
theorem tup_nil_repr {M:MH}:reprT M (.tup [])=some (PyData.tuple []).shown:=repr_marks (ps:=[]) (Nat.zero_le _) (fun p h=>(by cases h))
theorem rf_ok {k:Nat}{n j:Int}{t:Str}{M M':MH}(h:(cx srt k).rz (if n=0 then "read_marks" else "read_askings") [.str t] M=some (j,M'))(hj:j.natAbs < 2 ^ 64):(cx srt (k + 1)).rf [.int n,.str t,.int j] M=some M':=by
 rw[z_rf];unfold rf2;dsimp only;rw[h];dsimp only;rw[if_pos ⟨rfl,hj⟩]
theorem marksDue_dash (k:Nat)(M:MH){Q:D->MH->Prop}(q:Q (.tup []) M):W ((cx srt (k + 1)).fn "_law_marks_due" [.str "-"]) M Q:=by
 have big:=line_big;rw[f__law_marks_due,wf,b__law_marks_due];walk_at "wq";rw[dash_eq,decide_eq_true rfl];walk_at "wq";exact⟨by omega,q⟩
theorem askingsDue_dash (k:Nat)(M:MH){Q:D->MH->Prop}(q:Q (.tup []) M):W ((cx srt (k + 1)).fn "_law_askings_due" [.str "-"]) M Q:=by
 have big:=line_big;rw[f__law_askings_due,wf,b__law_askings_due];walk_at "wq";rw[dash_eq,decide_eq_true rfl];walk_at "wq";exact⟨by omega,q⟩
theorem right_g (hs:Sorts srt)(k:Nat)(M:MH)(t:Str)(way:Int)(hw:way=0\/way=1)(ht:t.length<=2000){Q:D->MH->Prop}(q:∀ M',Gr M M'->Q (.bl true) M'):W ((cx srt (k + 9)).fn "_law_right" [.int way,.str t]) M Q:=by
 have big:=line_big;rw[f__law_right,wf,b__law_right];walk_at "wq";rcases hw with rfl | rfl
 ·rw[show ((0:Int)==0)=true from rfl]
  walk_at "wq";by_cases hd:t = "-"
  ·subst hd
   refine marksDue_dash (srt:=srt) (k + 7) M ?_;walk_at "wq";refine⟨fun z=>(by cases z),fun _=>⟨fun _=>?_,fun z=>(by cases z)⟩⟩;refine readMarks_dash (srt:=srt) (k + 4) M ?_;refine⟨_,tup_nil_repr,?_⟩;walk_at "wq";refine⟨_,tup_nil_repr,?_⟩;rw[beq_self_eq_true];exact q M Gr.refl
  ·obtain⟨ps,tl,P,hb⟩:=marks_cases t
   have hl:=P.l;obtain⟨qs,hq,hp⟩:=hs ps (by omega);have hlq:qs.length<=8:=by rw[hp.length_eq];exact hl
   have hok:∀ p∈qs,MarkOk p:=fun p hp'=>P.ok p (hp.mem_iff.mp hp');refine marksDue_g (srt:=srt) (k + 5) M t ps qs tl ht hd P hb hq (fun M' htl g=>?_) (fun M' w r htl g=>?_)
   ·subst htl
    walk_at "wq";refine⟨fun z=>(by cases z),fun _=>⟨fun _=>?_,fun z=>(by cases z)⟩⟩;refine readMarks_good (srt:=srt) (k + 4) M' t ps qs ht hd P hq fun M2 g2=>?_;refine⟨_,repr_marks hlq hok,?_⟩;walk_at "wq";refine⟨_,repr_marks hlq hok,?_⟩;rw[beq_self_eq_true];exact q M2 (g.trans g2)
   ·subst htl
    walk_at "wq";refine⟨fun _=>?_,fun z=>(by cases z)⟩;obtain⟨⟨i,M2⟩,e,e2,g2⟩:=readMarks_bad (srt:=srt) (k + 3) M' t ps w r ht hd P (hb w r rfl);simp only at e2 g2;subst e2;exact⟨M2,rf_ok (n:=0) e (by show ((ps.length:Nat):Int).natAbs < _;rw[Int.natAbs_natCast];omega),q M2 (g.trans g2)⟩
 ·rw[show ((1:Int)==0)=false from rfl]
  walk_at "wq";by_cases hd:t = "-"
  ·subst hd
   refine askingsDue_dash (srt:=srt) (k + 7) M ?_;walk_at "wq";refine⟨fun z=>(by cases z),fun _=>⟨fun z=>(by cases z),fun _=>?_⟩⟩;refine readAskings_dash (srt:=srt) (k + 1) M ?_;refine⟨_,tup_nil_repr,?_⟩;walk_at "wq";refine⟨_,tup_nil_repr,?_⟩;rw[beq_self_eq_true];exact q M Gr.refl
  ·obtain⟨xs,tl,P,hb⟩:=asks_cases t
   have hl:=P.l;refine askingsDue_g (srt:=srt) (k + 5) M t xs tl ht hd P hb (fun M' htl g=>?_) (fun M' w r htl g=>?_)
   ·subst htl
    walk_at "wq";refine⟨fun z=>(by cases z),fun _=>⟨fun z=>(by cases z),fun _=>?_⟩⟩;refine readAskings_good (srt:=srt) (k + 1) M' t xs ht hd P fun M2 g2=>?_;refine⟨_,repr_asks hl P.ok,?_⟩;walk_at "wq";refine⟨_,repr_asks hl P.ok,?_⟩;rw[beq_self_eq_true];exact q M2 (g.trans g2)
   ·subst htl
    walk_at "wq";refine⟨fun _=>?_,fun z=>(by cases z)⟩;obtain⟨⟨i,M2⟩,e,e2,g2⟩:=readAskings_bad (srt:=srt) k M' t xs w r ht hd P (hb w r rfl);simp only at e2 g2;subst e2;exact⟨M2,rf_ok (n:=1) e (by show ((xs.length:Nat):Int).natAbs < _;rw[Int.natAbs_natCast];omega),q M2 (g.trans g2)⟩
end
end Law
namespace Law
open PySem L3
section
variable {srt:List D->Option (List D)}
structure Env (M:MH) (jf jn jt:Nat) (ns vs:List Str):Prop where
 F:Fd M jf
 n:M[jn]?=some (.lst (ns.map .str))
 t:M[jt]?=some (.lst (vs.map .str))
 ln:ns.length=9
 lt:vs.length=6
 nj:jn≠jf
 tj:jt≠jf
 no:∀ w∈ns,WordOk abc 8 w
 vo:∀ w∈vs,WordOk abn 12 w
 nd:vs.Nodup
theorem Env.go {M M':MH}{jf jn jt:Nat}{ns vs:List Str}(w:Env M jf jn jt ns vs)(g:Gx jf M M')(F:Fd M' jf):Env M' jf jn jt ns vs:=⟨F,g.keep _ _ w.nj w.n,g.keep _ _ w.tj w.t,w.ln,w.lt,w.nj,w.tj,w.no,w.vo,w.nd⟩
theorem Env.keep {M M':MH}{jf jn jt:Nat}{ns vs:List Str}(w:Env M jf jn jt ns vs)(g:Gr M M'):Env M' jf jn jt ns vs:=w.go (.of g) (w.F.keep g)
theorem strAt {xs:List Str}{i:Int}(h0:0<=i)(h1:i < (xs.length:Int)):∃ x,x∈xs/\atD xs i=some x/\atD (xs.map D.str) i=some (.str x):=by
 obtain⟨x,e,hx⟩:=atD_in (xs:=xs) h0 h1;refine⟨x,hx,e,?_⟩;obtain⟨a,rfl⟩:=Int.eq_ofNat_of_zero_le h0;refine atD_nat ?_;unfold atD ixD at e;rw[if_pos (by omega),if_pos h1]at e;have e:xs[a]?=some x:=e;rw[List.getElem?_map,e];rfl
theorem md (x:Int){m:Int}(h:0 < m):0<=x % m/\x % m < m:=⟨Int.emod_nonneg _ (by walk_at "o"),Int.emod_lt_of_pos _ h⟩
theorem kd_of {wd:D}(h:wd∈[D.str "is",.str "no",.str "is",.str "there",.str "lacks",.str "is"]):∃ kd,wd=.str (kdW kd):=by
 simp only[List.mem_cons,List.not_mem_nil,or_false]at h;rcases h with rfl | rfl | rfl | rfl | rfl | rfl
 ·exact⟨.is,rfl⟩
 ·exact⟨.no,rfl⟩
 ·exact⟨.is,rfl⟩
 ·exact⟨.there,rfl⟩
 ·exact⟨.lacks,rfl⟩
 ·exact⟨.is,rfl⟩
theorem kd_there (k:Kd):(kdW k==("there" : Str))=(k==.there):=by cases k <;> decide +kernel
theorem kd_lacks (k:Kd):(kdW k==("lacks" : Str))=(k==.lacks):=by cases k <;> decide +kernel
theorem asking_w (k:Nat)(M:MH){jf jn jt:Nat}{ns vs:List Str}(w:Env M jf jn jt ns vs){Q:D->MH->Prop}(q:∀ (a:Ask) (M':MH),AskOk a->Gx jf M M'->Fd M' jf->Q (askD a) M'):W ((cx srt (k + 2)).fn "_law_asking" [.ob jf,.ob jn,.ob jt]) M Q:=by
 have big:=line_big;have ln:=w.ln;have lt:=w.lt;rw[f__law_asking,wf,b__law_asking];walk_at "wq";refine draw_w k M w.F _ (by walk_at "o") fun c M1 a1 b1 g1 F1=>?_;have w1:=w.go g1 F1;obtain⟨x0,x1⟩:=md c (m:=4) (by decide);obtain⟨nm,hnm,_,en⟩:=strAt (xs:=ns) (i:=c % 4) x0 (by walk_at "o");obtain⟨y0,y1⟩:=md (c / 4) (m:=6) (by decide);obtain⟨wd,ew,hw⟩:=atD_in (xs:=[D.str "is",.str "no",.str "is",.str "there",.str "lacks",.str "is"]) y0 (by exact y1);obtain⟨kd,rfl⟩:=kd_of hw;walk_at "wq";refine⟨by walk_at "o",_,w1.n,?_⟩;walk_at "wq";refine⟨_,en,?_⟩;walk_at "wq";refine⟨by walk_at "o",by walk_at "o",by walk_at "o",_,get_new _ _,?_⟩;walk_at "wq";refine⟨_,ew,?_⟩;generalize hM2:M1++[MO.lst [D.str "is",.str "no",.str "is",.str "there",.str "lacks",.str "is"]]=M2;have g2:Gr M1 M2:=hM2 ▸ Gr.app _ _;clear hM2;have w2:=w1.keep g2;have g2':=g1.trans (.of g2);walk_at "wq";rw[kd_there,kd_lacks];have done:isKd kd=false->Q (.tup [.str (kdW kd),.str nm,.tup []]) M2:=fun h=>q ⟨kd,nm,[]⟩ M2 ⟨w.no _ hnm,by simp,by simp,.nil,fun z=>(by rw[h]at z;cases z),fun _=>rfl⟩ g2' w2.F;refine⟨fun h=>⟨by walk_at "o",by walk_at "o",done (by rw[eq_of_beq h];rfl)⟩,fun h3=>⟨fun h=>⟨by walk_at "o",by walk_at "o",done (by rw[eq_of_beq h];rfl)⟩,fun h4=>?_⟩⟩;have hk:isKd kd=true:=by cases kd <;> first | rfl | exact absurd h3 (by decide) | exact absurd h4 (by decide)
 obtain⟨p0,p1⟩:=md (c / 24) (m:=3) (by decide);obtain⟨r0,r1⟩:=md (c / 24 % 3 + 1 + c / 72 % 2) (m:=3) (by decide);obtain⟨s0,s1⟩:=md (c / 24 % 3 + 2 - c / 72 % 2) (m:=3) (by decide);obtain⟨t0,t1⟩:=md (c / 144) (m:=3) (by decide);obtain⟨z0,z1⟩:=md (c / 72) (m:=2) (by decide);obtain⟨u1,v1,f1,e1⟩:=strAt (xs:=vs) p0 (by walk_at "o");obtain⟨u2,v2,f2,e2⟩:=strAt (xs:=vs) r0 (by walk_at "o");obtain⟨u3,v3,f3,e3⟩:=strAt (xs:=vs) s0 (by walk_at "o");have n12:u1≠u2:=fun e=>by
  subst e
  have:=at_inj w.nd p0 r0 f1 f2
  omega
 have n13:u1≠u3:=fun e=>by
  subst e
  have:=at_inj w.nd p0 s0 f1 f3
  omega
 have n23:u2≠u3:=fun e=>by
  subst e
  have:=at_inj w.nd r0 s0 f2 f3
  omega
 refine⟨⟨by walk_at "o",by walk_at "o"⟩,by walk_at "o",_,w2.t,?_⟩;walk_at "wq";refine⟨_,e1,⟨by walk_at "o",by walk_at "o"⟩,by walk_at "o",by walk_at "o",_,w2.t,?_⟩;walk_at "wq";refine⟨_,e2,⟨by walk_at "o",by walk_at "o"⟩,by walk_at "o",by walk_at "o",_,w2.t,?_⟩;walk_at "wq";refine⟨_,e3,by walk_at "o",⟨by walk_at "o",by walk_at "o"⟩,by walk_at "o",_,get_new _ _,_,get_new _ _,by walk_at "o",?_⟩;rw[cut_hi _ (by walk_at "o")];have hz:1<=(1 + c / 144 % 3).toNat:=by omega
 generalize (1 + c / 144 % 3).toNat=z at hz;have e:[D.str u1,.str u2,.str u3].take z=([u1,u2,u3].take z).map .str:=by rw[List.map_take];rfl
 rw[e];have nd3:[u1,u2,u3].Nodup:=by simp[n12,n13,n23]
 refine q ⟨kd,nm,[u1,u2,u3].take z⟩ _ ⟨w.no _ hnm,fun v hv=>?_,?_,nd3.sublist (List.take_sublist _ _),fun _=>?_,fun z=>(by rw[hk]at z;cases z)⟩ (g2'.trans (.of ((Gr.app _ _).snoc _))) (w2.F.keep ((Gr.app _ _).snoc _))
 ·have:=List.mem_of_mem_take hv
  simp only[List.mem_cons,List.not_mem_nil,or_false]at this;rcases this with rfl | rfl | rfl
  ·exact w.vo _ v1
  ·exact w.vo _ v2
  ·exact w.vo _ v3
 ·show ([u1,u2,u3].take z).length<=3
  rw[List.length_take];exact Nat.min_le_right _ _
 ·show [u1,u2,u3].take z≠[]
  obtain⟨z,rfl⟩:∃ y,z=y + 1:=⟨z - 1,by omega⟩;exact List.cons_ne_nil _ _
end
end Law
namespace Law
open PySem L3
section
variable {srt:List D->Option (List D)}
theorem askWord_g (k:Nat)(M:MH)(a:Ask)(h:AskOk a){Q:D->MH->Prop}(q:∀ M' w,w.length<=60->Gr M M'->Q (.str w) M'):W ((cx srt (k + 1)).fn "_law_asking_word" [askD a]) M Q:=by
 have big:=line_big;have ln:=h.n.2.1;have lb:=bar_len h.v h.l;have hl:=h.l;have sl:=sum_len (B:=12) fun w hw=>(h.v w hw).2.1;have l2:Str.length "|" = 1:=rfl;rw[f__law_asking_word,wf,b__law_asking_word];unfold askD;walk_at "wq";rw[kd_there];have lp:(Str.ofString "+").length=1:=rfl;have lm:(Str.ofString "-").length=1:=rfl;have le:(Str.ofString "=").length=1:=rfl;have lx:(Str.ofString "!").length=1:=rfl;refine⟨fun _=>⟨by omega,q M _ (by rw[len_app];omega) Gr.refl⟩,fun _=>?_⟩;rw[kd_lacks];refine⟨fun _=>⟨by omega,q M _ (by rw[len_app];omega) Gr.refl⟩,fun _=>?_⟩;refine⟨by omega,_,get_new _ _,?_⟩;have lb':(Str.join "|" a.vs).length<=39:=lb;cases hb:(kdW a.k==Str.ofString "is") with
 | true =>
  rw[if_pos rfl];walk_at "wq";refine⟨by omega,_,mapM_strs _,by rw[l2];omega,?_⟩;rw[joinS_eq];walk_at "wq";exact⟨by rw[len_app];omega,q _ _ (by rw[len_app,len_app];omega) (Gr.app _ _)⟩
 | false =>
  rw[if_neg (fun z=>by cases z)];walk_at "wq";refine⟨by omega,_,mapM_strs _,by rw[l2];omega,?_⟩;rw[joinS_eq];walk_at "wq";exact⟨by rw[len_app];omega,q _ _ (by rw[len_app,len_app];omega) (Gr.app _ _)⟩
noncomputable def Short (us:List Str):Prop:=∀ u∈us,u.length<=60
theorem Short.join {us:List Str}(h:Short us)(hl:us.length<=25):(us.map (·.length)).sum + us.length * Str.length " "<=16777216/\(Str.join " " us).length<=1525:=by
 have h1:=sum_len h;have h2:=join_len (sep:=" ") h;have l1:Str.length " " = 1:=rfl;rw[l1]at h2 ⊢;omega
theorem Short.cut {us:List Str}(h:Short us)(lo hi:Option Int):∃ vs,cutD (us.map D.str) lo hi=vs.map D.str/\Short vs/\vs.length<=us.length:=by
 refine⟨cutD us lo hi,?_,fun u hu=>?_,cut_len _ _ _⟩
 ·unfold cutD
  rw[List.length_map,<- List.map_drop,<- List.map_take]
 ·unfold cutD at hu
  exact h u (List.mem_of_mem_drop (List.mem_of_mem_take hu))
theorem Short.app {us vs:List Str}(h:Short us)(g:Short vs):Short (us++vs):=fun u hu=>(List.mem_append.mp hu).elim (h u) (g u)
theorem spoiltT_g (k:Nat)(M:MH){jf jw jo:Nat}{x2:Option D}(F:Fd M jf)(hj:jw≠jf)(hjo:jo≠jf)(ws os:List Str)(hw:M[jw]?=some (.lst (ws.map .str)))(ho:M[jo]?=some (.lst (os.map .str)))(hs:Short ws)(hso:Short os)(hl:ws.length<=10)(hlo:os.length=30){Q:D->MH->Prop}(q:∀ (t:Str) M',t.length<=2000->Gx jf M M'->Fd M' jf->Q (.str t) M') :
  W (semSs (cx srt (k + 1)) (dropS 3 b__law_spoilt) [some (.ob jf),some (.ob jw),x2,some (.ob jo),none,none,none,none,none]) M (endF Q):=by
 have big:=line_big;rw[b__law_spoilt];dsimp only[dropS];walk_at "wq";refine⟨_,ho,?_⟩;have lo:lenO (MO.lst (os.map D.str))=30:=by show ((os.map D.str).length:Int)=_;rw[List.length_map,hlo];rfl
 rw[lo];refine draw_w (srt:=srt) k M F _ (by decide) fun r1 M1 a1 b1 g1 F1=>?_;obtain⟨wd,hwd,_,ew⟩:=strAt (xs:=os) a1 (by rw[hlo];exact b1);have lwd:=hso wd hwd;walk_at "wq";refine⟨_,g1.keep _ _ hjo ho,?_⟩;walk_at "wq";refine⟨_,ew,?_⟩;have hw1:=g1.keep _ _ hj hw;walk_at "wq";refine⟨_,hw1,?_⟩;rw[show lenO (MO.lst (ws.map D.str))=(ws.length:Int) from by show ((ws.map D.str).length:Int)=_;rw[List.length_map]];refine draw_w (srt:=srt) k M1 F1 _ (by omega) fun r2 M2 a2 b2 g2 F2=>?_;have g2':=g1.trans g2;walk_at "wq";refine draw_w (srt:=srt) k M2 F2 _ (by decide) fun r3 M3 a3 b3 g3 F3=>?_;have g3':=g2'.trans g3;have hw3:=g3'.keep _ _ hj hw;walk_at "wq";refine⟨fun _=>?_,fun _=>⟨fun _=>?_,fun _=>⟨fun _=>?_,fun _=>?_⟩⟩⟩
 ·obtain⟨v1,e1,s1,n1⟩:=hs.cut none (some r2)
  obtain⟨v2,e2,s2,n2⟩:=hs.cut (some r2) none;have sh:Short (v1++[wd]++v2):=(s1.app fun u hu=>(by rw[List.mem_singleton.mp hu];exact lwd)).app s2;have ln:(v1++[wd]++v2).length<=25:=by simp only[List.length_append,List.length_cons,List.length_nil];omega
  obtain⟨j1,j2⟩:=sh.join ln;refine⟨_,hw3,by omega,?_⟩;rw[e1];refine⟨_,(Gr.app _ _).keep _ _ (get_new _ _),_,get_new _ _,by simp;omega,_,(((Gr.app M3 _).snoc _).snoc _).keep _ _ hw3,?_⟩;rw[e2];refine⟨_,(Gr.app _ _).keep _ _ (get_new _ _),_,get_new _ _,by simp;omega,_,get_new _ _,v1++[wd]++v2,?_,j1,?_⟩
  ·rw[show v1.map D.str++[D.str wd]++v2.map D.str=(v1++[wd]++v2).map D.str by simp]
   exact mapM_strs _
  ·rw[joinS_eq]
   have gz:=(((((Gr.app M3 [MO.lst (v1.map D.str)]).snoc (MO.lst [D.str wd])).snoc (MO.lst (v1.map D.str++[D.str wd]))).snoc (MO.lst (v2.map D.str))).snoc (MO.lst (v1.map D.str++[D.str wd]++v2.map D.str)));exact q _ _ (Nat.le_trans j2 (by decide)) (g3'.trans (.of gz)) (F3.keep gz)
 ·obtain⟨v1,e1,s1,n1⟩:=hs.cut none (some r2)
  obtain⟨v2,e2,s2,n2⟩:=hs.cut (some (r2 + 1)) none;have sh:Short (v1++[wd]++v2):=(s1.app fun u hu=>(by rw[List.mem_singleton.mp hu];exact lwd)).app s2;have ln:(v1++[wd]++v2).length<=25:=by simp only[List.length_append,List.length_cons,List.length_nil];omega
  obtain⟨j1,j2⟩:=sh.join ln;refine⟨_,hw3,by omega,?_⟩;rw[e1];refine⟨_,(Gr.app _ _).keep _ _ (get_new _ _),_,get_new _ _,by simp;omega,_,(((Gr.app M3 _).snoc _).snoc _).keep _ _ hw3,?_⟩;rw[e2];refine⟨_,(Gr.app _ _).keep _ _ (get_new _ _),_,get_new _ _,by simp;omega,_,get_new _ _,v1++[wd]++v2,?_,j1,?_⟩
  ·rw[show v1.map D.str++[D.str wd]++v2.map D.str=(v1++[wd]++v2).map D.str by simp]
   exact mapM_strs _
  ·rw[joinS_eq]
   have gz:=(((((Gr.app M3 [MO.lst (v1.map D.str)]).snoc (MO.lst [D.str wd])).snoc (MO.lst (v1.map D.str++[D.str wd]))).snoc (MO.lst (v2.map D.str))).snoc (MO.lst (v1.map D.str++[D.str wd]++v2.map D.str)));exact q _ _ (Nat.le_trans j2 (by decide)) (g3'.trans (.of gz)) (F3.keep gz)
 ·obtain⟨v1,e1,s1,n1⟩:=hs.cut none (some (r2 + 1))
  obtain⟨v2,e2,s2,n2⟩:=hs.cut (some r2) none;have sh:Short (v1++v2):=s1.app s2;have ln:(v1++v2).length<=25:=by simp only[List.length_append];omega
  obtain⟨j1,j2⟩:=sh.join ln;refine⟨_,hw3,?_⟩;rw[e1];refine⟨_,(Gr.app M3 _).keep _ _ hw3,?_⟩;rw[e2];refine⟨_,(Gr.app _ _).keep _ _ (get_new _ _),_,get_new _ _,by simp;omega,_,get_new _ _,v1++v2,?_,j1,?_⟩
  ·rw[show v1.map D.str++v2.map D.str=(v1++v2).map D.str by simp]
   exact mapM_strs _
  ·rw[joinS_eq]
   have gz:=(((Gr.app M3 [MO.lst (v1.map D.str)]).snoc (MO.lst (v2.map D.str))).snoc (MO.lst (v1.map D.str++v2.map D.str)));exact q _ _ (Nat.le_trans j2 (by decide)) (g3'.trans (.of gz)) (F3.keep gz)
 ·obtain⟨j1,j2⟩:=hs.join (by omega)
  refine⟨_,hw3,ws,mapM_strs _,j1,?_⟩;rw[joinS_eq];have j3:(Str.join (Str.ofString " ") ws).length<=610:=by
   have h2:=join_len (sep:=Str.ofString " ") hs;have l1:(Str.ofString " ").length=1:=rfl;rw[l1]at h2;omega
  generalize Str.join (Str.ofString " ") ws=x at j3;refine⟨by omega,?_⟩;refine draw_w (srt:=srt) k M3 F3 _ (by omega) fun r4 M4 a4 b4 g4 F4=>?_;have g4':=g3'.trans g4;walk_at "wq";refine draw_w (srt:=srt) k M4 F4 _ (by decide) fun r5 M5 a5 b5 g5 F5=>?_;have g5':=g4'.trans g5;obtain⟨c,ec,_⟩:=atD_in (xs:=(Str.ofString " =!|+-aZ09").cps.toList) a5 (by exact b5);have c1:=len_cut x none (some r4);have c2:=len_cut x (some (r4 + 1)) none;have c3:=len_cut x (some r4) none;have l1:Str.length ⟨#[c]⟩=1:=rfl;walk_at "wq";refine⟨by decide +kernel,c,ec,?_⟩;unfold sgn;walk_at "wq";refine⟨fun _=>⟨by omega,by omega,by omega,q _ _ (by rw[len_app];omega) g5' F5⟩,fun _=>⟨fun _=>⟨by omega,by omega,by omega,by rw[len_app];omega,q _ _ (by rw[len_app,len_app];omega) g5' F5⟩,fun _=>⟨fun _=>⟨by omega,by omega,by omega,by rw[len_app];omega,q _ _ (by rw[len_app,len_app];omega) g5' F5⟩,fun _=>q _ _ (by omega) g5' F5⟩⟩⟩
theorem spoilt_g (k:Nat)(M:MH){jf jw:Nat}(F:Fd M jf)(hj:jw≠jf)(ws:List Str)(good:Str)(hw:M[jw]?=some (.lst (ws.map .str)))(hs:Short ws)(hl:ws.length<=10)(hg:good.length<=60){Q:D->MH->Prop}(q:∀ (t:Str) M',t.length<=2000->Gx jf M M'->Fd M' jf->Q (.str t) M') :
  W ((cx srt (k + 2)).fn "_law_spoilt" [.ob jf,.ob jw,.str good]) M Q:=by
 have big:=line_big;have hf:jf < M.length:=by
  obtain⟨sc,i,_,e⟩:=F;exact(List.getElem?_eq_some_iff.mp e).1
 have tl:=fun M' jo os (g:Gr M M') h1 h2 h3 h4=>spoiltT_g (srt:=srt) k M' (jf:=jf) (jw:=jw) (jo:=jo) (x2:=some (.str good)) (F.keep g) hj h1 ws os (g.keep _ _ hw) h2 hs h3 hl h4 (Q:=Q) (fun t M2 ht gx F2=>q t M2 ht ((Gx.of g).trans gx) F2);rw[b__law_spoilt]at tl;dsimp only[dropS]at tl;rw[f__law_spoilt,wf,b__law_spoilt];walk_at "wq";refine⟨by omega,by omega,_,(Gr.app _ _).keep _ _ (get_new _ _),_,get_new _ _,by simp;omega,?_⟩;refine⟨by omega,_,(Gr.app _ _).keep _ _ (get_new _ _),_,get_new _ _,by simp;omega,?_⟩;generalize hA:[D.str (Str.ofString "-"),D.str (Str.ofString ""),D.str (Str.ofString "a"),D.str (Str.ofString "a="),D.str (Str.ofString "a!"),D.str (Str.ofString "=b"),D.str (Str.ofString "!b"),D.str (Str.ofString "+"),D.str (Str.ofString "A=b"),D.str (Str.ofString "a=B"),D.str (Str.ofString "a==b"),D.str (Str.ofString "a=b=c"),D.str (Str.ofString "a!b=c"),D.str (Str.ofString "a=b!c"),D.str (Str.ofString "a=b|c"),D.str (Str.ofString "a=b|b")]=A;generalize hB:[D.str (Str.ofString "a!b|"),D.str (Str.ofString "a=|b"),D.str (Str.ofString "a=b|c|d|e"),D.str (Str.ofString "a++"),D.str (Str.ofString "a+b"),D.str (Str.ofString "a1+"),D.str (Str.ofString "a1=b"),D.str (Str.ofString "abcdefghi-"),D.str (Str.ofString "abcdefghi=a"),D.str (Str.ofString "a-b")]=B;generalize hC:[D.str (Str.ofString "a=abcdefghijklm"),D.str good,D.str good,D.str good]=C;have ho:A++B++C=((["-","","a","a=","a!","=b","!b","+","A=b","a=B","a==b","a=b=c","a!b=c","a=b!c","a=b|c","a=b|b","a!b|","a=|b","a=b|c|d|e","a++","a+b","a1+","a1=b","abcdefghi-","abcdefghi=a","a-b","a=abcdefghijklm"]:List Str)++[good,good,good]).map D.str:=by
  rw[<- hA,<- hB,<- hC];rfl
 have ht:=tl (M++[MO.lst A]++[MO.lst B]++[MO.lst (A++B)]++[MO.lst C]++[MO.lst (A++B++C)]) (M++[MO.lst A]++[MO.lst B]++[MO.lst (A++B)]++[MO.lst C]).length _ (((((Gr.app M _).snoc _).snoc _).snoc _).snoc _) ?_ (by rw[get_new,ho]) ?_ rfl
 ·revert ht
  walk_at "wq";exact id
 ·simp only[List.length_append]
  omega
 ·refine Short.app ?_ ?_
  ·unfold Short
   decide +kernel
  ·intro u hu
   simp only[List.mem_cons,List.not_mem_nil,or_false,or_self]at hu;rw[hu];exact hg
end
end Law
namespace Law
open PySem L3
section
variable {srt:List D->Option (List D)}{ns vs:List Str}
noncomputable def lbody:ISs:=match dropS 3 b_law with
 | .cons (.forS _ _ b) _=>b
 | _=>.nil
theorem Gx.keepLo {j:Nat}{A M M':MH}(g:Gx j A M)(g2:Gr M M'):Gx j A M':=g.trans (.of g2)
theorem tail_w (hs:Sorts srt){M:MH}{jw:Nat}{t:Str}{way:Int}{ws:List Str}{x0 x1 x2 x3 x4 x6:Option D}(hway:way=0\/way=1)(ht:t.length<=2000)(hw:M[jw]?=some (.lst (ws.map .str)))(sh:Short ws)(hl:ws.length<=10)
  {P:Fl->MH->Prop} (q:∀ M',Gr M M'->P (.nx [x0,x1,x2,x3,x4,some (.int way),x6,some (.ob jw),some (.str t)]) M') :
  W (semSs (cx srt 39) (dropS 2 lbody) [x0,x1,x2,x3,x4,some (.int way),x6,some (.ob jw),some (.str t)]) M P:=by
 have big:=line_big;simp only[lbody,b_law,drop_s,drop_0,dropS];walk_at "wq";refine right_g (srt:=srt) hs 30 M t way hway ht fun M1 g1=>?_;walk_at "wq";obtain⟨j1,j2⟩:=sh.join (by omega);refine⟨_,g1.keep _ _ hw,_,mapM_strs _,j1,?_⟩;rw[joinS_eq];refine right_g (srt:=srt) hs 30 M1 _ way hway (Nat.le_trans j2 (by decide)) fun M2 g2=>?_;walk_at "wq";exact q M2 (g1.trans g2)
noncomputable def sp8:ISs:=.cons (.set 8 (.call ("_law_spoilt" : Str) (.cons (.var 1) (.cons (.var 7) (.cons (.bin .Add (.bin .Add (.idx (.var 2) (.call ("_law_draw" : Str) (.cons (.var 1) (.cons (.cint 9) .nil)))) (.cstr ("=" : Str))) (.idx (.var 3) (.cint 0))) .nil))))) .nil
theorem sp_w {M:MH}{jn jt jw:Nat}{ws:List Str}{x0 x4 x5 x6 x8:Option D}(w:Env M 0 jn jt ns vs)(hw:M[jw]?=some (.lst (ws.map .str)))(hj:jw≠0)(sh:Short ws)(hl:ws.length<=10)
  {P:Fl->MH->Prop} (q:∀ (t:Str) M',t.length<=2000->Gx 0 M M'->Fd M' 0->P (.nx [x0,some (.ob 0),some (.ob jn),some (.ob jt),x4,x5,x6,some (.ob jw),some (.str t)]) M') :
  W (semSs (cx srt 39) sp8 [x0,some (.ob 0),some (.ob jn),some (.ob jt),x4,x5,x6,some (.ob jw),x8]) M P:=by
 have big:=line_big;have ln:=w.ln;have lt:=w.lt;rw[sp8];walk_at "wq";refine draw_w (srt:=srt) 38 M w.F _ (by walk_at "o") fun r M1 r0 r1 g1 F1=>?_;have w1:=w.go g1 F1;obtain⟨nm,hnm,_,en⟩:=strAt (xs:=ns) r0 (by rw[ln];exact r1);obtain⟨v0,hv0,_,ev⟩:=strAt (xs:=vs) (i:=0) (by decide) (by rw[lt];decide);have l1:=(w.no nm hnm).2.1;have l2:=(w.vo v0 hv0).2.1;have le:(Str.ofString "=").length=1:=rfl;walk_at "wq";refine⟨_,w1.n,?_⟩;walk_at "wq";refine⟨_,en,?_⟩;walk_at "wq";refine⟨by omega,_,w1.t,?_⟩;walk_at "wq";refine⟨_,ev,?_⟩;walk_at "wq";refine⟨by rw[len_app];omega,?_⟩;refine spoilt_g (srt:=srt) 37 M1 F1 hj ws _ (g1.keep _ _ hj hw) sh hl (by rw[len_app,len_app];omega) fun t M2 ht g2 F2=>?_;walk_at "wq";exact q t M2 ht (g1.trans g2) F2
theorem body_w (hs:Sorts srt){M A:MH}{jn jt:Nat}{x0 x4 x5 x6 x7 x8:Option D}(w:Env M 0 jn jt ns vs)(gA:Gx 0 M A)(FA:Fd A 0)
  {P:Fl->MH->Prop} (q:∀ y5 y6 y7 y8 M',Gx 0 M M'->Fd M' 0->P (.nx [x0,some (.ob 0),some (.ob jn),some (.ob jt),x4,y5,y6,y7,y8]) M') :
  W (semSs (cx srt 39) lbody [x0,some (.ob 0),some (.ob jn),some (.ob jt),x4,x5,x6,x7,x8]) A P:=by
 have big:=line_big;have tw:=fun {t:Str} {way:Int} {ws:List Str} {jw:Nat} {M:MH} {x0 x1 x2 x3 x4 x6:Option D} {P:Fl->MH->Prop}=>tail_w (srt:=srt) hs (t:=t) (way:=way) (ws:=ws) (jw:=jw) (M:=M) (x0:=x0) (x1:=x1) (x2:=x2) (x3:=x3) (x4:=x4) (x6:=x6) (P:=P);rw[cut_S 2 lbody];generalize dropS 2 lbody=tl at tw ⊢;simp only[lbody,b_law,drop_s,drop_0,cut_s,cut_0];have wA:=w.go gA FA;have ln:=w.ln;have lt:=w.lt;walk_at "wq";refine draw_w (srt:=srt) 38 A FA _ (by walk_at "o") fun r M1 r0 r1 g1 F1=>?_;have w1:=wA.go g1 F1;have g1':=gA.trans g1;walk_at "wq";refine⟨fun e0=>?_,fun e0=>?_⟩
 ·have hway:r=0:=eq_of_beq e0
  refine draw_w (srt:=srt) 38 M1 F1 _ (by walk_at "o") fun r2 M2 a2 b2 g2 F2=>?_;have w2:=w1.go g2 F2;have g2':=g1'.trans g2;walk_at "wq";refine⟨_,w2.n,_,get_new _ _,?_⟩;obtain⟨us,eu,hu,lu⟩:∃ us:List Str,cutD (ns.map D.str) none (some r2)=us.map D.str/\(∀ u∈us,WordOk abc 8 u)/\us.length<=9:=by
   refine⟨cutD ns none (some r2),?_,fun u hu=>?_,Nat.le_trans (cut_len _ _ _) (by omega)⟩
   ·unfold cutD
    rw[List.length_map,<- List.map_drop,<- List.map_take]
   ·unfold cutD at hu
    exact w.no u (List.mem_of_mem_drop (List.mem_of_mem_take hu))
  rw[eu];have h3:(M2++[MO.lst (us.map D.str)])[M2.length]?=some (.lst (us.map D.str)):=get_new _ _;have g3:Gr M2 (M2++[MO.lst (us.map D.str)]):=Gr.app _ _;have L2:0 < M2.length:=by
   obtain⟨_,_,_,e⟩:=F2;exact(List.getElem?_eq_some_iff.mp e).1
  generalize M2++[MO.lst (us.map D.str)]=M3 at h3 g3 ⊢;generalize M2.length=j6 at h3 L2 ⊢;have w3:=w2.keep g3;have g3':=g2'.keepLo g3;refine⟨by rw[List.length_map];omega,?_⟩;refine w_compI (fun m ys M'=>Gx 0 M M'/\Fd M' 0/\M'[j6]?=some (.lst (us.map D.str))/\∃ ws:List Str,ys=ws.map D.str/\Short ws/\ws.length=m) ⟨g3',w3.F,h3,[],rfl,fun u hu=>(by cases hu),rfl⟩ (fun _ _ _ h=>h.2.2.1) ?_ ?_
  ·rintro m d ys M' hd ⟨gM,FM,hM,ws,rfl,sh,hm⟩
   rw[List.getElem?_map]at hd;obtain⟨u,huu,rfl⟩:=Option.map_eq_some_iff.mp hd;have l1:=(hu u (List.mem_of_getElem? huu)).2.1;have le:(Str.ofString "=").length=1:=rfl;walk_at "wq";refine⟨by omega,?_⟩;refine draw_w (srt:=srt) 38 M' FM _ (by walk_at "o") fun r4 M4 a4 b4 g4 F4=>?_;have w4:=w.go (gM.trans g4) F4;obtain⟨v0,hv0,_,ev⟩:=strAt (xs:=vs) a4 (by rw[lt];exact b4);have l2:=(w.vo v0 hv0).2.1;walk_at "wq";refine⟨_,w4.t,?_⟩;walk_at "wq";refine⟨_,ev,?_⟩;walk_at "wq";refine⟨by rw[len_app];omega,gM.trans g4,F4,g4.keep _ _ (by omega) hM,ws++[u++Str.ofString "="++v0],by simp,sh.app fun x hx=>?_,by rw[List.length_append,hm];rfl⟩;rw[List.mem_singleton.mp hx,len_app,len_app];omega
  ·rintro ys M' ⟨gM,FM,hM,ws,rfl,sh,hm⟩
   rw[List.length_map]at hm;have L':0 < M'.length:=by
    obtain⟨_,_,_,e⟩:=FM;exact(List.getElem?_eq_some_iff.mp e).1
   have hN:(M'++[MO.lst (ws.map D.str)])[M'.length]?=some (.lst (ws.map D.str)):=get_new _ _;have gN:=gM.keepLo (Gr.app M' [MO.lst (ws.map D.str)]);have FN:=FM.keep (Gr.app M' [MO.lst (ws.map D.str)]);generalize M'++[MO.lst (ws.map D.str)]=M5 at hN gN FN ⊢;generalize M'.length=j7 at hN L' ⊢;refine sp_w (srt:=srt) (w.go gN FN) hN (by omega) sh (by omega) fun t M6 ht g6 F6=>?_;refine tw (.inl hway) ht (g6.keep _ _ (by omega) hN) sh (by omega) fun M7 g7=>?_;exact q _ _ _ _ _ ((gN.trans g6).keepLo g7) (F6.keep g7)
 ·have hway:r=1:=by
   have:=beq_eq_false_iff_ne.mp e0
   omega
  refine draw_w (srt:=srt) 38 M1 F1 _ (by walk_at "o") fun r2 M2 a2 b2 g2 F2=>?_;have w2:=w1.go g2 F2;have g2':=g1'.trans g2;refine⟨_,rfl,⟨by walk_at "o",by walk_at "o"⟩,by rw[rng_len];omega,?_⟩;refine w_compI (fun m ys M'=>Gx 0 M M'/\Fd M' 0/\∃ as:List Ask,ys=as.map askD/\(∀ a∈as,AskOk a)/\as.length=m) ⟨g2',F2,[],rfl,fun u hu=>(by cases hu),rfl⟩ (fun _ _ _ _=>trivial) ?_ ?_
  ·rintro m d ys M' hd ⟨gM,FM,as,rfl,ha,hm⟩
   walk_at "wq";refine asking_w (srt:=srt) 37 M' (w.go gM FM) fun a M3 hok g3 F3=>?_;refine⟨gM.trans g3,F3,as++[a],by simp,fun x hx=>?_,by rw[List.length_append,hm];rfl⟩;rcases List.mem_append.mp hx with hx | hx
   ·exact ha x hx
   ·rw[List.mem_singleton.mp hx]
    exact hok
  ·rintro ys M' ⟨gM,FM,as,rfl,ha,hm⟩
   rw[rng_len]at hm;have L2:0 < M'.length:=by
    obtain⟨_,_,_,e⟩:=FM;exact(List.getElem?_eq_some_iff.mp e).1
   have h3:(M'++[MO.lst (as.map askD)])[M'.length]?=some (.lst (as.map askD)):=get_new _ _;have g3':=gM.keepLo (Gr.app M' [MO.lst (as.map askD)]);have F3:=FM.keep (Gr.app M' [MO.lst (as.map askD)]);generalize M'++[MO.lst (as.map askD)]=M3 at h3 g3' F3 ⊢;generalize M'.length=j6 at h3 L2 ⊢;walk_at "wq";refine⟨_,h3,by rw[List.length_map];omega,?_⟩;refine w_compI (fun m ys M'=>Gr M3 M'/\∃ ws:List Str,ys=ws.map D.str/\Short ws/\ws.length=m) ⟨Gr.refl,[],rfl,fun u hu=>(by cases hu),rfl⟩ (fun _ _ _ h=>h.1.keep _ _ h3) ?_ ?_
   ·rintro m d ys M4 hd ⟨gM4,ws,rfl,sh,hm⟩
    rw[List.getElem?_map]at hd;obtain⟨a,haa,rfl⟩:=Option.map_eq_some_iff.mp hd;walk_at "wq";refine askWord_g (srt:=srt) 38 M4 a (ha a (List.mem_of_getElem? haa)) fun M5 u hu g5=>?_;refine⟨gM4.trans g5,ws++[u],by simp,sh.app fun x hx=>?_,by rw[List.length_append,hm];rfl⟩;rw[List.mem_singleton.mp hx];exact hu
   ·rintro ys M4 ⟨gM4,ws,rfl,sh,hm4⟩
    rw[List.length_map]at hm4;have hN:(M4++[MO.lst (ws.map D.str)])[M4.length]?=some (.lst (ws.map D.str)):=get_new _ _;have gN:=(g3'.keepLo gM4).keepLo (Gr.app M4 [MO.lst (ws.map D.str)]);have FN:=(F3.keep gM4).keep (Gr.app M4 [MO.lst (ws.map D.str)]);have L':0 < M4.length:=by
     obtain⟨_,_,_,e⟩:=F3.keep gM4;exact(List.getElem?_eq_some_iff.mp e).1
    generalize M4++[MO.lst (ws.map D.str)]=M5 at hN gN FN ⊢;generalize M4.length=j7 at hN L' ⊢;refine sp_w (srt:=srt) (w.go gN FN) hN (by omega) sh (by omega) fun t M6 ht g6 F6=>?_;refine tw (.inr hway) ht (g6.keep _ _ (by omega) hN) sh (by omega) fun M7 g7=>?_;exact q _ _ _ _ _ ((gN.trans g6).keepLo g7) (F6.keep g7)
theorem none_mark:∀ p,¬ IsMark "" p:=fun p hp=>by
 have h1:=mark_has hp;cases h1
theorem none_ask:∀ a,¬ IsAsk "" a:=fun a ha=>by
 have h1:=congrArg (fun s:Str=>s.length) ha.2;unfold askT at h1;simp only[len_app]at h1;have h2:=ha.1.n.1;have h3:(Str.ofString "").length=0:=rfl;omega
theorem law_w (hs:Sorts srt)(sc:List Int):W ((cx srt 40).fn "law" [.fl (sc.map .int)]) [] fun d _=>d=.bl true:=by
 have big:=line_big;have bw:=fun {ns vs M A jn jt x4 x5 x6 x7 x8 P}=>body_w (ns:=ns) (vs:=vs) (srt:=srt) (x0:=some (.fl (sc.map .int))) hs (M:=M) (A:=A) (jn:=jn) (jt:=jt) (x4:=x4) (x5:=x5) (x6:=x6) (x7:=x7) (x8:=x8) (P:=P);rw[f_law,wf,b_law];walk_at "wq";refine⟨by walk_at "o",?_⟩;have F0:Fd [MO.lst [.fl (sc.map .int),.int 0]] 0:=⟨sc,0,by decide,rfl⟩;have L0:0 < ([MO.lst [.fl (sc.map .int),.int 0]]:MH).length:=Nat.one_pos;generalize ([MO.lst [D.fl (sc.map .int),.int 0]]:MH)=M0 at F0 L0 ⊢;refine names_w (srt:=srt) 37 M0 F0 8 (by decide) fun ns jn M1 ln no g1 F1 hjn hn=>?_;have L1:=g1.len;walk_at "wq";refine⟨by walk_at "o",_,(Gr.app _ _).keep _ _ hn,_,get_new _ _,by simp;omega,?_⟩;have h2:(M1++[MO.lst [D.str (Str.ofString "zzzzzzzz")]]++[MO.lst (ns.map D.str++[D.str (Str.ofString "zzzzzzzz")])])[(M1++[MO.lst [D.str (Str.ofString "zzzzzzzz")]]).length]?=some (.lst ((ns++[Str.ofString "zzzzzzzz"]).map D.str)):=by rw[get_new];simp
 have g2:Gr M1 (M1++[MO.lst [D.str (Str.ofString "zzzzzzzz")]]++[MO.lst (ns.map D.str++[D.str (Str.ofString "zzzzzzzz")])]):=(Gr.app _ _).snoc _;have L2:0 < (M1++[MO.lst [D.str (Str.ofString "zzzzzzzz")]]).length:=by rw[List.length_append];simp
 generalize M1++[MO.lst [D.str (Str.ofString "zzzzzzzz")]]++[MO.lst (ns.map D.str++[D.str (Str.ofString "zzzzzzzz")])]=M2 at h2 g2 ⊢;generalize (M1++[MO.lst [D.str (Str.ofString "zzzzzzzz")]]).length=jm at h2 L2 ⊢;have no2:∀ u∈ns++[Str.ofString "zzzzzzzz"],WordOk abc 8 u:=fun u hu=>by
  rcases List.mem_append.mp hu with hu | hu
  ·exact no u hu
  ·rw[List.mem_singleton.mp hu]
   exact okB_iff.mp (by decide +kernel)
 have ln2:(ns++[Str.ofString "zzzzzzzz"]).length=9:=by rw[List.length_append,ln];rfl
 generalize ns++[Str.ofString "zzzzzzzz"]=ms at h2 no2 ln2;have F2:=F1.keep g2;walk_at "wq";refine values_w (srt:=srt) 37 M2 F2 6 (by decide) fun vs jt M3 lt hv nd g3 F3 hjt ht=>?_;have L3':0 < M2.length:=by
  obtain⟨_,_,_,e⟩:=F2;exact(List.getElem?_eq_some_iff.mp e).1
 have w3:Env M3 0 jm jt ms vs:=⟨F3,g3.keep _ _ (by omega) h2,ht,ln2,lt,by omega,by omega,no2,hv,nd⟩;walk_at "wq";refine draw_w (srt:=srt) 38 M3 w3.F _ (by walk_at "o") fun r2 M5 a2 b2 g5 F5=>?_;have w:=w3.go g5 F5;generalize M5=M at w ⊢;walk_at "wq";refine⟨⟨by walk_at "o",by walk_at "o"⟩,?_⟩;refine w_loop (fun m ρ M'=>Gx 0 M M'/\Fd M' 0/\∃ x4 x5 x6 x7 x8,ρ=[some (.fl (sc.map .int)),some (.ob 0),some (.ob jm),some (.ob jt),x4,x5,x6,x7,x8]) ⟨.refl,w.F,_,_,_,_,_,rfl⟩ (fun _ _ _ _=>trivial) ?_ ?_
 ·rintro m d ρ A hd ⟨gA,FA,x4,x5,x6,x7,x8,rfl⟩
  exact bw w gA FA fun y5 y6 y7 y8 M' g F=>⟨g,F,_,_,_,_,_,rfl⟩
 ·rintro ρ A ⟨gA,FA,x4,x5,x6,x7,x8,rfl⟩
  walk_at "wq";have s0:splitS "" (sg 32)=[Str.ofString ""]:=by decide +kernel
  obtain⟨⟨i,M1⟩,e1,e2,e3⟩:=readMarks_bad (srt:=srt) 34 A "" [] "" [] (by decide) (by decide) ⟨s0,fun p h=>(by cases h),List.nodup_nil,Nat.zero_le _⟩ (.inr (.inl none_mark));simp only at e2 e3;subst e2;obtain⟨⟨i,M2⟩,f1,f2,f3⟩:=readAskings_bad (srt:=srt) 31 M1 "" [] "" [] (by decide) (by decide) ⟨s0,fun p h=>(by cases h),Nat.zero_le _⟩ (.inr none_ask);simp only at f2 f3;subst f2;refine⟨M1,rf_ok (k:=38) (n:=0) e1 (by decide),?_⟩;exact⟨M2,rf_ok (k:=38) (n:=1) f1 (by decide)⟩
theorem law_d0 (hs:Sorts srt)(ns:List Int):∃ M',(cx srt 40).fn "law" [.fl (ns.map .int)] []=some (.ok (.bl true),M'):=by
 obtain⟨a,M',e,rfl⟩:=law_w hs ns;exact⟨M',e⟩
end
end Law
namespace Law
open PySem L3
theorem law_d (ns:List Int)(_:ns.length<=63):∃ M',(cx sortD 40).fn "law" [.fl (ns.map .int)] []=some (.ok (.bl true),M'):=law_d0 (fun _ h=>sort_pairs h) ns
end Law
namespace Law
open PySem PySem.Spec PySem.Calls PyProof.Rows L2 L3
noncomputable def glN:List Str:=["LETTERS","FIGURES","LONGEST_NAME","LONGEST_VALUE","NONE","MOST_MARKS","MOST_ASKINGS","MOST_VALUES"]
noncomputable def blN:List Str:=["ValueError","all","any","enumerate","int","isinstance","len","range","repr","set","sorted","tuple"]
noncomputable def e_made_of:Ent:=⟨"made_of",top 15,["word","signs"],["word","signs"],b_made_of⟩
noncomputable def e_is_name:Ent:=⟨"is_name",top 16,["word"],["word"],b_is_name⟩
noncomputable def e_is_value:Ent:=⟨"is_value",top 17,["word"],["word"],b_is_value⟩
noncomputable def e_has_name:Ent:=⟨"has_name",top 18,["marks","name"],["marks","name"],b_has_name⟩
noncomputable def e_read_mark:Ent:=⟨"read_mark",top 25,["word","parts"],["word"],b_read_mark⟩
noncomputable def e_read_marks:Ent:=⟨"read_marks",top 26,["text","pairs","at","word","pair"],["text"],b_read_marks⟩
noncomputable def e_are_values:Ent:=⟨"are_values",top 27,["values"],["values"],b_are_values⟩
noncomputable def e_read_asking:Ent:=⟨"read_asking",top 28,["word","kind","sign","parts"],["word"],b_read_asking⟩
noncomputable def e_asking_of:Ent:=⟨"asking_of",top 29,["kind","name","rest","values"],["kind","name","rest"],b_asking_of⟩
noncomputable def e_askings_ahead:Ent:=⟨"askings_ahead",top 30,["words","askings","word","asking"],["words"],b_askings_ahead⟩
noncomputable def e_read_askings:Ent:=⟨"read_askings",top 31,["text","words","askings"],["text"],b_read_askings⟩
noncomputable def e__law_draw:Ent:=⟨"_law_draw",top 33,["_law_feed","_law_many","_law_cell","_law_mixed"],["_law_feed","_law_many"],b__law_draw⟩
noncomputable def e__law_signs:Ent:=⟨"_law_signs",top 34,["_law_code","_law_size","_law_signs_here","_law_word","_law_k"],["_law_code","_law_size","_law_signs_here"],b__law_signs⟩
noncomputable def e__law_names:Ent:=⟨"_law_names",top 35,["_law_feed","_law_many","_law_letters","_law_base","_law_size","_law_at","_law_first"],["_law_feed","_law_many"],b__law_names⟩
noncomputable def e__law_values:Ent:=⟨"_law_values",top 36,["_law_feed","_law_many","_law_signs_here","_law_base","_law_size","_law_at","_law_first"],["_law_feed","_law_many"],b__law_values⟩
noncomputable def e__law_asking:Ent:=⟨"_law_asking",top 37,["_law_feed","_law_names_here","_law_told","_law_code","_law_name","_law_word","_law_first","_law_turned"],["_law_feed","_law_names_here","_law_told"],b__law_asking⟩
noncomputable def e__law_clean:Ent:=⟨"_law_clean",top 38,["_law_word","_law_most","_law_more","_law_sign"],["_law_word","_law_most","_law_more"],b__law_clean⟩
noncomputable def e__law_pair:Ent:=⟨"_law_pair",top 39,["_law_word","_law_parts"],["_law_word"],b__law_pair⟩
noncomputable def e__law_asked:Ent:=⟨"_law_asked",top 40,["_law_word","_law_last","_law_short","_law_signs_here","_law_some","_law_k"],["_law_word"],b__law_asked⟩
noncomputable def e__law_marks_due:Ent:=⟨"_law_marks_due",top 41,["_law_text","_law_here","_law_at","_law_word","_law_pair_here"],["_law_text"],b__law_marks_due⟩
noncomputable def e__law_askings_due:Ent:=⟨"_law_askings_due",top 42,["_law_text","_law_here","_law_at","_law_word","_law_asking_here"],["_law_text"],b__law_askings_due⟩
noncomputable def e__law_asking_word:Ent:=⟨"_law_asking_word",top 43,["_law_asking_here"],["_law_asking_here"],b__law_asking_word⟩
noncomputable def e__law_spoilt:Ent:=⟨"_law_spoilt",top 44,["_law_feed","_law_words","_law_good","_law_odd","_law_word","_law_at","_law_way","_law_text","_law_sign"],["_law_feed","_law_words","_law_good"],b__law_spoilt⟩
noncomputable def e__law_right:Ent:=⟨"_law_right",top 46,["_law_way","_law_text","_law_due"],["_law_way","_law_text"],b__law_right⟩
noncomputable def e_law:Ent:=⟨"law",top 47,["_law_script","_law_feed","_law_names_here","_law_told","_law_turn","_law_way","_law_some","_law_words","_law_spoilt_here"],["_law_script"],b_law⟩
noncomputable def ents:List Ent:=[e_made_of,e_is_name,e_is_value,e_has_name,e_read_mark,e_read_marks,e_are_values,e_read_asking,e_asking_of,e_askings_ahead,e_read_askings,e__law_draw,e__law_signs,e__law_names,e__law_values,e__law_asking,e__law_clean,e__law_pair,e__law_asked,e__law_marks_due,e__law_askings_due,e__law_asking_word,e__law_spoilt,e__law_right,e_law]
theorem tab_eq:tabOf ents=tab:=rfl
theorem c_made_of:cSs ⟨defScope (top 15),e_made_of.N,ents.map (·.x),glN,blN⟩ 200 (defBody (top 15))=some b_made_of:=by kernel_rfl
theorem s_made_of:FnScope e_made_of.N e_made_of.ps (defScope (top 15)):=⟨rfl,rfl,rfl,by decide +kernel,rfl,by decide +kernel,by decide +kernel⟩
theorem t_made_of:(tabOf ents).lookup e_made_of.x=some ⟨e_made_of.N.length,e_made_of.ps.length,e_made_of.b⟩:=by kernel_rfl
theorem c_is_name:cSs ⟨defScope (top 16),e_is_name.N,ents.map (·.x),glN,blN⟩ 200 (defBody (top 16))=some b_is_name:=by kernel_rfl
theorem s_is_name:FnScope e_is_name.N e_is_name.ps (defScope (top 16)):=⟨rfl,rfl,rfl,by decide +kernel,rfl,by decide +kernel,by decide +kernel⟩
theorem t_is_name:(tabOf ents).lookup e_is_name.x=some ⟨e_is_name.N.length,e_is_name.ps.length,e_is_name.b⟩:=by kernel_rfl
theorem c_is_value:cSs ⟨defScope (top 17),e_is_value.N,ents.map (·.x),glN,blN⟩ 200 (defBody (top 17))=some b_is_value:=by kernel_rfl
theorem s_is_value:FnScope e_is_value.N e_is_value.ps (defScope (top 17)):=⟨rfl,rfl,rfl,by decide +kernel,rfl,by decide +kernel,by decide +kernel⟩
theorem t_is_value:(tabOf ents).lookup e_is_value.x=some ⟨e_is_value.N.length,e_is_value.ps.length,e_is_value.b⟩:=by kernel_rfl
theorem c_has_name:cSs ⟨defScope (top 18),e_has_name.N,ents.map (·.x),glN,blN⟩ 200 (defBody (top 18))=some b_has_name:=by kernel_rfl
theorem s_has_name:FnScope e_has_name.N e_has_name.ps (defScope (top 18)):=⟨rfl,rfl,rfl,by decide +kernel,rfl,by decide +kernel,by decide +kernel⟩
theorem t_has_name:(tabOf ents).lookup e_has_name.x=some ⟨e_has_name.N.length,e_has_name.ps.length,e_has_name.b⟩:=by kernel_rfl
theorem c_read_mark:cSs ⟨defScope (top 25),e_read_mark.N,ents.map (·.x),glN,blN⟩ 200 (defBody (top 25))=some b_read_mark:=by kernel_rfl
theorem s_read_mark:FnScope e_read_mark.N e_read_mark.ps (defScope (top 25)):=⟨rfl,rfl,rfl,by decide +kernel,rfl,by decide +kernel,by decide +kernel⟩
theorem t_read_mark:(tabOf ents).lookup e_read_mark.x=some ⟨e_read_mark.N.length,e_read_mark.ps.length,e_read_mark.b⟩:=by kernel_rfl
theorem c_read_marks:cSs ⟨defScope (top 26),e_read_marks.N,ents.map (·.x),glN,blN⟩ 200 (defBody (top 26))=some b_read_marks:=by kernel_rfl
theorem s_read_marks:FnScope e_read_marks.N e_read_marks.ps (defScope (top 26)):=⟨rfl,rfl,rfl,by decide +kernel,rfl,by decide +kernel,by decide +kernel⟩
theorem t_read_marks:(tabOf ents).lookup e_read_marks.x=some ⟨e_read_marks.N.length,e_read_marks.ps.length,e_read_marks.b⟩:=by kernel_rfl
theorem c_are_values:cSs ⟨defScope (top 27),e_are_values.N,ents.map (·.x),glN,blN⟩ 200 (defBody (top 27))=some b_are_values:=by kernel_rfl
theorem s_are_values:FnScope e_are_values.N e_are_values.ps (defScope (top 27)):=⟨rfl,rfl,rfl,by decide +kernel,rfl,by decide +kernel,by decide +kernel⟩
theorem t_are_values:(tabOf ents).lookup e_are_values.x=some ⟨e_are_values.N.length,e_are_values.ps.length,e_are_values.b⟩:=by kernel_rfl
theorem c_read_asking:cSs ⟨defScope (top 28),e_read_asking.N,ents.map (·.x),glN,blN⟩ 200 (defBody (top 28))=some b_read_asking:=by kernel_rfl
theorem s_read_asking:FnScope e_read_asking.N e_read_asking.ps (defScope (top 28)):=⟨rfl,rfl,rfl,by decide +kernel,rfl,by decide +kernel,by decide +kernel⟩
theorem t_read_asking:(tabOf ents).lookup e_read_asking.x=some ⟨e_read_asking.N.length,e_read_asking.ps.length,e_read_asking.b⟩:=by kernel_rfl
theorem c_asking_of:cSs ⟨defScope (top 29),e_asking_of.N,ents.map (·.x),glN,blN⟩ 200 (defBody (top 29))=some b_asking_of:=by kernel_rfl
theorem s_asking_of:FnScope e_asking_of.N e_asking_of.ps (defScope (top 29)):=⟨rfl,rfl,rfl,by decide +kernel,rfl,by decide +kernel,by decide +kernel⟩
theorem t_asking_of:(tabOf ents).lookup e_asking_of.x=some ⟨e_asking_of.N.length,e_asking_of.ps.length,e_asking_of.b⟩:=by kernel_rfl
theorem c_askings_ahead:cSs ⟨defScope (top 30),e_askings_ahead.N,ents.map (·.x),glN,blN⟩ 200 (defBody (top 30))=some b_askings_ahead:=by kernel_rfl
theorem s_askings_ahead:FnScope e_askings_ahead.N e_askings_ahead.ps (defScope (top 30)):=⟨rfl,rfl,rfl,by decide +kernel,rfl,by decide +kernel,by decide +kernel⟩
theorem t_askings_ahead:(tabOf ents).lookup e_askings_ahead.x=some ⟨e_askings_ahead.N.length,e_askings_ahead.ps.length,e_askings_ahead.b⟩:=by kernel_rfl
theorem c_read_askings:cSs ⟨defScope (top 31),e_read_askings.N,ents.map (·.x),glN,blN⟩ 200 (defBody (top 31))=some b_read_askings:=by kernel_rfl
theorem s_read_askings:FnScope e_read_askings.N e_read_askings.ps (defScope (top 31)):=⟨rfl,rfl,rfl,by decide +kernel,rfl,by decide +kernel,by decide +kernel⟩
theorem t_read_askings:(tabOf ents).lookup e_read_askings.x=some ⟨e_read_askings.N.length,e_read_askings.ps.length,e_read_askings.b⟩:=by kernel_rfl
theorem c__law_draw:cSs ⟨defScope (top 33),e__law_draw.N,ents.map (·.x),glN,blN⟩ 200 (defBody (top 33))=some b__law_draw:=by kernel_rfl
theorem s__law_draw:FnScope e__law_draw.N e__law_draw.ps (defScope (top 33)):=⟨rfl,rfl,rfl,by decide +kernel,rfl,by decide +kernel,by decide +kernel⟩
theorem t__law_draw:(tabOf ents).lookup e__law_draw.x=some ⟨e__law_draw.N.length,e__law_draw.ps.length,e__law_draw.b⟩:=by kernel_rfl
theorem c__law_signs:cSs ⟨defScope (top 34),e__law_signs.N,ents.map (·.x),glN,blN⟩ 200 (defBody (top 34))=some b__law_signs:=by kernel_rfl
theorem s__law_signs:FnScope e__law_signs.N e__law_signs.ps (defScope (top 34)):=⟨rfl,rfl,rfl,by decide +kernel,rfl,by decide +kernel,by decide +kernel⟩
theorem t__law_signs:(tabOf ents).lookup e__law_signs.x=some ⟨e__law_signs.N.length,e__law_signs.ps.length,e__law_signs.b⟩:=by kernel_rfl
theorem c__law_names:cSs ⟨defScope (top 35),e__law_names.N,ents.map (·.x),glN,blN⟩ 200 (defBody (top 35))=some b__law_names:=by kernel_rfl
theorem s__law_names:FnScope e__law_names.N e__law_names.ps (defScope (top 35)):=⟨rfl,rfl,rfl,by decide +kernel,rfl,by decide +kernel,by decide +kernel⟩
theorem t__law_names:(tabOf ents).lookup e__law_names.x=some ⟨e__law_names.N.length,e__law_names.ps.length,e__law_names.b⟩:=by kernel_rfl
theorem c__law_values:cSs ⟨defScope (top 36),e__law_values.N,ents.map (·.x),glN,blN⟩ 200 (defBody (top 36))=some b__law_values:=by kernel_rfl
theorem s__law_values:FnScope e__law_values.N e__law_values.ps (defScope (top 36)):=⟨rfl,rfl,rfl,by decide +kernel,rfl,by decide +kernel,by decide +kernel⟩
theorem t__law_values:(tabOf ents).lookup e__law_values.x=some ⟨e__law_values.N.length,e__law_values.ps.length,e__law_values.b⟩:=by kernel_rfl
theorem c__law_asking:cSs ⟨defScope (top 37),e__law_asking.N,ents.map (·.x),glN,blN⟩ 200 (defBody (top 37))=some b__law_asking:=by kernel_rfl
theorem s__law_asking:FnScope e__law_asking.N e__law_asking.ps (defScope (top 37)):=⟨rfl,rfl,rfl,by decide +kernel,rfl,by decide +kernel,by decide +kernel⟩
theorem t__law_asking:(tabOf ents).lookup e__law_asking.x=some ⟨e__law_asking.N.length,e__law_asking.ps.length,e__law_asking.b⟩:=by kernel_rfl
theorem c__law_clean:cSs ⟨defScope (top 38),e__law_clean.N,ents.map (·.x),glN,blN⟩ 200 (defBody (top 38))=some b__law_clean:=by kernel_rfl
theorem s__law_clean:FnScope e__law_clean.N e__law_clean.ps (defScope (top 38)):=⟨rfl,rfl,rfl,by decide +kernel,rfl,by decide +kernel,by decide +kernel⟩
theorem t__law_clean:(tabOf ents).lookup e__law_clean.x=some ⟨e__law_clean.N.length,e__law_clean.ps.length,e__law_clean.b⟩:=by kernel_rfl
theorem c__law_pair:cSs ⟨defScope (top 39),e__law_pair.N,ents.map (·.x),glN,blN⟩ 200 (defBody (top 39))=some b__law_pair:=by kernel_rfl
theorem s__law_pair:FnScope e__law_pair.N e__law_pair.ps (defScope (top 39)):=⟨rfl,rfl,rfl,by decide +kernel,rfl,by decide +kernel,by decide +kernel⟩
theorem t__law_pair:(tabOf ents).lookup e__law_pair.x=some ⟨e__law_pair.N.length,e__law_pair.ps.length,e__law_pair.b⟩:=by kernel_rfl
theorem c__law_asked:cSs ⟨defScope (top 40),e__law_asked.N,ents.map (·.x),glN,blN⟩ 200 (defBody (top 40))=some b__law_asked:=by kernel_rfl
theorem s__law_asked:FnScope e__law_asked.N e__law_asked.ps (defScope (top 40)):=⟨rfl,rfl,rfl,by decide +kernel,rfl,by decide +kernel,by decide +kernel⟩
theorem t__law_asked:(tabOf ents).lookup e__law_asked.x=some ⟨e__law_asked.N.length,e__law_asked.ps.length,e__law_asked.b⟩:=by kernel_rfl
theorem c__law_marks_due:cSs ⟨defScope (top 41),e__law_marks_due.N,ents.map (·.x),glN,blN⟩ 200 (defBody (top 41))=some b__law_marks_due:=by kernel_rfl
theorem s__law_marks_due:FnScope e__law_marks_due.N e__law_marks_due.ps (defScope (top 41)):=⟨rfl,rfl,rfl,by decide +kernel,rfl,by decide +kernel,by decide +kernel⟩
theorem t__law_marks_due:(tabOf ents).lookup e__law_marks_due.x=some ⟨e__law_marks_due.N.length,e__law_marks_due.ps.length,e__law_marks_due.b⟩:=by kernel_rfl
theorem c__law_askings_due:cSs ⟨defScope (top 42),e__law_askings_due.N,ents.map (·.x),glN,blN⟩ 200 (defBody (top 42))=some b__law_askings_due:=by kernel_rfl
theorem s__law_askings_due:FnScope e__law_askings_due.N e__law_askings_due.ps (defScope (top 42)):=⟨rfl,rfl,rfl,by decide +kernel,rfl,by decide +kernel,by decide +kernel⟩
theorem t__law_askings_due:(tabOf ents).lookup e__law_askings_due.x=some ⟨e__law_askings_due.N.length,e__law_askings_due.ps.length,e__law_askings_due.b⟩:=by kernel_rfl
theorem c__law_asking_word:cSs ⟨defScope (top 43),e__law_asking_word.N,ents.map (·.x),glN,blN⟩ 200 (defBody (top 43))=some b__law_asking_word:=by kernel_rfl
theorem s__law_asking_word:FnScope e__law_asking_word.N e__law_asking_word.ps (defScope (top 43)):=⟨rfl,rfl,rfl,by decide +kernel,rfl,by decide +kernel,by decide +kernel⟩
theorem t__law_asking_word:(tabOf ents).lookup e__law_asking_word.x=some ⟨e__law_asking_word.N.length,e__law_asking_word.ps.length,e__law_asking_word.b⟩:=by kernel_rfl
theorem c__law_spoilt:cSs ⟨defScope (top 44),e__law_spoilt.N,ents.map (·.x),glN,blN⟩ 200 (defBody (top 44))=some b__law_spoilt:=by kernel_rfl
theorem s__law_spoilt:FnScope e__law_spoilt.N e__law_spoilt.ps (defScope (top 44)):=⟨rfl,rfl,rfl,by decide +kernel,rfl,by decide +kernel,by decide +kernel⟩
theorem t__law_spoilt:(tabOf ents).lookup e__law_spoilt.x=some ⟨e__law_spoilt.N.length,e__law_spoilt.ps.length,e__law_spoilt.b⟩:=by kernel_rfl
theorem c__law_right:cSs ⟨defScope (top 46),e__law_right.N,ents.map (·.x),glN,blN⟩ 200 (defBody (top 46))=some b__law_right:=by kernel_rfl
theorem s__law_right:FnScope e__law_right.N e__law_right.ps (defScope (top 46)):=⟨rfl,rfl,rfl,by decide +kernel,rfl,by decide +kernel,by decide +kernel⟩
theorem t__law_right:(tabOf ents).lookup e__law_right.x=some ⟨e__law_right.N.length,e__law_right.ps.length,e__law_right.b⟩:=by kernel_rfl
theorem c_law:cSs ⟨defScope (top 47),e_law.N,ents.map (·.x),glN,blN⟩ 200 (defBody (top 47))=some b_law:=by kernel_rfl
theorem s_law:FnScope e_law.N e_law.ps (defScope (top 47)):=⟨rfl,rfl,rfl,by decide +kernel,rfl,by decide +kernel,by decide +kernel⟩
theorem t_law:(tabOf ents).lookup e_law.x=some ⟨e_law.N.length,e_law.ps.length,e_law.b⟩:=by kernel_rfl
noncomputable def recs:List DefRec:=[recT ("made_of" : Str) (top 15),recT ("is_name" : Str) (top 16),recT ("is_value" : Str) (top 17),recT ("has_name" : Str) (top 18),recT ("read_mark" : Str) (top 25),recT ("read_marks" : Str) (top 26),recT ("are_values" : Str) (top 27),recT ("read_asking" : Str) (top 28),recT ("asking_of" : Str) (top 29),recT ("askings_ahead" : Str) (top 30),recT ("read_askings" : Str) (top 31),recT ("_law_draw" : Str) (top 33),recT ("_law_signs" : Str) (top 34),recT ("_law_names" : Str) (top 35),recT ("_law_values" : Str) (top 36),recT ("_law_asking" : Str) (top 37),recT ("_law_clean" : Str) (top 38),recT ("_law_pair" : Str) (top 39),recT ("_law_asked" : Str) (top 40),recT ("_law_marks_due" : Str) (top 41),recT ("_law_askings_due" : Str) (top 42),recT ("_law_asking_word" : Str) (top 43),recT ("_law_spoilt" : Str) (top 44),recT ("_law_refused" : Str) (top 45),recT ("_law_right" : Str) (top 46),recT ("law" : Str) (top 47)]
noncomputable def rfP (i:Nat):Pos:=([⟨210,11,210,19⟩,⟨210,23,210,24⟩,⟨210,11,210,24⟩,⟨211,12,211,22⟩,⟨211,23,211,32⟩,⟨211,12,211,33⟩,⟨211,12,211,33⟩,⟨213,12,213,24⟩,⟨213,25,213,34⟩,⟨213,12,213,35⟩,⟨213,12,213,35⟩,⟨210,8,213,35⟩,⟨215,8,215,23⟩,⟨215,26,215,36⟩,⟨215,37,215,38⟩,⟨215,40,215,47⟩,⟨215,26,215,48⟩,⟨215,53,215,63⟩,⟨215,64,215,65⟩,⟨215,67,215,77⟩,⟨215,53,215,78⟩,⟨215,26,215,78⟩,⟨215,8,215,78⟩,⟨216,11,216,21⟩,⟨216,22,216,23⟩,⟨216,26,216,33⟩,⟨216,35,216,42⟩,⟨216,44,216,48⟩,⟨216,50,216,57⟩,⟨216,59,216,68⟩,⟨216,70,216,75⟩,⟨216,77,216,84⟩,⟨216,25,216,85⟩,⟨216,11,216,86⟩,⟨217,12,217,27⟩,⟨217,30,217,35⟩,⟨217,12,217,35⟩,⟨216,8,217,35⟩,⟨218,11,218,26⟩,⟨218,31,218,35⟩,⟨218,36,218,37⟩,⟨218,36,218,40⟩,⟨218,31,218,41⟩,⟨218,45,218,49⟩,⟨218,50,218,57⟩,⟨218,45,218,58⟩,⟨218,31,218,58⟩,⟨218,11,218,58⟩,⟨219,12,219,27⟩,⟨219,30,219,35⟩,⟨219,12,219,35⟩,⟨218,8,219,35⟩,⟨214,11,214,21⟩,⟨214,4,219,35⟩,⟨209,4,219,35⟩,⟨208,4,208,19⟩,⟨208,22,208,27⟩,⟨208,4,208,27⟩,⟨220,11,220,26⟩,⟨220,4,220,26⟩]:List Pos).getD i ⟨0,0,0,0⟩
theorem rf_text:defBody (top 45)=rfBody rfP:=by kernel_rfl
theorem rf_sc:RfSc (defScope (top 45)):=⟨by decide +kernel,by decide +kernel⟩
theorem rf_fs:FnScope rfN rfPs (defScope (top 45)):=⟨rfl,rfl,rfl,by decide +kernel,rfl,by decide +kernel,by decide +kernel⟩
noncomputable def inP (i:Nat):Pos:=([⟨7,8,7,12⟩,⟨7,8,7,15⟩,⟨7,18,7,20⟩,⟨7,8,7,20⟩]:List Pos).getD i ⟨0,0,0,0⟩
theorem in_text:defBody iniSt=atBody inP:=by kernel_rfl
theorem in_sc:∀ x∈(["self","at"]:List Str),(defScope iniSt).names.lookup x=some .local:=by decide +kernel
theorem in_fs:FnScope ["self","at"] ["self","at"] (defScope iniSt):=⟨rfl,rfl,rfl,by decide +kernel,rfl,by decide +kernel,by decide +kernel⟩
theorem rf_ra:∀ n,∃ e∈ents,e.x=rfF n/\e.ps.length=1/\zokSs 200 (defBody e.st) e.b=true:=fun n=>by
 unfold rfF;split
 ·exact⟨e_read_marks,by simp[ents],rfl,rfl,by kernel_rfl⟩
 ·exact⟨e_read_askings,by simp[ents],rfl,rfl,by kernel_rfl⟩
theorem all_mk {P q:Program}{w:World}{lo:List Str}{mean:ExcName->Option Value}{mg mb:Str->Option Value}{h:Heap}{fa:Addr}(T:Top q lo mean mg mb h)(Y:GdAt ("SIGN_OF" : Str) [(("is" : Str),("=" : Str)),(("no" : Str),("!" : Str)),(("there" : Str),("+" : Str)),(("lacks" : Str),("-" : Str))] w h/\ZAt iniSt w h)(hfa:mg "law" = some (.ref fa))(r:recsOf q=recs)(z:freeB q lo blN=true)
  (g0:valOf q ("LETTERS" : Str)=some (.str ("abcdefghijklmnopqrstuvwxyz" : Str)))
  (g1:valOf q ("FIGURES" : Str)=some (.str ("0123456789" : Str)))
  (g2:valOf q ("LONGEST_NAME" : Str)=some (.int 8))
  (g3:valOf q ("LONGEST_VALUE" : Str)=some (.int 12))
  (g4:valOf q ("NONE" : Str)=some (.str ("-" : Str)))
  (g5:valOf q ("MOST_MARKS" : Str)=some (.int 8))
  (g6:valOf q ("MOST_ASKINGS" : Str)=some (.int 4))
  (g7:valOf q ("MOST_VALUES" : Str)=some (.int 3))
  : ∃ fd:FuncData,(∀ (s:Shared) (v:Value),BindsTo s fd ⟨[v],[]⟩ [("_law_script",v)])/\∀ base:Heap,(heapK h).In base->base.Ns mainGlobals mg->FnOk P w (heapK h) mg base CX0 42 fa fd ["_law_script"] (spOf (heapK h) 1 ((cx sortD 40).fn "law")) :=
 have hd:∀ e∈ents,DefR (heapK h) mg ents glN blN e:=List.forall_mem_cons.mpr ⟨DefR.mkT T r 0 rfl (fun _ _ _ _ _ _=>on2 fun _ _=>rfl) s_made_of c_made_of t_made_of,
  List.forall_mem_cons.mpr ⟨DefR.mkT T r 1 rfl (fun _ _ _ _ _ _=>on1 fun _=>rfl) s_is_name c_is_name t_is_name,
  List.forall_mem_cons.mpr ⟨DefR.mkT T r 2 rfl (fun _ _ _ _ _ _=>on1 fun _=>rfl) s_is_value c_is_value t_is_value,
  List.forall_mem_cons.mpr ⟨DefR.mkT T r 3 rfl (fun _ _ _ _ _ _=>on2 fun _ _=>rfl) s_has_name c_has_name t_has_name,
  List.forall_mem_cons.mpr ⟨DefR.mkT T r 4 rfl (fun _ _ _ _ _ _=>on1 fun _=>rfl) s_read_mark c_read_mark t_read_mark,
  List.forall_mem_cons.mpr ⟨DefR.mkT T r 5 rfl (fun _ _ _ _ _ _=>on1 fun _=>rfl) s_read_marks c_read_marks t_read_marks,
  List.forall_mem_cons.mpr ⟨DefR.mkT T r 6 rfl (fun _ _ _ _ _ _=>on1 fun _=>rfl) s_are_values c_are_values t_are_values,
  List.forall_mem_cons.mpr ⟨DefR.mkT T r 7 rfl (fun _ _ _ _ _ _=>on1 fun _=>rfl) s_read_asking c_read_asking t_read_asking,
  List.forall_mem_cons.mpr ⟨DefR.mkT T r 8 rfl (fun _ _ _ _ _ _=>on3 fun _ _ _=>rfl) s_asking_of c_asking_of t_asking_of,
  List.forall_mem_cons.mpr ⟨DefR.mkT T r 9 rfl (fun _ _ _ _ _ _=>on1 fun _=>rfl) s_askings_ahead c_askings_ahead t_askings_ahead,
  List.forall_mem_cons.mpr ⟨DefR.mkT T r 10 rfl (fun _ _ _ _ _ _=>on1 fun _=>rfl) s_read_askings c_read_askings t_read_askings,
  List.forall_mem_cons.mpr ⟨DefR.mkT T r 11 rfl (fun _ _ _ _ _ _=>on2 fun _ _=>rfl) s__law_draw c__law_draw t__law_draw,
  List.forall_mem_cons.mpr ⟨DefR.mkT T r 12 rfl (fun _ _ _ _ _ _=>on3 fun _ _ _=>rfl) s__law_signs c__law_signs t__law_signs,
  List.forall_mem_cons.mpr ⟨DefR.mkT T r 13 rfl (fun _ _ _ _ _ _=>on2 fun _ _=>rfl) s__law_names c__law_names t__law_names,
  List.forall_mem_cons.mpr ⟨DefR.mkT T r 14 rfl (fun _ _ _ _ _ _=>on2 fun _ _=>rfl) s__law_values c__law_values t__law_values,
  List.forall_mem_cons.mpr ⟨DefR.mkT T r 15 rfl (fun _ _ _ _ _ _=>on3 fun _ _ _=>rfl) s__law_asking c__law_asking t__law_asking,
  List.forall_mem_cons.mpr ⟨DefR.mkT T r 16 rfl (fun _ _ _ _ _ _=>on3 fun _ _ _=>rfl) s__law_clean c__law_clean t__law_clean,
  List.forall_mem_cons.mpr ⟨DefR.mkT T r 17 rfl (fun _ _ _ _ _ _=>on1 fun _=>rfl) s__law_pair c__law_pair t__law_pair,
  List.forall_mem_cons.mpr ⟨DefR.mkT T r 18 rfl (fun _ _ _ _ _ _=>on1 fun _=>rfl) s__law_asked c__law_asked t__law_asked,
  List.forall_mem_cons.mpr ⟨DefR.mkT T r 19 rfl (fun _ _ _ _ _ _=>on1 fun _=>rfl) s__law_marks_due c__law_marks_due t__law_marks_due,
  List.forall_mem_cons.mpr ⟨DefR.mkT T r 20 rfl (fun _ _ _ _ _ _=>on1 fun _=>rfl) s__law_askings_due c__law_askings_due t__law_askings_due,
  List.forall_mem_cons.mpr ⟨DefR.mkT T r 21 rfl (fun _ _ _ _ _ _=>on1 fun _=>rfl) s__law_asking_word c__law_asking_word t__law_asking_word,
  List.forall_mem_cons.mpr ⟨DefR.mkT T r 22 rfl (fun _ _ _ _ _ _=>on3 fun _ _ _=>rfl) s__law_spoilt c__law_spoilt t__law_spoilt,
  List.forall_mem_cons.mpr ⟨DefR.mkT T r 24 rfl (fun _ _ _ _ _ _=>on2 fun _ _=>rfl) s__law_right c__law_right t__law_right,
  List.forall_mem_cons.mpr ⟨DefR.mkT T r 25 rfl (fun _ _ _ _ _ _=>on1 fun _=>rfl) s_law c_law t_law,
  fun _ h9=>nomatch h9⟩⟩⟩⟩⟩⟩⟩⟩⟩⟩⟩⟩⟩⟩⟩⟩⟩⟩⟩⟩⟩⟩⟩⟩⟩
 have hg:∀ x∈glN,GlR (heapK h) mg gl x:=List.forall_mem_cons.mpr ⟨GlR.strT T g0 (by kernel_rfl),List.forall_mem_cons.mpr ⟨GlR.strT T g1 (by kernel_rfl),List.forall_mem_cons.mpr ⟨GlR.intT T g2 (by kernel_rfl),List.forall_mem_cons.mpr ⟨GlR.intT T g3 (by kernel_rfl),List.forall_mem_cons.mpr ⟨GlR.strT T g4 (by kernel_rfl),List.forall_mem_cons.mpr ⟨GlR.intT T g5 (by kernel_rfl),List.forall_mem_cons.mpr ⟨GlR.intT T g6 (by kernel_rfl),List.forall_mem_cons.mpr ⟨GlR.intT T g7 (by kernel_rfl),fun _ h9=>nomatch h9⟩⟩⟩⟩⟩⟩⟩⟩
 have hgd:∀ x,gdName x=true->∃ a d ks,gl x=some d/\gdKs d=some ks/\mg x=some (.ref a)/\GdK (heapK h) P w a ks:=fun x hx=>by
  have e:x=("SIGN_OF" : Str):=by simpa [gdName] using hx
  subst e
  obtain⟨a,h1,h2⟩:=gd_kept (P:=P) T.g Y.1
  exact⟨a,.tup [.tup [.str ("is" : Str),.str ("=" : Str)],.tup [.str ("no" : Str),.str ("!" : Str)],.tup [.str ("there" : Str),.str ("+" : Str)],.tup [.str ("lacks" : Str),.str ("-" : Str)]],_,by kernel_rfl,by kernel_rfl,h1,h2⟩
 let ⟨_,_,_,hrf⟩:=RfR.mkT (es:=ents) T Y.2 r 23 rfl (fun _ _ _ _ _ _=>on3 fun _ _ _=>rfl) (fun _ _ _ _ _ _=>on2 fun _ _=>rfl) rf_fs rf_text rf_sc in_fs in_text in_sc (free_of T z _ (by decide +kernel)) (free_of T z _ (by decide +kernel)) (free_of T z _ (by decide +kernel)) rf_ra
 law_mkT hgd hrf (fun k=>srt_ok (by cases k <;> rfl)) hd hg (free_of T z) 40 (e:=e_law) (by simp[ents]) rfl (fun _ _ _ _ _ _ _=>rfl) hfa
end Law
open PySem PySem.W PyProof.Rows
theorem Law.left:LeftO Law.rw2.row.prog Law.vw [("SIGN_OF" : Str)] (fun s=>xlAt Law.vw [] s&&recOk (RowW.records (OpenRow.toRowW Law.rw2.row)) s) (Hook.obs (L3.twoHooks (L3.gdHook ("SIGN_OF" : Str) [(("is" : Str),("=" : Str)),(("no" : Str),("!" : Str)),(("there" : Str),("+" : Str)),(("lacks" : Str),("-" : Str))] (by decide +kernel)) (L3.zHook Law.iniSt))) (Hook.val (L3.twoHooks (L3.gdHook ("SIGN_OF" : Str) [(("is" : Str),("=" : Str)),(("no" : Str),("!" : Str)),(("there" : Str),("+" : Str)),(("lacks" : Str),("-" : Str))] (by decide +kernel)) (L3.zHook Law.iniSt))) 20000:=fun w=>by
 have e:=World.withFollow_self w "special-get-raises";cases hb:w.params.followText "special-get-raises"
 ·rw[hb]at e
  have z:=Law.left_false w;rw[e]at z;exact z
 ·rw[hb]at e
  have z:=Law.left_true w;rw[e]at z;exact z
set_option maxRecDepth 100000 in
set_option maxHeartbeats 0 in
theorem Law.said:Law.rw2.wellSaid=true:=by kernel_rfl
set_option maxRecDepth 100000 in
set_option maxHeartbeats 0 in
theorem Law.holds2:Law.rw2.Holds:=by
 refine holds_law Law.said fun said=>?_;refine holds_open (q:=Law.vw) (loose:=[("SIGN_OF" : Str)]) (Xt:=fun s=>xlAt Law.vw [] s&&recOk (RowW.records (OpenRow.toRowW Law.rw2.row)) s) (XP:=XL Law.vw []) (Yf:=Hook.obs (L3.twoHooks (L3.gdHook ("SIGN_OF" : Str) [(("is" : Str),("=" : Str)),(("no" : Str),("!" : Str)),(("there" : Str),("+" : Str)),(("lacks" : Str),("-" : Str))] (by decide +kernel)) (L3.zHook Law.iniSt))) (Ya:=Hook.val (L3.twoHooks (L3.gdHook ("SIGN_OF" : Str) [(("is" : Str),("=" : Str)),(("no" : Str),("!" : Str)),(("there" : Str),("+" : Str)),(("lacks" : Str),("-" : Str))] (by decide +kernel)) (L3.zHook Law.iniSt))) (YP:=Hook.says (L3.twoHooks (L3.gdHook ("SIGN_OF" : Str) [(("is" : Str),("=" : Str)),(("no" : Str),("!" : Str)),(("there" : Str),("+" : Str)),(("lacks" : Str),("-" : Str))] (by decide +kernel)) (L3.zHook Law.iniSt))) (N:=20000) Law.left (Hook.of (L3.twoHooks (L3.gdHook ("SIGN_OF" : Str) [(("is" : Str),("=" : Str)),(("no" : Str),("!" : Str)),(("there" : Str),("+" : Str)),(("lacks" : Str),("-" : Str))] (by decide +kernel)) (L3.zHook Law.iniSt))) (Hook.keeps (L3.twoHooks (L3.gdHook ("SIGN_OF" : Str) [(("is" : Str),("=" : Str)),(("no" : Str),("!" : Str)),(("there" : Str),("+" : Str)),(("lacks" : Str),("-" : Str))] (by decide +kernel)) (L3.zHook Law.iniSt)))
  (fun s e=>xl_of s (Bool.and_eq_true_iff.mp e).1) XL.keeps (by rfl) (by rfl) (by rfl) (fun s e=>recFacts_of (Bool.and_eq_true_iff.mp e).2) (by rfl) said (by decide +kernel) ⟨rfl,rfl,rfl,rfl,rfl,by decide +kernel⟩ ?hw ?hc
 case hw=>w_witness2
 refine L3.walkY (l:=Law.rw2) (x:="_law_script") (k:=42) (g:=(Law.cx L3.sortD 40).fn "law") ⟨rfl,by decide,by decide,rfl⟩ rfl rfl Law.law_d ?F
 case F =>
  intro w mean mg mb fa h T Y hmg;exact Law.all_mk T Y hmg (by kernel_rfl) (by kernel_rfl) (by kernel_rfl) (by kernel_rfl) (by kernel_rfl) (by kernel_rfl) (by kernel_rfl) (by kernel_rfl) (by kernel_rfl) (by kernel_rfl)
theorem PySem.Challenge.cw_belfry_k04_what_is_no_word_holds : PySem.Challenge.rw_belfry_k04_what_is_no_word.Holds := by
 exact Law.rw_eq ▸ Law.holds2
