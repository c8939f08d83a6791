import PyProof.Rows.All
import Wide.All
import OpenK.AllK
import Wide.FinOn
import Lean
import PyProof.EqAt
import PyProof.EqKinds
import PyProof.TupleCall
import PySem.Challenge.RW_belfry_k41_records_do_not_reach_back
set_option Elab.async false
set_option linter.all false
set_option maxRecDepth 100000
namespace L3
open PySem PySem.Spec PyProof.Rows
section
variable {prog:Program}{w:World}{K:Type}[DecidableEq K]{knd:PySem.KeyKind prog w K}{A:Around}{E:Value->Shared->Prop}{s:Shared}
inductive Its2 (knd:PySem.KeyKind prog w K) (h:Heap):List (List K)->List Value->Prop
 | nil:Its2 knd h [] []
 | cons {k:List K} {b:Addr} {ks:List (List K)} {vs:List Value}:IsTupleKey knd h k b->Its2 knd h ks vs->Its2 knd h (k::ks) (.ref b::vs)
def IsKey2 (knd:PySem.KeyKind prog w K)(h:Heap)(ks:List (List K))(a:Addr):Prop:=∃ o items n,h.get? a=some o/\o.cls=.type "tuple"/\o.data=.seq items n/\Its2 knd h ks items.toList
theorem Its2.inj {h:Heap}{x y:List (List K)}{vs:List Value}(hx:Its2 knd h x vs)(hy:Its2 knd h y vs):x=y:=by
 induction hx generalizing y with
 | nil=>cases hy;rfl
 | cons h1 _ ih =>
  cases hy with
  | cons h2 t2=>rw[h1.inj h2,ih t2]
theorem Its2.mono {h h':Heap}(k:∀ x b,IsTupleKey knd h x b->IsTupleKey knd h' x b){x:List (List K)}{vs:List Value}(hx:Its2 knd h x vs):Its2 knd h' x vs:=by
 induction hx with
 | nil=>exact .nil
 | cons h1 _ ih=>exact .cons (k _ _ h1) ih
theorem IsKey2.typeIs {ks:List (List K)}{a:Addr}(x:IsKey2 knd s.heap ks a):s.TypeIs (.ref a) "tuple":=let ⟨o,_,_,ho,hc,_⟩:=x;⟨o,ho,hc⟩
theorem IsKey2.inj {h:Heap}{a:Addr}{x y:List (List K)}(hx:IsKey2 knd h x a)(hy:IsKey2 knd h y a):x=y:=by
 obtain⟨o,items,n,ho,_,hd,hi⟩:=hx;obtain⟨o',items',n',ho',_,hd',hi'⟩:=hy;rw[ho]at ho';cases ho';rw[hd]at hd';cases hd';exact hi.inj hi'
theorem IsKey2.keeps {h h':Heap}{ks:List (List K)}{a d:Addr}{o:Obj}{es ep}(x:IsKey2 knd h ks a)(ho:h.get? d=some o)(hd:o.data=.dict es ep)(hs:Heap.SameBut d h h'):IsKey2 knd h' ks a:=by
 obtain⟨o',items,n,ho',hc,hd',hi⟩:=x;have hne:a≠d:=fun z=>by
  rw[z,ho]at ho';cases ho';rw[hd]at hd';cases hd'
 exact⟨o',items,n,(hs.2 a hne).trans ho',hc,hd',hi.mono fun _ _ q=>q.keeps ho hd hs⟩
def hash2 (knd:PySem.KeyKind prog w K)(ks:List (List K)):Int:=reduceHash (Builtin.Tuple.tupleHashOf (ks.map (tupleKeyHash knd)))
def draws2 (ks:List (List K)):Nat:=(ks.map fun k=>k.length + 1).sum + 1
theorem pyHash2 {ks:List (List K)}{a:Addr}{Q:Int->Shared->Prop}(hu:A.units + 1 < cLine)(hk:IsKey2 knd s.heap ks a)(h:Q (hash2 knd ks) { s with toks:=s.toks + draws2 ks }):wpAny (model prog w) A (pyHash (.ref a)) Q E s:=by
 have hT:=hk.typeIs;obtain⟨o,items,n,ho,_,hd,hi⟩:=hk;unfold pyHash;first | unfold pyHashByItsType | skip
 first | refine wpAny_bind (wpAny_cRoomFor_or (.inr (Nat.lt_of_succ_lt hu)) ?_) | skip
 refine wpAny_bind (wpAny_specialOf hT F.slot_tuple_hash.lookup ?_);show wpAny _ _ (if (some (Value.builtin "tuple.__hash__")==some Value.none)=true then _ else _) Q E s;rw[if_neg (by rw[beq_builtin_none];exact Bool.false_ne_true)];refine wpAny_bind (wpAny_specialOf hT F.slot_tuple_hash.lookup ?_);show wpAny _ _ (callSpecialIfBoundUnlessNone? (.ref a) "__hash__" _ >>= _) Q E s;refine wpAny_bind (wpAny_callSpecialIfBoundUnlessNone?_slot hT F.slot_tuple_hash (wpAny_call_entry F.slot_tuple_hash hT F.entry_tuple_hash ?_ (F.args_tuple_hash_1 _)));show wpAny _ _ (Builtin.Tuple.tupleItemsOf (.ref a) >>= _) _ _ s;refine wpAny_bind (wpAny_tupleItemsOf ho hd ?_);refine wpAny_bind ?_;rw[<- Array.forIn_toList];refine wpAny_forIn_list _
  (fun rest (b:Array Int) s'=>∃ done left,ks=done++left/\Its2 knd s.heap left rest/\b.toList=done.map (tupleKeyHash knd)/\s' = { s with toks:=s.toks + (done.map fun k=>k.length + 1).sum })
  _ ?_ ?_ _ _ ⟨[],ks,rfl,hi,rfl,rfl⟩
 ·rintro x rest b s' ⟨done,left,rfl,hl,hb,rfl⟩
  cases hl with
  | @cons k b' ks' _ h1 hl' =>
   have fin:∀ t,t=s.toks + (done.map fun k=>k.length + 1).sum + (k.length + 1)->∃ d' l',done++k::ks'=d'++l'/\Its2 knd s.heap l' rest/\(b.push (tupleKeyHash knd k)).toList=d'.map (tupleKeyHash knd)/\({ s with toks:=t }:Shared) = { s with toks:=s.toks + (d'.map fun k=>k.length + 1).sum }:=fun t ht=>by
    refine⟨done++[k],ks',by simp,hl',by simp[hb],?_⟩;subst ht;congr 1;simp only[List.map_append,List.sum_append,List.map_cons,List.map_nil,List.sum_cons,List.sum_nil];first | lia | omega
   refine wpAny_bind (wpAny_pyHash_tuple (knd:=knd) (show A.in1.units < cLine from hu) h1 ?_)
   first
    | exact wpAny_pure (fin _ rfl)
    | exact wpAny_bind (wpAny_pure (wpAny_pure (fin _ rfl)))
 ·rintro b s' ⟨done,left,rfl,hl,hb,rfl⟩
  cases hl;rw[List.append_nil]at h;show wpAny _ _ (retInt (Builtin.Tuple.tupleHashOf b.toList)) _ _ _;rw[hb];refine wpAny_ret_mkInt ?_;unfold hash2 reduceHash draws2 at h;show wpAny _ _ (if (decide (-(2:Int) ^ 63<=Builtin.Tuple.tupleHashOf (done.map (tupleKeyHash knd)))&&decide (Builtin.Tuple.tupleHashOf (done.map (tupleKeyHash knd)) < 2 ^ 63))=true then _ else _) Q E _;by_cases hr:(decide (-(2:Int) ^ 63<=Builtin.Tuple.tupleHashOf (done.map (tupleKeyHash knd)))&&decide (Builtin.Tuple.tupleHashOf (done.map (tupleKeyHash knd)) < 2 ^ 63))=true
  ·rw[if_pos hr]
   rw[if_pos hr]at h;exact wpAny_pure (by simpa [Nat.add_assoc] using h)
  ·rw[if_neg hr]
   rw[if_neg hr]at h;exact wpAny_bind (wpAny_rule (wpAny_pure (by simpa [Nat.add_assoc] using h)))
theorem eq2_tree {x y:List (List K)}{a b:Addr}{P:Fin->Shared->Prop}(hu:A.units < cLine)(hx:IsKey2 knd s.heap x a)(hy:IsKey2 knd s.heap y b)(h:P (.done (.ret (.bool (decide (x=y))))) s) :
  wpAny (model prog w) A (Builtin.«tuple.__eq__» ⟨[.ref a,.ref b],[]⟩) P E s:=by
 have hTb:=hy.typeIs;obtain⟨oa,xs,na,hoa,_,hda,hia⟩:=hx;obtain⟨ob,ys,nb,hob,_,hdb,hib⟩:=hy;show wpAny _ _ (isInstance (.ref b) (.type "tuple") >>= _) _ _ s;refine wpAny_bind (wpAny_isInstance hTb isSubtype_tuple_tuple ?_);simp only[Bool.not_true,Bool.false_eq_true,if_false];refine wpAny_bind (wpAny_tupleItemsOf hoa hda ?_);refine wpAny_bind (wpAny_tupleItemsOf hob hdb ?_);refine wpAny_bind ?_;refine wpAny_forIn_list _
  (fun rest r s'=>r.1=none/\s'=s/\∃ x' y' xs' ys',rest=List.zip xs' ys'/\Its2 knd s.heap x' xs'/\Its2 knd s.heap y' ys'/\decide (x'=y')=decide (x=y)/\(xs'.length==ys'.length)=(xs.size==ys.size))
  _ ?_ ?_ _ _ ⟨rfl,rfl,x,y,xs.toList,ys.toList,rfl,hia,hib,rfl,by simp⟩
 ·rintro ⟨u,v⟩ rest r s' ⟨hr,rfl,x',y',xs',ys',hz,hx',hy',hdec,hlen⟩
  cases hx' with
  | nil=>simp at hz
  | @cons k1 u' x'' xs'' h1 hx'' =>
   cases hy' with
   | nil=>simp at hz
   | @cons k2 v' y'' ys'' h2 hy'' =>
    simp only[List.zip_cons_cons,List.cons.injEq,Prod.mk.injEq]at hz;obtain⟨⟨rfl,rfl⟩,rfl⟩:=hz;refine wpAny_bind (wpAny_eqBool_tuple (knd:=knd) (x:=k1) (y:=k2) hu h1 h2 ?_);by_cases hk:k1=k2
    ·subst hk
     rw[decide_eq_true rfl];simp only[Bool.not_true,Bool.false_eq_true,if_false];refine wpAny_pure ⟨rfl,rfl,x'',y'',xs'',ys'',rfl,hx'',hy'',?_,by simpa using hlen⟩;rw[<- hdec];by_cases hxy:x''=y''
     ·simp[hxy]
     ·simp[hxy]
    ·rw[decide_eq_false hk]
     simp only[Bool.not_false,if_true];have hf:decide (x=y)=false:=by rw[<- hdec];simp[hk]
     rw[hf]at h;exact wpAny_bind (wpAny_pure (wpAny_pure (wpAny_pure h)))
 ·rintro ⟨r1,r2⟩ s' ⟨hr,rfl,x',y',xs',ys',hz,hx',hy',hdec,hlen⟩
  simp only at hr;subst hr;refine wpAny_pure ?_;have hfin:(xs.size==ys.size)=decide (x=y):=by
   rw[<- hdec,<- hlen];cases hx' with
   | nil =>
    cases hy' with
    | nil=>simp
    | cons _ _=>simp
   | cons _ _ =>
    cases hy' with
    | nil=>simp
    | cons _ _=>simp at hz
  show P (.done (.ret (.bool (xs.size==ys.size)))) s';rw[hfin];exact h
theorem eqBool2 {x y:List (List K)}{a b:Addr}{Q:Bool->Shared->Prop}(hu:A.units + 1 < cLine)(hx:IsKey2 knd s.heap x a)(hy:IsKey2 knd s.heap y b)(h:Q (decide (x=y)) s):wpAny (model prog w) A (eqBool (.ref a) (.ref b)) Q E s:=by
 unfold eqBool
 try with_reducible refine wpAny_holding ?_
 show wpAny _ _ (if (Value.ref a==Value.ref b)=true then _ else _) Q E s;by_cases hab:(Value.ref a==Value.ref b)=true
 ·rw[if_pos hab]
  have e:a=b:=by have:=eq_of_beq hab;injection this
  subst e;obtain rfl:=hx.inj hy;exact wpAny_bind (wpAny_rule (wpAny_pure (by simpa using h)))
 ·rw[if_neg hab]
  exact wpAny_bind (wpAny_richCompare_same_room (op:=.Eq) hx.typeIs hy.typeIs F.slot_tuple_eq
   (wpAny_call_entry F.slot_tuple_eq hx.typeIs F.entry_tuple_eq (eq2_tree (show A.in1.units < cLine from hu) hx hy ⟨_,rfl,(fun e=>nomatch e),wpAny_truthy_bool h⟩) (F.args_tuple_eq_2 _ _)) (Nat.lt_of_succ_lt hu))
theorem quietN (m:Nat){ks:List K}{a:Addr}{Q:Bool->Shared->Prop}(hk:IsTupleKey knd s.heap ks a)(h:Q true s):wpAny (model prog w) A (eqIsQuiet (m + 1) (.ref a)) Q E s:=by
 have hT:=hk.typeIs;obtain⟨o,items,n,ho,_,hd,hi⟩:=hk;unfold eqIsQuiet;refine wpAny_bind (wpAny_specialOf hT F.slot_tuple_eq.lookup ?_);show wpAny _ _ (isInstance (.ref a) (.type "tuple") >>= _) _ _ s;refine wpAny_bind (wpAny_isInstance hT isSubtype_tuple_tuple ?_);simp only[Bool.not_true,Bool.false_eq_true,if_false];refine wpAny_bind (wpAny_seqItems ho hd ?_);refine wpAny_bind ?_;show wpAny _ _ (forIn items _ _) _ _ s;rw[<- Array.forIn_toList];refine wpAny_forIn_list _ (fun rest r s'=>r.1=none/\s'=s/\∀ v∈rest,carriedByValue v=true) _ ?_ ?_ _ _ ⟨rfl,rfl,hi.byValue⟩
 ·rintro v rest r s' ⟨hr,rfl,hall⟩
  rw[eqIsQuiet_byValue _ (hall v List.mem_cons_self)];refine wpAny_bind (wpAny_pure ?_);simp only[Bool.not_true,Bool.false_eq_true,if_false];exact wpAny_pure ⟨rfl,rfl,fun u hu'=>hall u (List.mem_cons_of_mem _ hu')⟩
 ·rintro ⟨r1,r2⟩ s' ⟨hr,rfl,_⟩
  simp only at hr;subst hr;exact wpAny_pure h
theorem quiet2 {ks:List (List K)}{a:Addr}{Q:Bool->Shared->Prop}(hk:IsKey2 knd s.heap ks a)(h:Q true s):wpAny (model prog w) A (eqIsQuiet 8 (.ref a)) Q E s:=by
 have hT:=hk.typeIs;obtain⟨o,items,n,ho,_,hd,hi⟩:=hk;unfold eqIsQuiet;refine wpAny_bind (wpAny_specialOf hT F.slot_tuple_eq.lookup ?_);show wpAny _ _ (isInstance (.ref a) (.type "tuple") >>= _) _ _ s;refine wpAny_bind (wpAny_isInstance hT isSubtype_tuple_tuple ?_);simp only[Bool.not_true,Bool.false_eq_true,if_false];refine wpAny_bind (wpAny_seqItems ho hd ?_);refine wpAny_bind ?_;show wpAny _ _ (forIn items _ _) _ _ s;rw[<- Array.forIn_toList];refine wpAny_forIn_list _ (fun rest r s'=>r.1=none/\s'=s/\∃ kk,Its2 knd s.heap kk rest) _ ?_ ?_ _ _ ⟨rfl,rfl,ks,hi⟩
 ·rintro v rest r s' ⟨hr,rfl,kk,hall⟩
  cases hall with
  | cons h1 ht =>
   refine wpAny_bind (quietN 6 h1 ?_);simp only[Bool.not_true,Bool.false_eq_true,if_false];exact wpAny_pure ⟨rfl,rfl,_,ht⟩
 ·rintro ⟨r1,r2⟩ s' ⟨hr,rfl,_⟩
  simp only at hr;subst hr;exact wpAny_pure h
end
def kind2 {prog:Program}{w:World}{K:Type}[DecidableEq K](knd:PySem.KeyKind prog w K):HeapKind prog w (List (List K)) where
 is:=IsKey2 knd
 hash:=hash2 knd
 draws:=draws2
 room:=fun A=>A.units + 1 < cLine
 inj:=fun hx hy=>hx.inj hy
 keeps:=fun x ho hd hs=>x.keeps ho hd hs
 pyHash:=fun hu hk h=>pyHash2 hu hk h
 eqBool:=fun hu hx hy h=>eqBool2 hu hx hy h
 quiet:=fun hk h=>quiet2 hk h
end L3
namespace L2
open PySem PySem.Spec PyProof.Rows
abbrev Key:=Sum Int Str
def keyIs:Key->Value->Bool
 | .inl k,v=>Value.isInt k v
 | .inr x,v=>Value.isStrOf x v
def keyH (w:World):Key->Int
 | .inl k=>hashInt k
 | .inr x=>hashStr w x
theorem keyIs_shape:∀ {k:Key} {v:Value},keyIs k v=true->(∃ i t,k=Sum.inl i/\v=Value.int i t)\/(∃ x t,k=Sum.inr x/\v=Value.str x t)
 | .inl i,v,h=>by
  obtain⟨t,e⟩:=Value.isInt_shape (k:=i) (v:=v) h;exact .inl ⟨i,t,rfl,e⟩
 | .inr x,v,h=>by
  obtain⟨t,e⟩:=Value.isStrOf_shape (x:=x) (v:=v) h;exact .inr ⟨x,t,rfl,e⟩
theorem keyIs_int (i:Int)(t:Tok):keyIs (.inl i) (.int i t)=true:=by simp[keyIs,Value.isInt]
theorem keyIs_str (x:Str)(t:Tok):keyIs (.inr x) (.str x t)=true:=by simp[keyIs,Value.isStrOf]
theorem key_ll (a b:Int):decide ((Sum.inl a:Key)=Sum.inl b)=(a==b):=by
 by_cases e:a=b
 ·subst e;simp
 ·have h:¬ (Sum.inl a:Key)=Sum.inl b:=fun q=>e (Sum.inl.inj q)
  rw[decide_eq_false h];exact(beq_eq_false_iff_ne.mpr e).symm
theorem key_rr (a b:Str):decide ((Sum.inr a:Key)=Sum.inr b)=decide (a=b):=by
 by_cases e:a=b
 ·subst e;simp
 ·have h:¬ (Sum.inr a:Key)=Sum.inr b:=fun q=>e (Sum.inr.inj q)
  rw[decide_eq_false h,decide_eq_false e]
theorem key_lr (a:Int)(b:Str):decide ((Sum.inl a:Key)=Sum.inr b)=false:=decide_eq_false (fun q=>nomatch q)
theorem key_rl (a:Str)(b:Int):decide ((Sum.inr a:Key)=Sum.inl b)=false:=decide_eq_false (fun q=>nomatch q)
def mixKind (prog:Program)(w:World):PySem.KeyKind prog w Key where
 is:=keyIs
 hash:=keyH w
 inj:=fun v a b ha hb=>by
  rcases keyIs_shape ha with ⟨i,t,rfl,rfl⟩|⟨x,t,rfl,rfl⟩
  ·rcases keyIs_shape hb with ⟨j,u,rfl,e⟩|⟨y,u,rfl,e⟩
   ·injection e with e1 _;rw[e1]
   ·exact nomatch e
  ·rcases keyIs_shape hb with ⟨j,u,rfl,e⟩|⟨y,u,rfl,e⟩
   ·exact nomatch e
   ·injection e with e1 _;rw[e1]
 byValue:=fun k v h=>by
  rcases keyIs_shape h with ⟨i,t,rfl,rfl⟩|⟨x,t,rfl,rfl⟩ <;> rfl
 pyHash:=fun hv h=>by
  rcases keyIs_shape hv with ⟨i,t,rfl,rfl⟩|⟨x,t,rfl,rfl⟩
  ·exact wpAny_pyHash_int h
  ·exact wpAny_pyHash_str h
 eqBool:=fun hu hv h=>by
  rcases keyIs_shape hu with ⟨i,t,rfl,rfl⟩|⟨x,t,rfl,rfl⟩
  ·rcases keyIs_shape hv with ⟨j,u,rfl,rfl⟩|⟨y,u,rfl,rfl⟩
   ·rw[key_ll]at h;exact wpAny_eqBool_int h
   ·rw[key_lr]at h;exact SeqAt.EqAt.int_str i t y u _ _ _ _ h
  ·rcases keyIs_shape hv with ⟨j,u,rfl,rfl⟩|⟨y,u,rfl,rfl⟩
   ·rw[key_rl]at h;exact SeqAt.EqAt.str_int x t j u _ _ _ _ h
   ·rw[key_rr]at h;exact wpAny_eqBool_str h
 «strs»:=fun k x t v h=>by
  rcases keyIs_shape h with ⟨i,u,rfl,e⟩|⟨y,u,rfl,e⟩
  ·exact nomatch e
  ·injection e with e1 _
   subst e1;cases v <;> rfl
theorem mixKind_int (prog:Program)(w:World)(i:Int)(t:Tok):(mixKind prog w).is (.inl i) (.int i t)=true:=keyIs_int i t
theorem mixKind_str (prog:Program)(w:World)(x:Str)(t:Tok):(mixKind prog w).is (.inr x) (.str x t)=true:=keyIs_str x t
end L2
namespace L2
open PySem PySem.Spec PyProof.Rows
inductive V where
 | non | bl (b:Bool) | int (i:Int) | str (x:Str) | byt (b:Array UInt8) | flt (b:UInt64) | ref (a:Addr) | ty (n:String)
 deriving DecidableEq
def RelV:V->Value->Prop
 | .non,u=>u=Value.none
 | .bl b,u=>u=Value.bool b
 | .int i,u=>∃ t,u=Value.int i t
 | .str x,u=>∃ t,u=Value.str x t
 | .byt b,u=>∃ t,u=Value.bytes b t
 | .flt b,u=>∃ t,u=Value.float b t
 | .ref a,u=>u=Value.ref a
 | .ty n,u=>u=Value.type n
abbrev Vals:List V->List Value->Prop:=Paired RelV
theorem Vals.length {xs:List V}{us:List Value}(r:Vals xs us):xs.length=us.length:=Paired.length r
theorem Vals.get:∀ {xs:List V} {us:List Value} {i:Nat} {x:V},Vals xs us->xs[i]?=some x->∃ u,us[i]?=some u/\RelV x u
 | _,_,_,_,.nil,e=>by simp at e
 | _,_,0,_,.cons r _,e=>by simp at e;subst e;exact⟨_,rfl,r⟩
 | _,_,i + 1,x,.cons _ t,e=>by
  obtain⟨u,h1,h2⟩:=Vals.get (i:=i) (x:=x) t (by simpa using e);exact⟨u,by simpa using h1,h2⟩
theorem Vals.set {x:V}{u:Value}(r:RelV x u):∀ {xs:List V} {us:List Value} (i:Nat),Vals xs us->Vals (xs.set i x) (us.set i u)
 | _,_,_,.nil=>.nil
 | _,_,0,.cons _ t=>.cons r t
 | _,_,i + 1,.cons q t=>.cons q (Vals.set r i t)
theorem Vals.append:∀ {xs ys:List V} {us ws:List Value},Vals xs us->Vals ys ws->Vals (xs++ys) (us++ws)
 | _,_,_,_,.nil,s=>s
 | _,_,_,_,.cons r t,s=>.cons r (Vals.append t s)
theorem Vals.take:∀ {xs:List V} {us:List Value} (n:Nat),Vals xs us->Vals (xs.take n) (us.take n)
 | _,_,0,_=>.nil
 | _,_,_ + 1,.nil=>.nil
 | _,_,n + 1,.cons r t=>.cons r (Vals.take n t)
theorem Vals.drop:∀ {xs:List V} {us:List Value} (n:Nat),Vals xs us->Vals (xs.drop n) (us.drop n)
 | _,_,0,r=>r
 | _,_,_ + 1,.nil=>.nil
 | _,_,n + 1,.cons _ t=>Vals.drop n t
theorem Vals.none_of:∀ {xs:List V} {us:List Value} {i:Nat},Vals xs us->xs[i]?=none->us[i]?=none:=fun {xs us i} r e=>by
 have h1:=r.length;have h2:xs.length<=i:=List.getElem?_eq_none_iff.mp e;exact List.getElem?_eq_none_iff.mpr (by first | lia | omega)
def RelO:Option V->Option Value->Prop
 | some v,some u=>RelV v u
 | none,none=>True
 | _,_=>False
def KV {κ:Type}:List (κ×V)->List (κ×Value)->Prop:=Paired fun (p:κ×V) (q:κ×Value)=>p.1=q.1/\RelV p.2 q.2
def kV:Key->V
 | .inl i=>.int i
 | .inr x=>.str x
inductive HO where
 | lst (xs:List V)
 | tup (xs:List V)
 | dK (kvs:List (Key×V)) | dT (kvs:List (List Key×V)) | dTT (kvs:List (List (List Key)×V))
 | set (S:Int->Bool) (n:Nat)
 | ins (C dx:Addr) (fs:List (Str×V))
 | own (x:Addr)
 | xd (fs:List (Str×V))
 | met (f x:Addr)
 | rng (lo hi:Int)
 | frz (o:Obj) (u:HO)
 | tbl (ps:Array Value)
 | ext (φ:Heap->Prop)
abbrev Hp:=Addr->Option HO
def upd (H:Hp)(a:Addr)(o:HO):Hp:=fun b=>if b=a then some o else H b
theorem upd_same {H:Hp}{a:Addr}{o:HO}:upd H a o a=some o:=by unfold upd;rw[if_pos rfl]
theorem upd_ne {H:Hp}{a b:Addr}{o:HO}(h:b≠a):upd H a o b=H b:=by unfold upd;rw[if_neg h]
theorem upd_upd {H:Hp}{a:Addr}{o u:HO}:upd (upd H a o) a u=upd H a u:=by
 funext b;unfold upd;split <;> rfl
theorem ne_of {H:Hp}{a b:Addr}{o u:HO}(h:H a=some o)(h':H b=some u)(d:o≠u):a≠b:=by
 intro e;subst e;rw[h]at h';exact d (Option.some.inj h')
theorem ne_of_none {H:Hp}{a b:Addr}{o:HO}(h:H a=some o)(h':H b=none):a≠b:=by
 intro e;subst e;rw[h]at h';cases h'
def TupN (h:Heap)(a:Addr)(items:Array Value):Prop:=IsTup h a items/\∀ o,h.get? a=some o->o.dict=none/\o.slots = #[]
theorem TupN.new (h:Heap)(items:Array Value):TupN (h.push { cls:=.type "tuple",data:=.seq items }) h.objs.size items:=⟨IsTup.new _ _,fun o e=>by
 rw[Heap.get?_push_size _ rfl]at e;cases e;exact⟨rfl,rfl⟩⟩
def KeyAt (H:Hp)(k:List (List Key))(b:Addr):Prop:=∃ bs:List Addr,H b=some (.tup (bs.map V.ref))/\Paired (fun ks c=>H c=some (.tup (ks.map kV))) k bs
section
variable (P:Program)(w:World)
def ObjOk (H:Hp)(h:Heap)(a:Addr):HO->Prop
 | .lst xs=>xs.length<=sizeLine/\∃ (its:List Value) (n:Nat),Vals xs its/\h.get? a=some { cls:=.type "list",data:=.seq its.toArray n }
 | .tup xs=>xs.length<=sizeLine/\∃ its:List Value,Vals xs its/\TupN h a its.toArray
 | .dK kvs=>kvs.length<=sizeLine/\(a==sysModules)=false/\∃ vs,KV kvs vs/\h.DictOf (mixKind P w) a vs
 | .dT kvs=>kvs.length<=sizeLine/\(a==sysModules)=false/\∃ xs:List (List Key×Addr×Value),
   Paired (fun (p:List Key×V) (q:List Key×Addr×Value)=>p.1=q.1/\H q.2.1=some (.tup (p.1.map kV))/\RelV p.2 q.2.2) kvs xs /\
   ∃ o es ep,h.get? a=some o/\o.ExactDict/\o.data=.dict es ep/\es.toList=xs.map (entryOfKey (tupleKind (mixKind P w)))/\(xs.map (·.1)).Nodup
 | .dTT kvs=>kvs.length<=sizeLine/\(a==sysModules)=false/\∃ xs:List (List (List Key)×Addr×Value),
   Paired (fun p q=>p.1=q.1/\KeyAt H p.1 q.2.1/\RelV p.2 q.2.2) kvs xs/\∃ o es ep,h.get? a=some o/\o.ExactDict/\o.data=.dict es ep/\es.toList=xs.map (entryOfKey (L3.kind2 (mixKind P w)))/\(xs.map (·.1)).Nodup
 | .set S n=>h.SetOf (intKind P w) a S n
 | .ins C dx fs=>H dx=some (.own a)/\fs.length<=1000/\dx≠a/\h.get? a=some (PySem.W.instObj C dx) /\
   ∃ mA,h.Ns1 dx mA/\(∀ f,RelO (fs.lookup f) (mA f))/\PySem.Within mA (fs.map (·.1))
 | .own _=>∃ o,h.get? a=some o
 | .xd fs=>∃ mA,h.Ns1 a mA/\∀ f,RelO (fs.lookup f) (mA f)
 | .rng lo hi=>∃ t u v,h.get? a=some { cls:=.type "range",data:=.fields #[.int lo t,.int hi u,.int 1 v] }
 | .frz o u=>h.get? a=some o/\ObjOk H h a u
 | .tbl ps=>h.get? a=some { cls:=.none,data:=.fields ps }
 | .met f x=>h.get? a=some (PySem.W.methodObj (.ref f) (.ref x))
 | .ext φ=>φ h/\(∃ o,h.get? a=some o)/\∀ h1 h2:Heap,φ h1->(∀ o,h1.get? a=some o->h2.get? a=some o)->φ h2
def HOk (H:Hp)(h:Heap):Prop:=∀ a o,H a=some o->ObjOk P w H h a o
end
section
variable {P:Program}{w:World}{H H':Hp}{h h':Heap}{a:Addr}{o:HO}
theorem ObjOk.lt (x:ObjOk P w H h a o):a < h.objs.size:=by
 cases o with
 | lst xs=>obtain⟨_,_,_,_,e⟩:=x;exact Heap.lt_size e
 | tup xs=>obtain⟨_,_,_,p,_⟩:=x;exact p.lt
 | dK kvs=>obtain⟨_,_,_,_,o,_,_,e,_⟩:=x;exact Heap.lt_size e
 | dT kvs=>obtain⟨_,_,_,_,o,_,_,e,_⟩:=x;exact Heap.lt_size e
 | dTT kvs=>obtain⟨_,_,_,_,o,_,_,e,_⟩:=x;exact Heap.lt_size e
 | set S n=>obtain⟨o,_,_,_,e,_⟩:=x;exact Heap.lt_size e
 | ins C dx fs=>obtain⟨_,_,_,e,_⟩:=x;exact Heap.lt_size e
 | own y=>obtain⟨_,e⟩:=x;exact Heap.lt_size e
 | xd fs=>obtain⟨_,⟨_,_,_,e,_⟩,_⟩:=x;exact Heap.lt_size e
 | rng lo hi=>obtain⟨_,_,_,e⟩:=x;exact Heap.lt_size e
 | frz ob u=>obtain⟨e,_⟩:=x;exact Heap.lt_size e
 | tbl ps=>exact Heap.lt_size (show h.get? a=some _ from x)
 | met f y=>exact Heap.lt_size (show h.get? a=some _ from x)
 | ext φ=>obtain⟨_,⟨_,e⟩,_⟩:=x;exact Heap.lt_size e
theorem Paired.mapP {α β:Type}{F G:α->β->Prop}:∀ {l₁:List α} {l₂:List β},Paired F l₁ l₂->(∀ a b,F a b->G a b)->Paired G l₁ l₂
 | _,_,.nil,_=>.nil
 | _,_,.cons r t,f=>.cons (f _ _ r) (Paired.mapP t f)
theorem ObjOk.stay (x:ObjOk P w H h a o)(k:∀ b u,(b=a\/H b=some (.own a))->h.get? b=some u->h'.get? b=some u)
  (ho:∀ b,H b=some (.own a)->H' b=some (.own a)) (ht:∀ b xs,H b=some (.tup xs)->H' b=some (.tup xs)):ObjOk P w H' h' a o:=by
 induction o with
 | lst xs=>obtain⟨z,its,n,r,e⟩:=x;exact⟨z,its,n,r,k _ _ (.inl rfl) e⟩
 | tup xs =>
  obtain⟨z,its,r,⟨ob,e,c⟩,d⟩:=x;have e':=k _ _ (.inl rfl) e;exact⟨z,its,r,⟨ob,e',c⟩,fun o q=>by rw[e']at q;cases q;exact d _ e⟩
 | dK kvs=>obtain⟨z,y,vs,r,ob,es,ep,e,c⟩:=x;exact⟨z,y,vs,r,ob,es,ep,k _ _ (.inl rfl) e,c⟩
 | dT kvs =>
  obtain⟨z,y,xs,r,ob,es,ep,e,c⟩:=x;exact⟨z,y,xs,Paired.mapP r fun p q z=>⟨z.1,ht _ _ z.2.1,z.2.2⟩,ob,es,ep,k _ _ (.inl rfl) e,c⟩
 | dTT kvs =>
  obtain⟨z,y,xs,r,ob,es,ep,e,c⟩:=x;exact⟨z,y,xs,Paired.mapP r fun p q z=>⟨z.1,let ⟨bs,h1,h2⟩:=z.2.1;⟨bs,ht _ _ h1,Paired.mapP h2 fun _ _ w=>ht _ _ w⟩,z.2.2⟩,ob,es,ep,k _ _ (.inl rfl) e,c⟩
 | set S n=>obtain⟨ob,es,ep,t,e,c⟩:=x;exact⟨ob,es,ep,t,k _ _ (.inl rfl) e,c⟩
 | ins C dx fs =>
  obtain⟨d,z,ne,e,mA,⟨od,es,ep,e2,c⟩,r⟩:=x;exact⟨ho _ d,z,ne,k _ _ (.inl rfl) e,mA,⟨od,es,ep,k _ _ (.inr d) e2,c⟩,r⟩
 | own y=>obtain⟨ob,e⟩:=x;exact⟨ob,k _ _ (.inl rfl) e⟩
 | xd fs=>obtain⟨mA,⟨od,es,ep,e,c⟩,r⟩:=x;exact⟨mA,⟨od,es,ep,k _ _ (.inl rfl) e,c⟩,r⟩
 | rng lo hi=>obtain⟨t,u,v,e⟩:=x;exact⟨t,u,v,k _ _ (.inl rfl) e⟩
 | frz ob u ih=>obtain⟨e,q⟩:=x;exact⟨k _ _ (.inl rfl) e,ih q⟩
 | tbl ps =>
  have e:h.get? a=some { cls:=.none,data:=.fields ps }:=x;show h'.get? a=some { cls:=.none,data:=.fields ps };exact k a _ (.inl rfl) e
 | met f y =>
  have e:h.get? a=some (PySem.W.methodObj (.ref f) (.ref y)):=x;show h'.get? a=some (PySem.W.methodObj (.ref f) (.ref y));exact k a _ (.inl rfl) e
 | ext φ=>obtain⟨p,⟨o,e⟩,st⟩:=x;exact⟨st _ _ p fun o q=>k _ _ (.inl rfl) q,⟨o,k _ _ (.inl rfl) e⟩,st⟩
theorem HOk.lt (x:HOk P w H h)(e:H a=some o):a < h.objs.size:=(x a o e).lt
theorem HOk.fresh (x:HOk P w H h)(e:h.objs.size<=a):H a=none:=by
 cases q:H a with
 | none=>rfl
 | some u=>exact absurd (Nat.lt_of_lt_of_le (x.lt q) e) (Nat.lt_irrefl _)
theorem HOk.kept (x:HOk P w H h)(k:∀ b u,h.get? b=some u->h'.get? b=some u):HOk P w H h':=fun a o e =>
 (x a o e).stay (fun b u _ q=>k b u q) (fun _ q=>q) fun _ _ q=>q
theorem HOk.laid (x:HOk P w H h)(k:∀ b u,h.get? b=some u->h'.get? b=some u)(hp:h.objs.size<=a)(new:ObjOk P w (upd H a o) h' a o):HOk P w (upd H a o) h':=fun b u e=>by
 have hn:=x.fresh hp;by_cases hb:b=a
 ·subst hb;rw[upd_same]at e;cases e;exact new
 ·rw[upd_ne hb]at e
  exact(x b u e).stay (fun c v _ q=>k c v q) (fun c q=>by rw[upd_ne (ne_of_none q hn)];exact q) fun c xs q=>by rw[upd_ne (ne_of_none q hn)];exact q
end
def Rd (H:Hp)(a:Addr)(u:HO):Prop:=H a=some u\/∃ o,H a=some (.frz o u)
theorem Rd.ok {P:Program}{w:World}{H:Hp}{h:Heap}{a:Addr}{u:HO}(r:Rd H a u)(x:HOk P w H h):ObjOk P w H h a u:=by
 rcases r with r | ⟨o,r⟩
 ·exact x a u r
 ·obtain⟨_,q⟩:=x a _ r
  exact q
def Mut:Option HO->Prop
 | some (.lst _)=>True
 | some (.dK _)=>True
 | some (.dT _)=>True
 | some (.dTT _)=>True
 | some (.set _ _)=>True
 | some (.ins _ _ _)=>True
 | some (.ext _)=>True
 | _=>False
section
variable {P:Program}{w:World}{H:Hp}{h h':Heap}{x e:Addr}{o':HO}
theorem HOk.write (ok:HOk P w H h)(mu:Mut (H x))(he:e=x\/H e=some (.own x))(k:∀ b u,b≠e->h.get? b=some u->h'.get? b=some u)(heo:∃ u,h'.get? e=some u)
  (new:ObjOk P w (upd H x o') h' x o'):HOk P w (upd H x o') h':=fun b u q=>by
 have nown:∀ c y,H c=some (.own y)->c≠x:=fun c y r z=>by subst z;rw[r]at mu;exact mu
 have ntup:∀ c xs,H c=some (.tup xs)->c≠x:=fun c xs r z=>by subst z;rw[r]at mu;exact mu
 by_cases hb:b=x
 ·subst hb;rw[upd_same]at q;cases q;exact new
 ·rw[upd_ne hb]at q
  by_cases hbe:b=e
  ·have q':H b=some (.own x):=by
    rcases he with z | z
    ·exact absurd (hbe.trans z) hb
    ·rw[hbe];exact z
   rw[q]at q';cases q';obtain⟨v,hv⟩:=heo;exact⟨v,by rw[hbe];exact hv⟩
  ·refine(ok b u q).stay (fun c v hc r=>k c v ?_ r) (fun c r=>by rw[upd_ne (nown c b r)];exact r) fun c xs r=>by rw[upd_ne (ntup c xs r)];exact r
   rcases hc with rfl | hc
   ·exact hbe
   ·rintro rfl
    rcases he with z | z
    ·exact nown c b hc z
    ·rw[hc]at z;cases z;exact hb rfl
end
structure Un (fs ex:List Addr) (H H':Hp) (h h':Heap):Prop where
 keep:∀ b o,h.get? b=some o->H b=none->b ∉ fs->b ∉ ex->h'.get? b=some o
 slot:∀ b o,h.get? b=some o->H b=none->b∈fs->b ∉ ex->∃ sl,h'.get? b=some { o with slots:=sl }
 free:∀ b o,h.get? b=some o->H b=none->b ∉ ex->H' b=none
 there:∀ b o,h.get? b=some o->b ∉ ex->∃ o',h'.get? b=some o'
 tups:∀ b xs,H b=some (.tup xs)->H' b=some (.tup xs)
 frzs:∀ b o u,H b=some (.frz o u)->H' b=some (.frz o u)
 tbls:∀ b ps,H b=some (.tbl ps)->∃ more,H' b=some (.tbl (ps++more))
section
variable {fs fs' ex ex':List Addr}{H H1 H2:Hp}{h h1 h2 h':Heap}{a x e:Addr}{o:HO}
theorem Un.any (u:Un fs ex H H1 h h1){b:Addr}{ob:Obj}(q:h.get? b=some ob)(n:H b=none)(hx:b ∉ ex):∃ sl,h1.get? b=some { ob with slots:=sl }:=by
 by_cases hb:b∈fs
 ·exact u.slot b ob q n hb hx
 ·exact⟨ob.slots,u.keep b ob q n hb hx⟩
theorem Un.kept (k:∀ b u,h.get? b=some u->h'.get? b=some u):Un fs ex H H h h' :=
 ⟨fun b ob q _ _ _=>k b ob q,fun b ob q _ _ _=>⟨ob.slots,k b ob q⟩,fun _ _ _ n _=>n,fun b ob q _=>⟨ob,k b ob q⟩,fun _ _ q=>q,fun _ _ _ q=>q,fun _ ps q=>⟨#[],by rw[q];simp⟩⟩
theorem Un.refl:Un fs ex H H h h:=Un.kept fun _ _ q=>q
theorem Un.laid (k:∀ b u,h.get? b=some u->h'.get? b=some u)(hp:h.objs.size<=a)(hn:H a=none):Un fs ex H (upd H a o) h h' where
 keep:=fun b u q _ _ _=>k b u q
 slot:=fun b u q _ _ _=>⟨u.slots,k b u q⟩
 free:=fun b u q n _=>by rw[upd_ne (Nat.ne_of_lt (Nat.lt_of_lt_of_le (Heap.lt_size q) hp))];exact n
 there:=fun b u q _=>⟨u,k b u q⟩
 tups:=fun b xs q=>by rw[upd_ne (ne_of_none q hn)];exact q
 frzs:=fun b u xs q=>by rw[upd_ne (ne_of_none q hn)];exact q
 tbls:=fun b ps q=>⟨#[],by rw[upd_ne (ne_of_none q hn),q];simp⟩
theorem Un.write (mu:Mut (H x))(he:e=x\/H e=some (.own x))(k:∀ b u,b≠e->h.get? b=some u->h'.get? b=some u)(heo:∃ u,h'.get? e=some u):Un fs ex H (upd H x o) h h':=by
 have hx:∀ b,H b=none->b≠x:=fun b n z=>by subst z;rw[n]at mu;exact mu
 have hb:∀ b,H b=none->b≠e:=fun b n z=>by
  subst z;rcases he with r | r
  ·exact hx b n r
  ·rw[n]at r;cases r
 have hm:∀ b u,H b=some u->¬ Mut (some u)->b≠x:=fun b u q nm z=>by subst z;rw[q]at mu;exact nm mu
 refine⟨fun b u q n _ _=>k b u (hb b n) q,fun b u q n _ _=>⟨u.slots,k b u (hb b n) q⟩,fun b u q n _=>by rw[upd_ne (hx b n)];exact n,fun b u q _=>?_,
  fun b xs q=>by rw[upd_ne (hm b _ q fun z=>z)];exact q,fun b u xs q=>by rw[upd_ne (hm b _ q fun z=>z)];exact q,fun b ps q=>⟨#[],by rw[upd_ne (hm b _ q fun z=>z),q];simp⟩⟩
 by_cases hbe:b=e
 ·subst hbe;exact heo
 ·exact⟨u,k b u hbe q⟩
end
def trk (h:Heap)(H:Hp):List Addr:=(List.range h.objs.size).filter fun a=>(H a).isSome
def hidT (h:Heap)(H:Hp):Heap:=PySem.W.hideAll h (trk h H)
theorem hidT_size (h:Heap)(H:Hp):(hidT h H).objs.size=h.objs.size:=PySem.W.hideAll_size _ _
theorem hidT_get {h:Heap}{H:Hp}{b:Addr}{o:Obj}(e:h.get? b=some o)(n:H b=none):(hidT h H).get? b=some o :=
 PySem.W.hideAll_get _ e fun hm=>by
  have q:(H b).isSome=true:=(List.mem_filter.mp hm).2;rw[n]at q;simp at q
theorem of_hidT {h:Heap}{H:Hp}{b:Addr}{o:Obj}(e:(hidT h H).get? b=some o):h.get? b=some o/\H b=none:=by
 have e':h.get? b=some o:=PySem.W.of_hideAll (trk h H) e;refine⟨e',?_⟩;cases q:H b with
 | none=>rfl
 | some x =>
  have hm:b∈trk h H:=List.mem_filter.mpr ⟨List.mem_range.mpr (Heap.lt_size e'),by simp[q]⟩;have z:(hidT h H).get? b=none:=PySem.W.hideAll_none (trk h H) hm;rw[z]at e;cases e
end L2
namespace L2
open PySem PySem.Spec PyProof.Rows
structure Mod (K:PySem.W.Frag) (mg:Str->Option Value) (base:Heap):Prop where
 kin:K.In base
 glob:base.Ns mainGlobals mg
 blt:∃ mb,base.Ns builtinsNs mb/\∀ x:Str,x≠"__name__"->mb x=bootBuiltins x
 nolimit:base.NoLimit
/-- the context: a def's body (or a comprehension's block) running. base: fixed through the whole law;s₀,H₀: the entry;outer: the frames whose slots others may change (a def's callers);stack: all frames that run;
   ex: iterators that were made ahead of the entry and are walked here (a comprehension's);fn: the names whose cells were made at the entry (a def: all;a comprehension's block: its own);calm: not within an except suite;pn: pins that every state bears;xe: what is wanted of an exception that leaves the code -/
structure Cx where
 prog:Program
 w:World
 K:PySem.W.Frag
 mg:Str->Option Value
 base:Heap
 A:Around
 N:List Str
 s₀:Shared
 H₀:Hp
 env:Env
 outer:List Env
 stack:List Env
 ex:List Addr
 fn:Str->Bool
 calm:Bool
 pn:List (Addr×Obj)
 xe:Value->Shared->Prop
def frs (l:List Env):List Addr:=l.filterMap (·.frame)
abbrev Cx.fs (X:Cx):List Addr:=frs X.outer
def Vis (sc:Scope)(x:Str):Prop:=sc.names.lookup x=some .local\/sc.names.lookup x=some .cell\/sc.names.lookup x=some .free
def Loc (sc:Scope)(x:Str):Prop:=sc.names.lookup x=some .local\/sc.names.lookup x=some .cell
def Look (env:Env)(h:Heap)(m:Str->Option Value)(x:Str)(u:Value):Prop :=
 (env.kindOf x=some .local/\m x=some u)\/((env.kindOf x=some .cell\/env.kindOf x=some .free)/\∃ c,env.cells.lookup x=some c/\h.IsCell c (some u))
structure Cx.Ok (X:Cx):Prop where
 mod:Mod X.K X.mg X.base
 kind:X.env.scope.kind=.function
 glob:X.env.globals=mainGlobals
 blt:X.env.builtins=builtinsNs
 above:X.s₀.heap.objs.size<=X.env.locals
 inj:∀ x y c,X.env.cells.lookup x=some c->X.env.cells.lookup y=some c->x=y
 has:∀ x,(X.env.kindOf x=some .cell\/X.env.kindOf x=some .free)->∃ c,X.env.cells.lookup x=some c
 cab:∀ x c,X.fn x=true->X.env.cells.lookup x=some c->X.s₀.heap.objs.size<=c
 hd:X.calm=true->X.A.handled=none
 frames:X.A.frames=some X.stack
 stk:X.stack=X.outer\/(X.stack=X.env::X.outer/\X.env.frame=some X.env.locals)
 exf:∀ b∈X.ex,b≠X.env.locals/\∀ x c,X.env.cells.lookup x=some c->c≠b
 bs:∀ b o,X.base.get? b=some o->X.s₀.heap.get? b=some o/\X.H₀ b=none
 bsz:X.base.objs.size<=X.s₀.heap.objs.size
 noex:∀ b o,X.base.get? b=some o->b ∉ X.ex
 exfs:∀ b∈X.ex,b ∉ X.fs
 funs:X.s₀.heap.FunFrames X.base X.outer
 frf:∀ b∈X.fs,X.H₀ b=none
structure Inv (X:Cx) (pins:List (Addr×Obj)) (σ:List (Option V)) (H:Hp) (s:Shared):Prop where
 ok:X.Ok
 os:s.os=X.s₀.os
 bare:AllBare s.gens
 base:Un X.fs X.ex X.H₀ H X.s₀.heap s.heap
 loc:∃ m,s.heap.Ns X.env.locals m/\∀ (i:Nat) (x:Str) (v:V),X.N[i]?=some x->σ[i]?=some (some v)->Vis X.env.scope x->∃ u,RelV v u/\Look X.env s.heap m x u
 cell:∀ x c,X.env.cells.lookup x=some c->∃ v,s.heap.IsCell c v
 free:H X.env.locals=none
 freeC:∀ x c,X.env.cells.lookup x=some c->H c=none
 pin:∀ p∈X.pn++pins,s.heap.get? p.1=some p.2/\H p.1=none/\p.1≠X.env.locals/\p.1 ∉ X.fs/\∀ v,p.2.data≠.cell v
 hok:HOk X.prog X.w H s.heap
 len:σ.length=X.N.length
section
variable {X:Cx}{pins:List (Addr×Obj)}{σ:List (Option V)}{H H':Hp}{s:Shared}{h':Heap}
theorem Cx.Ok.nofr (ok:X.Ok){b:Addr}{o:Obj}(e:X.base.get? b=some o):b ∉ X.fs:=fun hb=>by
 have:=(ok.funs.mem hb).1
 rw[e]at this;cases this
theorem Inv.bs (I:Inv X pins σ H s):∀ b o,X.base.get? b=some o->s.heap.get? b=some o/\H b=none:=fun b o e =>
 ⟨I.base.keep b o (I.ok.bs b o e).1 (I.ok.bs b o e).2 (I.ok.nofr e) (I.ok.noex b o e),I.base.free b o (I.ok.bs b o e).1 (I.ok.bs b o e).2 (I.ok.noex b o e)⟩
theorem Inv.bk (I:Inv X pins σ H s):∀ b o,X.base.get? b=some o->s.heap.get? b=some o:=fun b o e=>(I.bs b o e).1
theorem Inv.mod (I:Inv X pins σ H s):Mod X.K X.mg X.base:=I.ok.mod
theorem Inv.kIn (I:Inv X pins σ H s):X.K.In s.heap:=I.ok.mod.kin.keeps I.bk
theorem Inv.lt (I:Inv X pins σ H s):X.env.locals < s.heap.objs.size:=let ⟨_,hn,_⟩:=I.loc;hn.lt
theorem Inv.sz (I:Inv X pins σ H s):X.s₀.heap.objs.size<=s.heap.objs.size:=Nat.le_trans I.ok.above (Nat.le_of_lt I.lt)
theorem Inv.nofs (I:Inv X pins σ H s){a:Addr}(h:s.heap.objs.size<=a):a ∉ X.fs:=fun hb=>by
 obtain⟨_,o,ho,_⟩:=I.ok.funs.mem hb;exact absurd (Nat.lt_of_lt_of_le (Heap.lt_size ho) (Nat.le_trans I.sz h)) (Nat.lt_irrefl _)
theorem Inv.cne (I:Inv X pins σ H s):∀ x c,X.env.cells.lookup x=some c->c≠X.env.locals:=fun x c e z=>by
 obtain⟨v,o,ho,hd⟩:=I.cell x c e;obtain⟨m,⟨o',es,ep,ho',hd',_⟩,_⟩:=I.loc;rw[z,ho']at ho;cases ho;rw[hd']at hd;cases hd
theorem Inv.funs (I:Inv X pins σ H s):s.heap.FunFrames X.base X.outer:=by
 have all:∀ (l:List Env),(∀ b∈frs l,b∈X.fs)->X.s₀.heap.FunFrames X.base l->s.heap.FunFrames X.base l:=by
  intro l;induction l with
  | nil=>intro _ _;trivial
  | cons env r ih =>
   intro hs hl;obtain⟨hk,⟨L,o,hf,hn,ho,hd⟩,hr⟩:=hl;have hL:L∈X.fs:=hs L (by unfold frs;rw[List.filterMap_cons,hf];exact List.mem_cons_self);obtain⟨sl,e⟩:=I.base.slot L o ho (I.ok.frf L hL) hL fun z=>I.ok.exfs L z hL;exact⟨hk,⟨L,_,hf,hn,e,hd⟩,ih (fun b hb=>hs b (by unfold frs;rw[List.filterMap_cons,hf];exact List.mem_cons_of_mem _ hb)) hr⟩
 exact all X.outer (fun _ hb=>hb) I.ok.funs
theorem Inv.stack (I:Inv X pins σ H s):s.heap.FunFrames X.base X.stack:=by
 rcases I.ok.stk with e | ⟨e,hf⟩
 ·rw[e];exact I.funs
 ·rw[e]
  obtain⟨m,hn,_⟩:=I.loc;refine .cons (by rw[I.ok.kind];decide) hf hn ?_ I.funs;exact Heap.get?_none_of_le (Nat.le_trans I.ok.bsz I.ok.above)
theorem Inv.stkSub (I:Inv X pins σ H s):∀ b∈frs X.stack,b∈X.env.locals::X.fs:=fun b hb=>by
 rcases I.ok.stk with e | ⟨e,hf⟩
 ·rw[e]at hb;exact List.mem_cons_of_mem _ hb
 ·rw[e]at hb
  unfold frs at hb;rw[List.filterMap_cons,hf]at hb;exact hb
theorem Inv.stkFree (I:Inv X pins σ H s):∀ b∈frs X.stack,H b=none:=fun b hb=>by
 rcases List.mem_cons.mp (I.stkSub b hb) with e | hb
 ·rw[e];exact I.free
 ·obtain⟨_,o,ho,_⟩:=I.ok.funs.mem hb
  exact I.base.free b o ho (I.ok.frf b hb) fun z=>I.ok.exfs b z hb
theorem Inv.step {g':Array GenState}{t':Nat}{d':Drawn}{ch:List Addr}(I:Inv X pins σ H s)
  (hch:∀ b∈ch,(b∈X.ex\/X.s₀.heap.objs.size<=b)/\b≠X.env.locals/\(∀ x c,X.env.cells.lookup x=some c->c≠b)/\∀ p∈X.pn++pins,p.1≠b)
  (keep:∀ b o,b≠X.env.locals->b ∉ X.fs->b ∉ ch->s.heap.get? b=some o->H b=none->h'.get? b=some o)
  (slot:∀ b o,b≠X.env.locals->b∈X.fs->b ∉ ch->s.heap.get? b=some o->H b=none->∃ sl,h'.get? b=some { o with slots:=sl }) (free:∀ b o,b ∉ ch->s.heap.get? b=some o->H b=none->H' b=none)
  (there:∀ b o,b ∉ ch->s.heap.get? b=some o->∃ o',h'.get? b=some o')
  (tups:∀ b xs,H b=some (.tup xs)->H' b=some (.tup xs)) (frzs:∀ b o u,H b=some (.frz o u)->H' b=some (.frz o u)) (tbls:∀ b ps,H b=some (.tbl ps)->∃ more,H' b=some (.tbl (ps++more)))
  (ns:∀ m,s.heap.Ns X.env.locals m->h'.Ns X.env.locals m) (hok:HOk X.prog X.w H' h') (hg:AllBare g') :
  Inv X pins σ H' { s with heap:=h',gens:=g',drawn:=d',toks:=t' }:=by
 have neL:∀ b o,X.s₀.heap.get? b=some o->b≠X.env.locals:=fun b o e=>Nat.ne_of_lt (Nat.lt_of_lt_of_le (Heap.lt_size e) I.ok.above);have neC:∀ b o,X.s₀.heap.get? b=some o->b ∉ X.ex->b ∉ ch:=fun b o e hx hb=>by
  rcases (hch b hb).1 with z | z
  ·exact hx z
  ·exact absurd (Nat.lt_of_lt_of_le (Heap.lt_size e) z) (Nat.lt_irrefl _)
 have cellK:∀ x c,X.env.cells.lookup x=some c->∀ v,s.heap.IsCell c v->h'.IsCell c v:=fun x c e v ⟨o,ho,hd⟩=>by
  have nch:c ∉ ch:=fun z=>(hch c z).2.2.1 x c e rfl;by_cases hc:c∈X.fs
  ·obtain⟨sl,q⟩:=slot c o (I.cne x c e) hc nch ho (I.freeC x c e)
   exact⟨_,q,hd⟩
  ·exact⟨o,keep c o (I.cne x c e) hc nch ho (I.freeC x c e),hd⟩
 refine⟨I.ok,I.os,hg,⟨fun b o e n hb hx=>?_,fun b o e n hb hx=>?_,fun b o e n hx=>?_,fun b o e hx=>?_,fun b xs e=>tups b xs (I.base.tups b xs e),fun b o xs e=>frzs b o xs (I.base.frzs b o xs e),fun b ps e=>?_⟩,?_,fun x c e=>?_,?_,fun x c e=>?_,fun p hp=>?_,hok,I.len⟩
 ·exact keep b o (neL b o e) hb (neC b o e hx) (I.base.keep b o e n hb hx) (I.base.free b o e n hx)
 ·obtain⟨sl,e1⟩:=I.base.slot b o e n hb hx
  obtain⟨sl',e2⟩:=slot b _ (neL b o e) hb (neC b o e hx) e1 (I.base.free b o e n hx);exact⟨sl',e2⟩
 ·obtain⟨o',e1⟩:=I.base.there b o e hx
  exact free b o' (neC b o e hx) e1 (I.base.free b o e n hx)
 ·obtain⟨o',e1⟩:=I.base.there b o e hx
  exact there b o' (neC b o e hx) e1
 ·obtain⟨m1,e1⟩:=I.base.tbls b ps e
  obtain⟨m2,e2⟩:=tbls b _ e1;exact⟨m1++m2,by rw[e2,Array.append_assoc]⟩
 ·obtain⟨m,hn,hl⟩:=I.loc
  refine⟨m,ns m hn,fun i x v e1 e2 e3=>?_⟩;obtain⟨u,r,l⟩:=hl i x v e1 e2 e3;refine⟨u,r,?_⟩;rcases l with l | ⟨k,c,e,z⟩
  ·exact .inl l
  ·exact .inr ⟨k,c,e,cellK x c e _ z⟩
 ·obtain⟨v,z⟩:=I.cell x c e
  exact⟨v,cellK x c e v z⟩
 ·obtain⟨m,⟨o,_,_,ho,_⟩,_⟩:=I.loc
  exact free _ o (fun z=>(hch _ z).2.1 rfl) ho I.free
 ·obtain⟨v,o,ho,hd⟩:=I.cell x c e
  exact free c o (fun z=>(hch c z).2.2.1 x c e rfl) ho (I.freeC x c e)
 ·obtain⟨e,n,ne,nf,d⟩:=I.pin p hp
  have nch:p.1 ∉ ch:=fun z=>(hch p.1 z).2.2.2 p hp rfl;exact⟨keep p.1 p.2 ne nf nch e n,free p.1 p.2 nch e n,ne,nf,d⟩
theorem Inv.un {t':Nat}(I:Inv X pins σ H s)(u:Un X.fs [] H H' s.heap h')(hok:HOk X.prog X.w H' h'):Inv X pins σ H' { s with heap:=h',toks:=t' }:=by
 obtain⟨m,⟨o,es,ep,ho,r⟩,_⟩:=id I.loc;obtain⟨sl,hL⟩:=u.any ho I.free (by simp);exact I.step (g':=s.gens) (d':=s.drawn) (ch:=[]) (fun _ z=>nomatch z) (fun b o _ hb _ e n=>u.keep b o e n hb (by simp)) (fun b o _ hb _ e n=>u.slot b o e n hb (by simp)) (fun b o _ e n=>u.free b o e n (by simp)) (fun b o _ e=>u.there b o e (by simp)) u.tups u.frzs u.tbls (fun m' hm=>by
  obtain⟨o',es',ep',ho',r'⟩:=hm;rw[ho]at ho';cases ho';exact⟨_,es',ep',hL,r'⟩) hok I.bare
theorem Inv.call {g':Array GenState}{t':Nat}{d':Drawn}{ch:List Addr}(I:Inv X pins σ H s)(u:Un (frs X.stack) ch H H' s.heap h')(hok:HOk X.prog X.w H' h')(hg:AllBare g')
  (hch:∀ b∈ch,(b∈X.ex\/X.s₀.heap.objs.size<=b)/\b≠X.env.locals/\(∀ x c,X.env.cells.lookup x=some c->c≠b)/\∀ p∈X.pn++pins,p.1≠b) :
  Inv X pins σ H' { s with heap:=h',gens:=g',drawn:=d',toks:=t' }:=by
 obtain⟨m,⟨o,es,ep,ho,r⟩,_⟩:=id I.loc;obtain⟨sl,hL⟩:=u.any ho I.free fun z=>(hch _ z).2.1 rfl;exact I.step (ch:=ch) hch (fun b o hL hb hc e n=>u.keep b o e n (fun z=>(List.mem_cons.mp (I.stkSub b z)).elim hL hb) hc) (fun b o _ _ hc e n=>u.any e n hc) (fun b o hc e n=>u.free b o e n hc) (fun b o hc e=>u.there b o e hc) u.tups u.frzs u.tbls (fun m' hm=>by
  obtain⟨o',es',ep',ho',r'⟩:=hm;rw[ho]at ho';cases ho';exact⟨_,es',ep',hL,r'⟩) hok hg
theorem Inv.turned {t':Nat}{it:Addr}(I:Inv X pins σ H s)(k:∀ b o,b≠it->s.heap.get? b=some o->h'.get? b=some o)(hn:H it=none)(hL:it≠X.env.locals)
  (h1:it∈X.ex\/X.s₀.heap.objs.size<=it) (h2:∀ x c,X.env.cells.lookup x=some c->c≠it) (h3:∀ p∈X.pn++pins,p.1≠it):Inv X pins σ H { s with heap:=h',toks:=t' }:=by
 have nit:∀ b u,H b=some u->b≠it:=fun b u e z=>by rw[z,hn]at e;cases e
 refine I.step (g':=s.gens) (d':=s.drawn) (ch:=[it]) (fun b hb=>?_) (fun b o _ _ hc e _=>k b o (fun z=>hc (by simp[z])) e) (fun b o _ _ hc e _=>⟨o.slots,k b o (fun z=>hc (by simp[z])) e⟩) (fun _ _ _ _ n=>n)
  (fun b o hc e=>⟨o,k b o (fun z=>hc (by simp[z])) e⟩) (fun _ _ e=>e) (fun _ _ _ e=>e) (fun b ps e=>⟨#[],by rw[e];simp⟩) (fun m hm=>?_) (fun b u e=>?_) I.bare
 ·have e:b=it:=by simpa using hb
  subst e;exact⟨h1,hL,h2,h3⟩
 ·obtain⟨o,es,ep,ho,r⟩:=hm
  exact⟨o,es,ep,k _ o (Ne.symm hL) ho,r⟩
 ·refine(I.hok b u e).stay (fun c v hc q=>k c v ?_ q) (fun _ q=>q) fun _ _ q=>q
  rcases hc with z | z
  ·rw[z];exact nit b u e
  ·exact nit c _ z
theorem Inv.tok (I:Inv X pins σ H s)(t:Nat):Inv X pins σ H { s with toks:=t }:=I.un (h':=s.heap) (t':=t) Un.refl I.hok
theorem Inv.kept {t':Nat}(I:Inv X pins σ H s)(k:∀ b u,s.heap.get? b=some u->h'.get? b=some u):Inv X pins σ H { s with heap:=h',toks:=t' }:=I.un (Un.kept k) (I.hok.kept k)
theorem Inv.laid {a:Addr}{o:HO}{t':Nat}(I:Inv X pins σ H s)(k:∀ b u,s.heap.get? b=some u->h'.get? b=some u)(hp:s.heap.objs.size<=a)(new:ObjOk X.prog X.w (upd H a o) h' a o) :
  Inv X pins σ (upd H a o) { s with heap:=h',toks:=t' }:=I.un (Un.laid k hp (I.hok.fresh hp)) (I.hok.laid k hp new)
theorem Inv.write {x e:Addr}{o:HO}{t':Nat}(I:Inv X pins σ H s)(mu:Mut (H x))(he:e=x\/H e=some (.own x))(k:∀ b u,b≠e->s.heap.get? b=some u->h'.get? b=some u)(heo:∃ u,h'.get? e=some u)
  (new:ObjOk X.prog X.w (upd H x o) h' x o):Inv X pins σ (upd H x o) { s with heap:=h',toks:=t' }:=I.un (Un.write mu he k heo) (I.hok.write mu he k heo new)
theorem Inv.pins_of {pins':List (Addr×Obj)}(I:Inv X pins σ H s)(h:∀ p∈pins',s.heap.get? p.1=some p.2/\H p.1=none/\p.1≠X.env.locals/\p.1 ∉ X.fs/\∀ v,p.2.data≠.cell v):Inv X pins' σ H s :=
 ⟨I.ok,I.os,I.bare,I.base,I.loc,I.cell,I.free,I.freeC,fun p hp=>(List.mem_append.mp hp).elim (fun z=>I.pin p (List.mem_append_left _ z)) (h p),I.hok,I.len⟩
theorem nodup_ix {N:List Str}(hN:N.Nodup){i j:Nat}{x:Str}(a:N[i]?=some x)(b:N[j]?=some x):i=j:=by
 obtain⟨h1,e1⟩:=List.getElem?_eq_some_iff.mp a;obtain⟨h2,e2⟩:=List.getElem?_eq_some_iff.mp b;exact(List.getElem_inj hN).mp (e1.trans e2.symm)
theorem store_ok2 {M:Model}{A:Around}{E:Value->Shared->Prop}{i:Nat}{x:Str}{v:V}{u:Value}{Q:Unit->Shared->Prop}(I:Inv X pins σ H s)(hN:X.N.Nodup)(hi:X.N[i]?=some x)(hx:Loc X.env.scope x)(r:RelV v u)
  (h:∀ s',Inv X pins (σ.set i (some v)) H s'->(∃ a,Heap.SameBut a s.heap s'.heap/\(a=X.env.locals\/X.env.cells.lookup x=some a))->Q () s') (hf:X.fn x=true\/X.env.scope.names.lookup x=some .local:=by first | exact .inl rfl | exact .inr rfl | assumption):wpAny M A (storeName X.env x u) Q E s:=by
 obtain⟨m,hn,hl⟩:=id I.loc;have hcls:(X.env.scope.kind==.class||(X.env.scope.kind==.module&&X.env.locals != X.env.globals))=false:=by rw[I.ok.kind];rfl
 have hiσ:i < σ.length:=by rw[I.len];exact(List.getElem?_eq_some_iff.mp hi).1
 have cne:=I.cne;have tracked:∀ {a:Addr} {h':Heap},(∃ o,s.heap.get? a=some o/\H a=none)->Heap.SameBut a s.heap h'->HOk X.prog X.w H h':=fun {a h'} ha hs b ob e=>by
  obtain⟨_,_,hfree⟩:=ha;refine(I.hok b ob e).stay (fun c w' hc q=>(hs.2 c ?_).trans q) (fun _ q=>q) fun _ _ q=>q;rintro rfl;rcases hc with rfl | hc
  ·rw[hfree]at e;cases e
  ·rw[hfree]at hc;cases hc
 rcases hx with hk | hk
 ·refine wpAny_storeName_local hk hn (fun h' hn' hs=>?_) hcls
  obtain⟨oL,_,_,hoL,_⟩:=id hn;refine h _ ⟨I.ok,I.os,I.bare,⟨fun b o e n hb hx=>?_,fun b o e n hb hx=>?_,I.base.free,fun b o e hx=>?_,I.base.tups,I.base.frzs,I.base.tbls⟩,⟨_,hn',fun j y v' e1 e2 e3=>?_⟩,fun y c e=>?_,I.free,I.freeC,fun p hp=>?_,tracked ⟨oL,hoL,I.free⟩ hs,by simpa using I.len⟩ ⟨_,hs,.inl rfl⟩
  ·exact(hs.2 b (Nat.ne_of_lt (Nat.lt_of_lt_of_le (Heap.lt_size e) I.ok.above))).trans (I.base.keep b o e n hb hx)
  ·obtain⟨sl,e1⟩:=I.base.slot b o e n hb hx
   exact⟨sl,(hs.2 b (Nat.ne_of_lt (Nat.lt_of_lt_of_le (Heap.lt_size e) I.ok.above))).trans e1⟩
  ·obtain⟨o',e1⟩:=I.base.there b o e hx
   exact⟨o',(hs.2 b (Nat.ne_of_lt (Nat.lt_of_lt_of_le (Heap.lt_size e) I.ok.above))).trans e1⟩
  ·by_cases hj:j=i
   ·subst hj
    rw[hi]at e1;cases e1;rw[List.getElem?_set_self hiσ]at e2;cases e2;exact⟨u,r,.inl ⟨hk,by simp⟩⟩
   ·rw[List.getElem?_set_ne (Ne.symm hj)]at e2
    obtain⟨u',r',q⟩:=hl j y v' e1 e2 e3;refine⟨u',r',?_⟩;rcases q with ⟨k,e⟩|⟨k,c,e,z⟩
    ·refine .inl ⟨k,?_⟩
     have:y≠x:=fun e=>hj (nodup_ix hN e1 (e ▸ hi))
     simp[this,e]
    ·exact .inr ⟨k,c,e,z.sameBut hs (cne y c e)⟩
  ·obtain⟨w',z⟩:=I.cell y c e
   exact⟨w',z.sameBut hs (cne y c e)⟩
  ·obtain⟨e,n,ne,nf,d⟩:=I.pin p hp
   exact⟨(hs.2 p.1 ne).trans e,n,ne,nf,d⟩
 ·have hfn:X.fn x=true:=by
   rcases hf with z | z
   ·exact z
   ·rw[z]at hk;cases hk
  obtain⟨c,hc⟩:=I.ok.has x (.inl hk);obtain⟨w',z⟩:=I.cell x c hc;refine wpAny_storeName_cell I.ok.kind hk hc z (fun h' hc' hs=>?_);obtain⟨oc,hoc,hocd⟩:=id z;refine h { s with heap:=h' } ⟨I.ok,I.os,I.bare,⟨fun b o e n hb hx=>?_,fun b o e n hb hx=>?_,I.base.free,fun b o e hx=>?_,I.base.tups,I.base.frzs,I.base.tbls⟩,⟨m,hn.sameBut hs (Ne.symm (cne x c hc)),fun j y v' e1 e2 e3=>?_⟩,fun y c' e=>?_,I.free,I.freeC,fun p hp=>?_,tracked ⟨oc,hoc,I.freeC x c hc⟩ hs,by simpa using I.len⟩ ⟨c,hs,.inr hc⟩
  ·exact(hs.2 b (Nat.ne_of_lt (Nat.lt_of_lt_of_le (Heap.lt_size e) (I.ok.cab x c hfn hc)))).trans (I.base.keep b o e n hb hx)
  ·obtain⟨sl,e1⟩:=I.base.slot b o e n hb hx
   exact⟨sl,(hs.2 b (Nat.ne_of_lt (Nat.lt_of_lt_of_le (Heap.lt_size e) (I.ok.cab x c hfn hc)))).trans e1⟩
  ·obtain⟨o',e1⟩:=I.base.there b o e hx
   exact⟨o',(hs.2 b (Nat.ne_of_lt (Nat.lt_of_lt_of_le (Heap.lt_size e) (I.ok.cab x c hfn hc)))).trans e1⟩
  ·by_cases hj:j=i
   ·subst hj
    rw[hi]at e1;cases e1;rw[List.getElem?_set_self hiσ]at e2;cases e2;exact⟨u,r,.inr ⟨.inl hk,c,hc,hc'⟩⟩
   ·rw[List.getElem?_set_ne (Ne.symm hj)]at e2
    obtain⟨u',r',q⟩:=hl j y v' e1 e2 e3;refine⟨u',r',?_⟩;rcases q with q | ⟨k,c',e,z'⟩
    ·exact .inl q
    ·refine .inr ⟨k,c',e,z'.sameBut hs ?_⟩
     rintro rfl;exact hj (nodup_ix hN e1 (I.ok.inj _ _ _ e hc ▸ hi))
  ·by_cases hcc:c'=c
   ·subst hcc;exact⟨_,hc'⟩
   ·obtain⟨w2,z2⟩:=I.cell y c' e
    exact⟨w2,z2.sameBut hs hcc⟩
  ·obtain⟨e,n,ne,nf,d⟩:=I.pin p hp
   refine⟨(hs.2 p.1 ?_).trans e,n,ne,nf,d⟩;intro q;rw[q,hoc]at e;have q':oc=p.2:=Option.some.inj e;exact d w' (by rw[<- q'];exact hocd)
theorem store_ok {M:Model}{A:Around}{E:Value->Shared->Prop}{i:Nat}{x:Str}{v:V}{u:Value}{Q:Unit->Shared->Prop}(I:Inv X pins σ H s)(hN:X.N.Nodup)(hi:X.N[i]?=some x)(hx:Loc X.env.scope x)(r:RelV v u)
  (h:∀ s',Inv X pins (σ.set i (some v)) H s'->Q () s') (hf:X.fn x=true\/X.env.scope.names.lookup x=some .local:=by first | exact .inl rfl | exact .inr rfl | assumption):wpAny M A (storeName X.env x u) Q E s :=
 store_ok2 I hN hi hx r (fun s' I' _=>h s' I') hf
theorem Inv.call' {s':Shared}{ch:List Addr}(I:Inv X pins σ H s)(ho:s'.os=s.os)(u:Un (frs X.stack) ch H H' s.heap s'.heap)(hok:HOk X.prog X.w H' s'.heap)(hg:AllBare s'.gens)
  (hch:∀ b∈ch,(b∈X.ex\/X.s₀.heap.objs.size<=b)/\b≠X.env.locals/\(∀ x c,X.env.cells.lookup x=some c->c≠b)/\∀ p∈X.pn++pins,p.1≠b):Inv X pins σ H' s':=by
 obtain⟨h',g',d',t',o'⟩:=s';have e:o'=s.os:=ho;subst e;exact I.call (g':=g') (t':=t') (d':=d') u hok hg hch
end
abbrev XK:=Value->Option Addr->Hp->Prop
abbrev St:=List (Option V)
abbrev VK:=V->Hp->Prop
abbrev TE:=St->Hp->VK->Prop
abbrev TT:=St->Hp->(Bool->Hp->Prop)->Prop
abbrev TA:=St->Hp->(List V->Hp->Prop)->Prop
structure Ends where
 nx:St->Hp->Prop
 rt:VK
 bk:St->Hp->Prop:=fun _ _=>False
 ct:St->Hp->Prop:=fun _ _=>False
abbrev TS:=Ends->St->Hp->Prop
def EP (X:Cx)(pins:List (Addr×Obj))(σ:St)(Q:VK)(u:Value)(s':Shared):Prop:=∃ v H',Inv X pins σ H' s'/\RelV v u/\Q v H'
def TP (X:Cx)(pins:List (Addr×Obj))(σ:St)(Q:Bool->Hp->Prop)(b:Bool)(s':Shared):Prop:=∃ H',Inv X pins σ H' s'/\Q b H'
def AP (X:Cx)(pins:List (Addr×Obj))(σ:St)(Q:List V->Hp->Prop)(us:List Value)(s':Shared):Prop:=∃ vs H',Inv X pins σ H' s'/\Vals vs us/\Q vs H'
def SP (X:Cx)(pins:List (Addr×Obj))(D:Ends)(f:Flow)(s':Shared):Prop :=
 match f with
 | .next=>∃ σ' H',Inv X pins σ' H' s'/\D.nx σ' H'
 | .brk=>∃ σ' H',Inv X pins σ' H' s'/\D.bk σ' H'
 | .cont=>∃ σ' H',Inv X pins σ' H' s'/\D.ct σ' H'
 | .ret u=>∃ v σ' H',Inv X pins σ' H' s'/\RelV v u/\D.rt v H'
def PE (X:Cx)(e:Expr)(t:TE):Prop :=
 ∀ (pins:List (Addr×Obj)) (s:Shared) (σ:St) (H:Hp) (Q:VK),Inv X pins σ H s->t σ H Q->wpAny (model X.prog X.w) X.A (eval e X.env) (EP X pins σ Q) X.xe s
def PT (X:Cx)(e:Expr)(t:TT):Prop :=
 ∀ (pins:List (Addr×Obj)) (s:Shared) (σ:St) (H:Hp) (Q:Bool->Hp->Prop),Inv X pins σ H s->t σ H Q->wpAny (model X.prog X.w) X.A (isTrue e X.env (eval e X.env)) (TP X pins σ Q) X.xe s
def PW (X:Cx)(e:Expr)(t:TT):Prop :=
 ∀ (whole:Sem Value) (pins:List (Addr×Obj)) (s:Shared) (σ:St) (H:Hp) (Q:Bool->Hp->Prop),Inv X pins σ H s->t σ H Q->wpAny (model X.prog X.w) X.A (isTrue e X.env whole) (TP X pins σ Q) X.xe s
theorem PW.pt {X:Cx}{e:Expr}{t:TT}(h:PW X e t):PT X e t:=h _
def PA (X:Cx)(es:List Expr)(t:TA):Prop :=
 ∀ (pos:Pos) (pins:List (Addr×Obj)) (s:Shared) (σ:St) (H:Hp) (Q:List V->Hp->Prop),Inv X pins σ H s->t σ H Q->wpAny (model X.prog X.w) X.A (spliced (backTo pos (starEach es X.env))) (AP X pins σ Q) X.xe s
def PS (X:Cx)(st:Stmt)(t:TS):Prop :=
 ∀ (pins:List (Addr×Obj)) (s:Shared) (σ:St) (H:Hp) (D:Ends),Inv X pins σ H s->t D σ H->wpAny (model X.prog X.w) X.A (exec st X.env) (SP X pins D) X.xe s
def PSs (X:Cx)(st:List Stmt)(t:TS):Prop :=
 ∀ (pins:List (Addr×Obj)) (s:Shared) (σ:St) (H:Hp) (D:Ends),Inv X pins σ H s->t D σ H->wpAny (model X.prog X.w) X.A (execs st X.env) (SP X pins D) X.xe s
theorem thn {α:Type}{t:Sem α}{Q Q':α->Shared->Prop}{M:Model}{A:Around}{E:Value->Shared->Prop}{s:Shared}(h:wpAny M A t Q E s)(hQ:∀ a s,Q a s->Q' a s):wpAny M A t Q' E s:=wpAny_mono h hQ fun _ _ x=>x
end L2
namespace L2
open PySem PySem.Spec PyProof.Rows
section
variable {X:Cx}
def tVar (i:Nat):TE:=fun σ H Q=>∃ v,σ[i]?=some (some v)/\Q v H
def tC (v:V):TE:=fun _ H Q=>Q v H
theorem pe_var {i:Nat}{x:Str}{pos:Pos}(hN:X.N[i]?=some x)(hv:Vis X.env.scope x)(hd:(x==("__debug__" : Str))=false:=by decide)(hcd:(x==("__classdict__" : Str))=false:=by decide):PE X (.Name x pos) (tVar i):=by
 intro pins s σ H Q I h;obtain⟨v,e,h⟩:=h;obtain⟨m,hn,hl⟩:=I.loc;obtain⟨u,r,l⟩:=hl i x v hN e hv;have fin:EP X pins σ Q u s:=⟨v,H,I,r,h⟩;rcases l with ⟨hk,hm⟩|⟨hk,c,hc,hcell⟩
 ·exact wpAny_Name (wpAny_loadName_local I.ok.kind hk hn hm fin) hd
 ·rcases hk with hk | hk
  ·exact wpAny_Name (wpAny_loadName_cell I.ok.kind hk hc hcell fin) hd
  ·exact wpAny_Name (wpAny_loadName_free I.ok.kind hk hc hcell fin hcd) hd
theorem pe_int {i j pos}:PE X (.Constant (.int i) j pos) (tC (.int i)):=fun _ _ _ H _ I h=>wpAny_Constant_int ⟨.int i,H,I.tok _,⟨_,rfl⟩,h⟩
theorem pe_bl {b j pos}:PE X (.Constant (.bool b) j pos) (tC (.bl b)):=fun _ _ _ H _ I h=>Constant_bool ⟨.bl b,H,I,rfl,h⟩
theorem pe_non {j pos}:PE X (.Constant .none j pos) (tC .non):=fun _ _ _ H _ I h=>Constant_none ⟨.non,H,I,rfl,h⟩
theorem pe_str {x j pos}:PE X (.Constant (.str x) j pos) (tC (.str x)):=fun _ _ _ H _ I h=>Calls.Constant_str ⟨.str x,H,I.tok _,⟨_,rfl⟩,h⟩
def Gl (X:Cx)(x:Str):Prop:=X.env.kindOf x=some .globalImplicit
theorem ld_glob {E:Value->Shared->Prop}{pins:List (Addr×Obj)}{s:Shared}{σ:St}{H:Hp}{x:Str}{u:Value}{pos:Pos}{Q:Value->Shared->Prop}(I:Inv X pins σ H s)(hg:Gl X x)(hm:X.mg x=some u)(h:Q u s)
  (hd:(x==("__debug__" : Str))=false:=by decide):wpAny (model X.prog X.w) X.A (eval (.Name x pos) X.env) Q E s :=
 Calls.Name_function_global I.ok.kind hg (Calls.loadGlobal_global (by rw[I.ok.glob];exact I.mod.glob.keeps I.bk) hm h) hd
theorem ld_blt {E:Value->Shared->Prop}{pins:List (Addr×Obj)}{s:Shared}{σ:St}{H:Hp}{x:Str}{u:Value}{pos:Pos}{Q:Value->Shared->Prop}(I:Inv X pins σ H s)(hg:Gl X x)(hm:X.mg x=none)(hv:bootBuiltins x=some u)(h:Q u s)
  (hn:x≠"__name__":=by decide) (hd:(x==("__debug__" : Str))=false:=by decide):wpAny (model X.prog X.w) X.A (eval (.Name x pos) X.env) Q E s:=by
 obtain⟨mb,h1,h2⟩:=I.mod.blt;exact Calls.Name_function_global I.ok.kind hg (Calls.loadGlobal_builtin (by rw[I.ok.glob];exact I.mod.glob.keeps I.bk) hm (by rw[I.ok.blt];exact h1.keeps I.bk) ((h2 x hn).trans hv) h) hd
theorem pe_glob {x:Str}{v:V}{u:Value}{pos:Pos}(hg:Gl X x)(hm:X.mg x=some u)(r:RelV v u)(hd:(x==("__debug__" : Str))=false:=by decide):PE X (.Name x pos) (tC v) :=
 fun _ _ _ H _ I h=>ld_glob I hg hm ⟨v,H,I,r,h⟩ hd
theorem pe_bltn {x:Str}{v:V}{u:Value}{pos:Pos}(hg:Gl X x)(hm:X.mg x=none)(hv:bootBuiltins x=some u)(r:RelV v u)(hn:x≠"__name__":=by decide)(hd:(x==("__debug__" : Str))=false:=by decide):PE X (.Name x pos) (tC v) :=
 fun _ _ _ H _ I h=>ld_blt I hg hm hv ⟨v,H,I,r,h⟩ hn hd
variable {a b:Expr}{ta tb:TE}{pos:Pos}
variable {tA tB':TT}{rest:List Expr}
def tAnd (t u:TT):TT:=fun σ H Q=>t σ H fun c H1=>if c=true then u σ H1 Q else Q false H1
def tOr (t u:TT):TT:=fun σ H Q=>t σ H fun c H1=>if c=true then Q true H1 else u σ H1 Q
def tNot (t:TT):TT:=fun σ H Q=>t σ H fun c H1=>Q (!c) H1
theorem pw_and1 (ha:PT X a tA):PW X (.BoolOp .And [a] pos) tA:=by
 intro wh pins s σ H Q I h;refine isTrue_and (thn (ha pins s σ H Q I h) fun c s1 e=>?_);cases c with
 | true=>exact isTrue_and_nil e
 | false=>exact e
theorem pw_or1 (ha:PT X a tA):PW X (.BoolOp .Or [a] pos) tA:=by
 intro wh pins s σ H Q I h;refine isTrue_or (thn (ha pins s σ H Q I h) fun c s1 e=>?_);cases c with
 | false=>exact isTrue_or_nil e
 | true=>exact e
theorem pw_and (ha:PT X a tA)(hb:PW X (.BoolOp .And (b::rest) pos) tB'):PW X (.BoolOp .And (a::b::rest) pos) (tAnd tA tB'):=by
 intro wh pins s σ H Q I h;refine isTrue_and (thn (ha pins s σ H _ I h) fun c s1 ⟨H1,I1,q1⟩=>?_);cases c with
 | true=>exact hb wh pins s1 σ H1 Q I1 q1
 | false=>exact⟨H1,I1,q1⟩
theorem pw_or (ha:PT X a tA)(hb:PW X (.BoolOp .Or (b::rest) pos) tB'):PW X (.BoolOp .Or (a::b::rest) pos) (tOr tA tB'):=by
 intro wh pins s σ H Q I h;refine isTrue_or (thn (ha pins s σ H _ I h) fun c s1 ⟨H1,I1,q1⟩=>?_);cases c with
 | true=>exact⟨H1,I1,q1⟩
 | false=>exact hb wh pins s1 σ H1 Q I1 q1
theorem pt_not (ha:PT X a tA):PT X (.UnaryOp .Not a pos) (tNot tA):=by
 intro pins s σ H Q I h;exact isTrue_not (ha pins s σ H (fun c H1=>Q (!c) H1) I h)
def tAndV (ta tb:TE):TE:=fun σ H Q=>ta σ H fun x H1=>∃ c,x=.bl c/\if c=true then tb σ H1 Q else Q (.bl false) H1
def tOrV (ta tb:TE):TE:=fun σ H Q=>ta σ H fun x H1=>∃ c,x=.bl c/\if c=true then Q (.bl true) H1 else tb σ H1 Q
def tNotV (ta:TE):TE:=fun σ H Q=>ta σ H fun x H1=>∃ c,x=.bl c/\Q (.bl (!c)) H1
theorem pe_one {op}{t:TE}(h:PE X a t):PE X (.BoolOp op [a] pos) t:=fun pins s σ H Q I hw=>BoolOp_one (h pins s σ H Q I hw)
theorem pe_and (ha:PE X a ta)(hb:PE X (.BoolOp .And (b::rest) pos) tb):PE X (.BoolOp .And (a::b::rest) pos) (tAndV ta tb):=by
 intro pins s σ H Q I h;refine BoolOp_and (thn (ha pins s σ H _ I h) fun v s1 ⟨x,H1,I1,r1,q1⟩=>?_);obtain⟨c,rfl,q1⟩:=q1;cases r1;refine wpAny_truthy_bool ?_;cases c with
 | true=>exact hb pins s1 σ H1 Q I1 q1
 | false=>exact⟨.bl false,H1,I1,rfl,q1⟩
theorem pe_or (ha:PE X a ta)(hb:PE X (.BoolOp .Or (b::rest) pos) tb):PE X (.BoolOp .Or (a::b::rest) pos) (tOrV ta tb):=by
 intro pins s σ H Q I h;refine BoolOp_or (thn (ha pins s σ H _ I h) fun v s1 ⟨x,H1,I1,r1,q1⟩=>?_);obtain⟨c,rfl,q1⟩:=q1;cases r1;refine wpAny_truthy_bool ?_;cases c with
 | false=>exact hb pins s1 σ H1 Q I1 q1
 | true=>exact⟨.bl true,H1,I1,rfl,q1⟩
theorem pe_not (ha:PE X a ta):PE X (.UnaryOp .Not a pos) (tNotV ta):=by
 intro pins s σ H Q I h;refine UnaryOp_ (thn (ha pins s σ H _ I h) fun v s1 ⟨x,H1,I1,r1,q1⟩=>?_);obtain⟨c,rfl,q1⟩:=q1;cases r1;exact not_of (wpAny_truthy_bool ⟨.bl (!c),H1,I1,rfl,q1⟩)
def tIf (t:TT)(ta tb:TE):TE:=fun σ H Q=>t σ H fun c H1=>if c=true then ta σ H1 Q else tb σ H1 Q
theorem pe_ifExp {c:Expr}(hc:PT X c tA)(ha:PE X a ta)(hb:PE X b tb):PE X (.IfExp c a b pos) (tIf tA ta tb):=by
 intro pins s σ H Q I h;refine wpAny_IfExp (thn (hc pins s σ H _ I h) fun d s1 ⟨H1,I1,q1⟩=>?_);cases d with
 | true=>exact ha pins s1 σ H1 Q I1 q1
 | false=>exact hb pins s1 σ H1 Q I1 q1
end
end L2
namespace L2
open PySem PySem.Spec PyProof.Rows
def SqL (K:PySem.W.Frag)(H:Hp)(a:Addr)(xs:List V):Prop :=
 Rd H a (.lst xs) \/
  ∃ (o:Obj) (its:Array Value) (n:Nat),K.lookup a=some o/\o.cls=.type "list"/\o.dict=none/\o.data=.seq its n/\its.size<=sizeLine/\Vals xs its.toList
def SqT (K:PySem.W.Frag)(H:Hp)(a:Addr)(xs:List V):Prop :=
 Rd H a (.tup xs) \/
  ∃ (o:Obj) (its:Array Value) (n:Nat),K.lookup a=some o/\o.cls=.type "tuple"/\o.data=.seq its n/\its.size<=sizeLine/\Vals xs its.toList/\o.dict=none/\o.slots = #[]
def absV:Value->Option V
 | .none=>some .non
 | .bool b=>some (.bl b)
 | .int i _=>some (.int i)
 | .str x _=>some (.str x)
 | .bytes b _=>some (.byt b)
 | .float b _=>some (.flt b)
 | .ref a=>some (.ref a)
 | .type n=>some (.ty n)
 | _=>none
theorem RelV.abs {x:V}{u:Value}(r:RelV x u):absV u=some x:=by
 cases x with
 | non=>cases r;rfl
 | bl _=>cases r;rfl
 | int _=>obtain⟨t,rfl⟩:=r;rfl
 | str _=>obtain⟨t,rfl⟩:=r;rfl
 | byt _=>obtain⟨t,rfl⟩:=r;rfl
 | flt _=>obtain⟨t,rfl⟩:=r;rfl
 | ref _=>cases r;rfl
 | ty _=>cases r;rfl
theorem RelV.inj {x y:V}{u:Value}(r:RelV x u)(q:RelV y u):x=y:=Option.some.inj (r.abs.symm.trans q.abs)
theorem Vals.inj:∀ {xs ys:List V} {us:List Value},Vals xs us->Vals ys us->xs=ys
 | _,_,_,.nil,.nil=>rfl
 | _,_,_,.cons r t,.cons r' t'=>by rw[r.inj r',Vals.inj t t']
section
variable {X:Cx}{pins:List (Addr×Obj)}{σ:St}{H:Hp}{s:Shared}{a:Addr}{xs ys:List V}
theorem SqL.of {K:PySem.W.Frag}(h:H a=some (.lst xs)):SqL K H a xs:=.inl (.inl h)
theorem Inv.list (I:Inv X pins σ H s)(h:SqL X.K H a xs):∃ its:List Value,Vals xs its/\PlainL s.heap a its.toArray/\xs.length<=sizeLine:=by
 rcases h with h | ⟨o,its,n,hk,hc,hd,hs,hz,r⟩
 ·obtain⟨z,its,n,r,e⟩:=h.ok I.hok
  exact⟨its,r,⟨_,n,e,rfl,rfl,rfl⟩,z⟩
 ·refine⟨its.toList,r,⟨o,n,I.kIn a o hk,hc,hd,by simpa using hs⟩,?_⟩
  have e:=r.length;simp only[Array.length_toList]at e;first | lia | omega
theorem Inv.tuple (I:Inv X pins σ H s)(h:SqT X.K H a xs):∃ its:List Value,Vals xs its/\IsTup s.heap a its.toArray/\xs.length<=sizeLine:=by
 rcases h with h | ⟨o,its,n,hk,hc,hs,hz,r,_⟩
 ·obtain⟨z,its,r,p,_⟩:=h.ok I.hok
  exact⟨its,r,p,z⟩
 ·refine⟨its.toList,r,⟨o,I.kIn a o hk,hc,n,by simpa using hs⟩,?_⟩
  have e:=r.length;simp only[Array.length_toList]at e;first | lia | omega
theorem Inv.tupNoDict (I:Inv X pins σ H s)(h:SqT X.K H a xs):∃ o,s.heap.get? a=some o/\o.dict=none/\o.slots = #[]:=by
 rcases h with h | ⟨o,its,n,hk,hc,hs,hz,r,hd⟩
 ·obtain⟨z,its,r,⟨o,e,_⟩,d⟩:=h.ok I.hok
  exact⟨o,e,d o e⟩
 ·exact⟨o,I.kIn a o hk,hd⟩
theorem Inv.list_inj (I:Inv X pins σ H s)(h:SqL X.K H a xs)(h':SqL X.K H a ys):xs=ys:=by
 obtain⟨its,r,⟨o,n,e,_,_,d⟩,_⟩:=I.list h;obtain⟨its',r',⟨o',n',e',_,_,d'⟩,_⟩:=I.list h';rw[e]at e';cases e';rw[d]at d';injection d' with d1 _
 have:its=its':=by simpa using congrArg Array.toList d1
 subst this;exact r.inj r'
theorem Inv.tuple_inj (I:Inv X pins σ H s)(h:SqT X.K H a xs)(h':SqT X.K H a ys):xs=ys:=by
 obtain⟨its,r,⟨o,e,_,n,d⟩,_⟩:=I.tuple h;obtain⟨its',r',⟨o',e',_,n',d'⟩,_⟩:=I.tuple h';rw[e]at e';cases e';rw[d]at d';injection d' with d1 _
 have:its=its':=by simpa using congrArg Array.toList d1
 subst this;exact r.inj r'
end
abbrev Cx.wish (X:Cx)(E:Value->Shared->Prop):Cx:={ X with xe:=E }
abbrev Cx.nox (X:Cx):Cx:=X.wish fun _ _=>False
theorem Cx.Ok.wish {X:Cx}(ok:X.Ok)(E:Value->Shared->Prop):(X.wish E).Ok :=
 ⟨ok.mod,ok.kind,ok.glob,ok.blt,ok.above,ok.inj,ok.has,ok.cab,ok.hd,ok.frames,ok.stk,ok.exf,ok.bs,ok.bsz,ok.noex,ok.exfs,ok.funs,ok.frf⟩
theorem Cx.Ok.unwish {X:Cx}{E:Value->Shared->Prop}(ok:(X.wish E).Ok):X.Ok :=
 ⟨ok.mod,ok.kind,ok.glob,ok.blt,ok.above,ok.inj,ok.has,ok.cab,ok.hd,ok.frames,ok.stk,ok.exf,ok.bs,ok.bsz,ok.noex,ok.exfs,ok.funs,ok.frf⟩
section
variable {X:Cx}{pins:List (Addr×Obj)}{σ:St}{H:Hp}{s:Shared}{E:Value->Shared->Prop}
theorem Inv.wish (I:Inv X pins σ H s)(E:Value->Shared->Prop):Inv (X.wish E) pins σ H s:=⟨I.ok.wish E,I.os,I.bare,I.base,I.loc,I.cell,I.free,I.freeC,I.pin,I.hok,I.len⟩
theorem Inv.unwish (I:Inv (X.wish E) pins σ H s):Inv X pins σ H s:=⟨I.ok.unwish,I.os,I.bare,I.base,I.loc,I.cell,I.free,I.freeC,I.pin,I.hok,I.len⟩
theorem SP.unwish {D:Ends}{f:Flow}{s':Shared}(h:SP (X.wish E) pins D f s'):SP X pins D f s':=by
 cases f with
 | next=>obtain⟨σ',H',I,q⟩:=h;exact⟨σ',H',I.unwish,q⟩
 | brk=>obtain⟨σ',H',I,q⟩:=h;exact⟨σ',H',I.unwish,q⟩
 | cont=>obtain⟨σ',H',I,q⟩:=h;exact⟨σ',H',I.unwish,q⟩
 | ret u=>obtain⟨v,σ',H',I,r,q⟩:=h;exact⟨v,σ',H',I.unwish,r,q⟩
theorem PSs.nox {st:List Stmt}{t:TS}(h:PSs X.nox st t):PSs X st t:=fun pins s σ H D I hw =>
 wpAny_mono (h pins s σ H D (I.wish _) hw) (fun _ _ q=>q.unwish) fun _ _ z=>False.elim z
end
section
variable {X:Cx}{st:Stmt}{rest:List Stmt}{t u:TS}{e:Expr}{te:TE}{pos:Pos}
def tNext:TS:=fun D σ H=>D.nx σ H
def tSeq (t u:TS):TS:=fun D σ H=>t { D with nx:=u D } σ H
theorem pss_nil:PSs X [] tNext:=fun _ _ σ H _ I h=>wpAny_execs_nil ⟨σ,H,I,h⟩
theorem pss_cons (h1:PS X st t)(h2:PSs X rest u):PSs X (st::rest) (tSeq t u):=by
 intro pins s σ H D I h;refine wpAny_execs_cons (thn (h1 pins s σ H { D with nx:=u D } I h) fun f s1 q=>?_);cases f with
 | next =>
  obtain⟨σ',H',I',q⟩:=q;exact h2 pins s1 σ' H' D I' q
 | ret v=>exact q
 | brk=>exact q
 | cont=>exact q
def tBreak:TS:=fun D σ H=>D.bk σ H
def tCont:TS:=fun D σ H=>D.ct σ H
theorem ps_pass:PS X (.Pass pos) tNext:=fun _ _ σ H _ I h=>wpAny_Pass ⟨σ,H,I,h⟩
theorem ps_break:PS X (.Break pos) tBreak:=fun _ _ σ H _ I h=>wpAny_Break ⟨σ,H,I,h⟩
theorem ps_continue:PS X (.Continue pos) tCont:=fun _ _ σ H _ I h=>wpAny_Continue ⟨σ,H,I,h⟩
theorem Inv.quiet {pins:List (Addr×Obj)}{σ:St}{H:Hp}{s:Shared}(I:Inv X pins σ H s):interactive X.env=false:=by simp[interactive,I.ok.kind]
def tDrop (te:TE):TS:=fun D σ H=>te σ H fun _ H1=>D.nx σ H1
theorem ps_expr (he:PE X e te)(hs:swapsWith e none pos.line X.env=pure false:=by rfl):PS X (.Expr e pos) (tDrop te):=by
 intro pins s σ H D I h;exact wpAny_Expr_any (thn (he pins s σ H _ I h) fun v s1 ⟨x,H1,I1,r1,q1⟩=>⟨σ,H1,I1,q1⟩) I.quiet hs
def tRet (te:TE):TS:=fun D σ H=>te σ H D.rt
theorem ps_ret (he:PE X e te):PS X (.Return (some e) pos) (tRet te):=by
 intro pins s σ H D I h;exact wpAny_Return_some (thn (he pins s σ H _ I h) fun v s1 ⟨x,H1,I1,r1,q1⟩=>⟨x,σ,H1,I1,r1,q1⟩)
def tRetN:TS:=fun D _ H=>D.rt .non H
theorem ps_retN:PS X (.Return none pos) tRetN:=fun _ _ σ H _ I h=>wpAny_Return_none ⟨.non,σ,H,I,rfl,h⟩
def tIfS (c:TT)(t u:TS):TS:=fun D σ H=>c σ H fun b H1=>if b=true then t D σ H1 else u D σ H1
theorem ps_if {c:Expr}{a b:List Stmt}{tc:TT}(hc:PT X c tc)(ha:PSs X a t)(hb:PSs X b u):PS X (.If c a b pos) (tIfS tc t u):=by
 intro pins s σ H D I h;refine wpAny_If (thn (hc pins s σ H _ I h) fun d s1 ⟨H1,I1,q1⟩=>?_);cases d with
 | true=>exact ha pins s1 σ H1 D I1 q1
 | false=>exact hb pins s1 σ H1 D I1 q1
end
abbrev TG:=V->St->Hp->(St->Hp->Prop)->Prop
abbrev TGs:=List V->St->Hp->(St->Hp->Prop)->Prop
def PG (X:Cx)(target:Expr)(t:TG):Prop :=
 ∀ (pins:List (Addr×Obj)) (s:Shared) (σ:St) (H:Hp) (v:V) (u:Value) (Q:St->Hp->Prop),Inv X pins σ H s->RelV v u->t v σ H Q ->
  wpAny (model X.prog X.w) X.A (assign target X.env u) (fun _ s'=>∃ σ' H',Inv X pins σ' H' s'/\Q σ' H') X.xe s
def PGs (X:Cx)(ts:List Expr)(t:TGs):Prop :=
 ∀ (pins:List (Addr×Obj)) (s:Shared) (σ:St) (H:Hp) (vs:List V) (us:List Value) (Q:St->Hp->Prop),Inv X pins σ H s->Vals vs us->t vs σ H Q ->
  wpAny (model X.prog X.w) X.A (assignInOrder ((assignEach ts X.env).map (·.2)) us) (fun _ s'=>∃ σ' H',Inv X pins σ' H' s'/\Q σ' H') X.xe s
abbrev TSet:=V->V->V->Hp->(Hp->Prop)->Prop
def PSet (X:Cx)(t:TSet):Prop :=
 ∀ (pins:List (Addr×Obj)) (s:Shared) (σ:St) (H:Hp) (o i v:V) (ov iv u:Value) (Q:Hp->Prop),Inv X pins σ H s->RelV o ov->RelV i iv->RelV v u->t o i v H Q ->
  wpAny (model X.prog X.w) X.A (setItem ov iv u) (fun _ s'=>∃ H',Inv X pins σ H' s'/\Q H') X.xe s
section
variable {X:Cx}{pos:Pos}
def gName (i:Nat):TG:=fun v σ H Q=>Q (σ.set i (some v)) H
theorem pg_name {i:Nat}{x:Str}(hN:X.N.Nodup)(hi:X.N[i]?=some x)(hx:Loc X.env.scope x)(hf:X.fn x=true\/X.env.scope.names.lookup x=some .local:=by first | exact .inl rfl | exact .inr rfl | assumption):PG X (.Name x pos) (gName i):=by
 intro pins s σ H v u Q I r h;exact wpAny_assign_Name (store_ok I hN hi hx r (fun s' I'=>⟨_,H,I',h⟩) hf)
def gNil:TGs:=fun vs σ H Q=>vs=[]/\Q σ H
def gCons (t:TG)(u:TGs):TGs:=fun vs σ H Q=>∃ v r,vs=v::r/\t v σ H fun σ' H'=>u r σ' H' Q
theorem pgs_nil:PGs X [] gNil:=by
 intro pins s σ H vs us Q I r h;obtain⟨e,h⟩:=h;subst e;cases r;exact assignInOrder_nil ⟨σ,H,I,h⟩
theorem pgs_cons {e:Expr}{es:List Expr}{t:TG}{u:TGs}(h1:PG X e t)(h2:PGs X es u)
  (hs:(assignEach (e::es) X.env).map (·.2)=assign e X.env::(assignEach es X.env).map (·.2):=by rfl):PGs X (e::es) (gCons t u):=by
 intro pins s σ H vs us Q I r h;obtain⟨v,vr,e1,h⟩:=h;subst e1;cases r with
 | cons r rr =>
  rw[hs];refine assignInOrder_cons (thn (h1 pins s σ H _ _ _ I r h) fun _ s1 ⟨σ1,H1,I1,q1⟩=>?_);exact h2 pins s1 σ1 H1 _ _ Q I1 rr q1
def gTup (K:PySem.W.Frag)(n:Nat)(t:TGs):TG:=fun v σ H Q=>∃ a xs,v=.ref a/\SqT K H a xs/\xs.length=n/\t xs σ H Q
theorem pg_tup {es:List Expr}{k:Nat}{t:TGs}{n:Nat}(hc:X.calm=true)(h:PGs X es t)
  (hn:(assignEach es X.env).length=n:=by rfl) (hst:(assignEach es X.env).findIdx? (·.1)=none:=by rfl):PG X (.Tuple es k pos) (gTup X.K n t):=by
 intro pins s σ H v u Q I r hw;obtain⟨a,xs,e1,hq,hl,hw⟩:=hw;subst e1;cases r;obtain⟨its,rv,ht,hz⟩:=I.tuple hq;refine assign_Tuple_tuple (I.ok.hd hc) ht (by simp[hn,<- hl,rv.length]) hst fun h' hx=>?_;have I1:Inv X pins σ H { s with heap:=h' }:=I.kept (t':=s.toks) fun b o e=>hx b o (Nat.ne_of_lt (Heap.lt_size e)) e;exact h pins _ σ H xs _ Q I1 (by simpa using rv) hw
def gSub (to ti:TE)(t:TSet):TG:=fun v σ H Q=>to σ H fun o H1=>ti σ H1 fun i H2=>t o i v H2 fun H3=>Q σ H3
theorem pg_sub {o i:Expr}{to ti:TE}{t:TSet}(ho:PE X o to)(hi:PE X i ti)(hs:PSet X t)
  (ha:∀ v,assign (.Subscript o i pos) X.env v=(do
   let ov <- holding [v] (eval o X.env)
   let iv <- holding [v,ov] (eval i X.env)
   standAt pos
   holding [v,ov,iv] (setItem ov iv v)
   release [v,ov,iv] []):=by intro _;rfl):PG X (.Subscript o i pos) (gSub to ti t):=by
 intro pins s σ H v u Q I r h;rw[ha];refine wpAny_bind (wpAny_holding (thn (ho pins s σ H _ I h) fun ov s1 ⟨x,H1,I1,r1,q1⟩=>?_));refine wpAny_bind (wpAny_holding (thn (hi pins s1 σ H1 _ I1 q1) fun iv s2 ⟨y,H2,I2,r2,q2⟩=>?_));refine wpAny_bind (wpAny_standAt (wpAny_bind (wpAny_holding (thn (hs pins s2 σ H2 x y v ov iv u _ I2 r1 r2 r q2) fun _ s3 ⟨H3,I3,q3⟩=>?_))));exact wpAny_release ⟨σ,H3,I3,q3⟩
def tAsg (te:TE)(g:TG):TS:=fun D σ H=>te σ H fun x H1=>g x σ H1 D.nx
theorem ps_asg {tg e:Expr}{te:TE}{g:TG}(he:PE X e te)(hg:PG X tg g)(hs:swapsWithSole [tg] e pos.line X.env=pure false:=by rfl)(hw:swappedStores [tg] e X.env=pure none:=by rfl)
  (h1:(assignEach [tg] X.env).map (·.2)=[assign tg X.env]:=by rfl):PS X (.Assign [tg] e pos) (tAsg te g):=by
 intro pins s σ H D I h;refine wpAny_Assign_stores (thn (he pins s σ H _ I h) fun v s1 ⟨x,H1,I1,r1,q1⟩=>?_) hs hw;rw[h1];exact thn (hg pins s1 σ H1 x v _ I1 r1 q1) fun _ s2 q=>q
theorem ps_set {i:Nat}{x:Str}{e:Expr}{te:TE}{pos':Pos}(hN:X.N.Nodup)(hi:X.N[i]?=some x)(hx:Loc X.env.scope x)(he:PE X e te)(hs:swapsWith e (some (.Name x pos')) pos.line X.env=pure false:=by rfl)(hf:X.fn x=true\/X.env.scope.names.lookup x=some .local:=by first | exact .inl rfl | exact .inr rfl | assumption) :
  PS X (.Assign [.Name x pos'] e pos) (tAsg te (gName i)):=by
 intro pins s σ H D I h;refine wpAny_Assign_Name (thn (he pins s σ H _ I h) fun v s1 ⟨y,H1,I1,r1,q1⟩=>?_) hs;exact store_ok I1 hN hi hx r1 (fun s2 I2=>⟨_,H1,I2,q1⟩) hf
end
section
variable {X:Cx}{pos:Pos}
def tWhile (c:TT)(tb:TS):TS:=fun D σ H=>∃ W:Nat->St->Hp->Prop,(∃ m,W m σ H)/\∀ m σ H,W m σ H ->
 c σ H fun b H1=>if b=true then ∃ N:St->Hp->Prop,(∀ σ' H',N σ' H'->∃ m',m' < m/\W m' σ' H')/\tb { D with nx:=N,ct:=N,bk:=D.nx } σ H1 else D.nx σ H1
theorem ps_while {c:Expr}{body:List Stmt}{tc:TT}{tb:TS}(hp:PassesOwn (model X.prog X.w) X.A X.env X.xe)(hc:PT X c tc)(hb:PSs X body tb):PS X (.While c body [] pos) (tWhile tc tb):=by
 intro pins s σ H D I h;obtain⟨W,⟨m0,w0⟩,turn⟩:=h;refine wpAny_While (codeAny_whileLoop (fun n s'=>∃ σ' H',Inv X pins σ' H' s'/\W n σ' H') ?_ m0 ⟨σ,H,I,w0⟩);rintro n s1 ⟨σ1,H1,I1,w1⟩;refine wpAny_passesOwn hp (thn (hc pins s1 σ1 H1 _ I1 (turn n σ1 H1 w1)) fun b s2 ⟨H2,I2,q2⟩=>?_);cases b with
 | true =>
  obtain⟨N,hN,q2⟩:=q2;rw[if_pos rfl];refine wpAny_passesOwn hp (thn (hb pins s2 σ1 H2 _ I2 q2) fun f s3 q3=>?_);cases f with
  | next =>
   obtain⟨σ3,H3,I3,n3⟩:=q3;obtain⟨m',hm,w3⟩:=hN σ3 H3 n3;exact⟨m',hm,σ3,H3,I3,w3⟩
  | cont =>
   obtain⟨σ3,H3,I3,n3⟩:=q3;obtain⟨m',hm,w3⟩:=hN σ3 H3 n3;exact⟨m',hm,σ3,H3,I3,w3⟩
  | brk=>exact q3
  | ret v=>exact q3
 | false =>
  rw[if_neg Bool.false_ne_true];exact wpAny_execs_nil ⟨σ1,H2,I2,q2⟩
end
structure It where
 go:Nat->Hp->Prop
 yld:Nat->Hp->V->Hp->Prop
 stop:Nat->Hp->Prop
def FpOk (X:Cx)(pins:List (Addr×Obj))(H:Hp)(b:Addr):Prop :=
 H b=none/\b≠X.env.locals/\b ∉ X.fs/\(b∈X.ex\/X.s₀.heap.objs.size<=b)/\(∀ x c,X.env.cells.lookup x=some c->c≠b)/\∀ p∈X.pn++pins,p.1≠b
theorem Inv.fpOk {X:Cx}{pins:List (Addr×Obj)}{σ:St}{H H':Hp}{s:Shared}{b:Addr}(I:Inv X pins σ H s)(hb:s.heap.objs.size<=b)(hn:H' b=none):FpOk X pins H' b:=by
 refine⟨hn,Nat.ne_of_gt (Nat.lt_of_lt_of_le I.lt hb),I.nofs hb,.inr (Nat.le_trans I.sz hb),fun x c e z=>?_,fun p hp z=>?_⟩
 ·obtain⟨v,q⟩:=I.cell x c e
  exact absurd (Nat.lt_of_lt_of_le q.lt (by rw[z];exact hb)) (Nat.lt_irrefl _)
 ·exact absurd (Nat.lt_of_lt_of_le (Heap.lt_size (I.pin p hp).1) (by rw[z];exact hb)) (Nat.lt_irrefl _)
structure Turn (P:Program) (w:World) (K:PySem.W.Frag) (tg:Expr) (J:It) (fp:List Addr) (it:Addr) (tn:Nat->Heap->Prop):Prop where
 mem:it∈fp
 obj:∀ i h,tn i h->∀ b∈fp,∃ o,h.get? b=some o/\∀ v,o.data≠.cell v
 keep:∀ i h h',tn i h->(∀ b∈fp,∀ o,h.get? b=some o->h'.get? b=some o)->tn i h'
 item:∀ (X:Cx),X.prog=P->X.w=w->X.K=K->X.calm=true->∀ (i:Nat) (pins:List (Addr×Obj)) (s:Shared) (σ:St) (H:Hp) (E:Value->Shared->Prop),Inv X pins σ H s->(∀ b∈fp,FpOk X pins H b)->tn i s.heap->J.go i H ->
  wpAny (model P w) X.A (pyNext (.ref it)) (fun r s1=>∃ u,r=some u /\
   wpAny (model P w) X.A (letOwnedTupleGo tg (.ref it) u) (fun _ s2=>∃ x H',Inv X pins σ H' s2/\RelV x u/\J.yld i H x H'/\tn (i + 1) s2.heap/\∀ b∈fp,H' b=none) E s1) E s
 done:∀ (X:Cx),X.prog=P->X.w=w->X.K=K->X.calm=true->∀ (i:Nat) (pins:List (Addr×Obj)) (s:Shared) (σ:St) (H:Hp) (E:Value->Shared->Prop),Inv X pins σ H s->(∀ b∈fp,FpOk X pins H b)->tn i s.heap->J.stop i H ->
  wpAny (model P w) X.A (pyNext (.ref it)) (fun r s1=>r=none/\Inv X pins σ H s1) E s
 self:∀ (A:Around) (i:Nat) (s:Shared) (Q:Value->Shared->Prop) (E:Value->Shared->Prop),tn i s.heap->Q (.ref it) s->wpAny (model P w) A (pyIter (.ref it)) Q E s
abbrev TI:=St->Hp->(It->Hp->Prop)->Prop
def PIE (X:Cx)(pins:List (Addr×Obj))(σ:St)(tg:Expr)(R:It->Hp->Prop)(itv:Value)(s2:Shared):Prop :=
 ∃ (it:Addr) (fp:List Addr) (tn:Nat->Heap->Prop) (J:It) (H':Hp),itv=.ref it/\Inv X pins σ H' s2/\Turn X.prog X.w X.K tg J fp it tn/\tn 0 s2.heap/\(∀ b∈fp,FpOk X pins H' b)/\R J H'
def PI (X:Cx)(tg iter:Expr)(wi:TI):Prop :=
 ∀ (pins:List (Addr×Obj)) (s:Shared) (σ:St) (H:Hp) (R:It->Hp->Prop),Inv X pins σ H s->wi σ H R ->
  wpAny (model X.prog X.w) X.A (eval iter X.env) (fun v s1=>wpAny (model X.prog X.w) X.A (pyIter v) (PIE X pins σ tg R) X.xe s1) X.xe s
theorem go_of {M:Model}{A:Around}{E:Value->Shared->Prop}{s:Shared}{tg:Expr}{it:Addr}{u:Value}{o:Obj}{n:String}{vs:Array Value}{Q:Unit->Shared->Prop}(ho:s.heap.get? it=some o)(hc:o.cls=.type n)(hd:o.data=.fields vs)
  (hn:["enumerate","zip","dict_itemiterator","dict_reverseitemiterator","odict_iterator","itertools.zip_longest","itertools.pairwise"].contains n=false) (hQ:Q () s):wpAny M A (letOwnedTupleGo tg (.ref it) u) Q E s:=by
 unfold letOwnedTupleGo;cases tg <;> first
  | exact wpAny_pure hQ
  | (cases u <;> first
    | exact wpAny_pure hQ
    | (refine wpAny_bind (wpAny_load ho ?_)
       rw[hc,hd];show wpAny M A (if (["enumerate","zip","dict_itemiterator","dict_reverseitemiterator","odict_iterator","itertools.zip_longest","itertools.pairwise"].contains n&&vs[0]?==some (rawInt _))=true then _ else _) Q E s;rw[if_neg (by intro h;rw[hn,Bool.false_and]at h;cases h)];exact wpAny_pure hQ))
def Itl (K:PySem.W.Frag)(a:Addr):It :=
 ⟨fun i H=>∃ xs x,SqL K H a xs/\xs[i]?=some x,fun i H x H'=>H'=H/\∀ xs,SqL K H a xs->xs[i]?=some x,fun i H=>∃ xs,SqL K H a xs/\xs.length<=i⟩
def Itt (K:PySem.W.Frag)(a:Addr):It :=
 ⟨fun i H=>∃ xs x,SqT K H a xs/\xs[i]?=some x,fun i H x H'=>H'=H/\∀ xs,SqT K H a xs->xs[i]?=some x,fun i H=>∃ xs,SqT K H a xs/\xs.length<=i⟩
def Itr (lo:Int)(n:Nat):It:=⟨fun i _=>i < n,fun i H x H'=>H'=H/\x=.int (lo + i),fun i _=>n<=i⟩
theorem turn_list {P:Program}{w:World}{K:PySem.W.Frag}{tg:Expr}(a it:Addr):Turn P w K tg (Itl K a) [it] it (fun i h=>h.IsListIter it a i) where
 mem:=by simp
 obj:=fun i h st b hb=>by
  have e:b=it:=by simpa using hb
  subst e;obtain⟨o,e,c,d⟩:=st;exact⟨o,e,fun v z=>by rw[d]at z;cases z⟩
 keep:=fun i h h' st k=>st.at fun o e=>k it (by simp) o e
 item:=by
  intro X hP hw hK hc i pins s σ H E I hf st hg;subst hP hw hK;obtain⟨xs,x,hq,hx⟩:=hg;obtain⟨its,rv,p,hz⟩:=I.list hq;obtain⟨u,hu,ru⟩:=rv.get hx;obtain⟨f0,f1,f2,f3,f4,f5⟩:=hf it (by simp);refine wpAny_pyNext_list_item st p.isList (x:=u) (by simpa using hu) fun h' st' sb=>?_;have I1:Inv X pins σ H { s with heap:=h' }:=I.turned (t':=s.toks) (fun b o hb e=>(sb.2 b hb).trans e) f0 f1 f3 f4 f5;obtain⟨o,e,c,d⟩:=id st';exact⟨u,rfl,go_of (s:={ s with heap:=h' }) e c d (by decide) ⟨x,H,I1,ru,⟨rfl,fun ys hy=>by rw[I.list_inj hy hq];exact hx⟩,st',fun b hb=>(hf b hb).1⟩⟩
 done:=by
  intro X hP hw hK hc i pins s σ H E I hf st hg;subst hP hw hK;obtain⟨xs,hq,hx⟩:=hg;obtain⟨its,rv,p,hz⟩:=I.list hq;obtain⟨f0,f1,f2,f3,f4,f5⟩:=hf it (by simp);have hl:=rv.length;exact wpAny_pyNext_list_end (I.ok.hd hc) st p.isList (by simp;omega) fun h' eb=>⟨rfl,I.turned (t':=s.toks) (fun b o hb e=>eb b o hb e) f0 f1 f3 f4 f5⟩
 self:=fun _ _ _ _ _ st h=>wpAny_pyIter_listiter st h
theorem turn_tuple {P:Program}{w:World}{K:PySem.W.Frag}{tg:Expr}(a it:Addr):Turn P w K tg (Itt K a) [it] it (fun i h=>h.IsTupleIter it a i) where
 mem:=by simp
 obj:=fun i h st b hb=>by
  have e:b=it:=by simpa using hb
  subst e;obtain⟨o,e,c,d⟩:=st;exact⟨o,e,fun v z=>by rw[d]at z;cases z⟩
 keep:=fun i h h' st k=>st.at fun o e=>k it (by simp) o e
 item:=by
  intro X hP hw hK hc i pins s σ H E I hf st hg;subst hP hw hK;obtain⟨xs,x,hq,hx⟩:=hg;obtain⟨its,rv,p,hz⟩:=I.tuple hq;obtain⟨u,hu,ru⟩:=rv.get hx;obtain⟨f0,f1,f2,f3,f4,f5⟩:=hf it (by simp);refine wpAny_pyNext_tuple_item st (show s.heap.IsTuple a its.toArray from p) (x:=u) (by simpa using hu) fun h' st' sb=>?_;have I1:Inv X pins σ H { s with heap:=h' }:=I.turned (t':=s.toks) (fun b o hb e=>(sb.2 b hb).trans e) f0 f1 f3 f4 f5;obtain⟨o,e,c,d⟩:=id st';exact⟨u,rfl,go_of (s:={ s with heap:=h' }) e c d (by decide) ⟨x,H,I1,ru,⟨rfl,fun ys hy=>by rw[I.tuple_inj hy hq];exact hx⟩,st',fun b hb=>(hf b hb).1⟩⟩
 done:=by
  intro X hP hw hK hc i pins s σ H E I hf st hg;subst hP hw hK;obtain⟨xs,hq,hx⟩:=hg;obtain⟨its,rv,p,hz⟩:=I.tuple hq;obtain⟨f0,f1,f2,f3,f4,f5⟩:=hf it (by simp);have hl:=rv.length;exact wpAny_pyNext_tuple_end (I.ok.hd hc) st (show s.heap.IsTuple a its.toArray from p) (by simp;omega) fun h' eb=>⟨rfl,I.turned (t':=s.toks) (fun b o hb e=>eb b o hb e) f0 f1 f3 f4 f5⟩
 self:=fun _ _ _ _ _ st h=>wpAny_pyIter_tupleiter st h
theorem turn_range {P:Program}{w:World}{K:PySem.W.Frag}{tg:Expr}(it:Addr)(lo:Int)(n:Nat):Turn P w K tg (Itr lo n) [it] it (fun i h=>IsRangeIter h it (lo + (i:Nat) * 1) ((n:Int) - (i:Nat)) 1) where
 mem:=by simp
 obj:=fun i h st b hb=>by
  have e:b=it:=by simpa using hb
  subst e;exact⟨_,st,fun v z=>by
   have z':Data.fields _=Data.cell v:=z;cases z'⟩
 keep:=fun i h h' st k=>k it (by simp) _ st
 item:=by
  intro X hP hw hK hc i pins s σ H E I hf st hg;subst hP hw hK;obtain⟨f0,f1,f2,f3,f4,f5⟩:=hf it (by simp);have W:=Walks.range (prog:=X.prog) (w:=X.w) (I.ok.hd hc) it lo 1 n;refine W.item i s _ _ hg st fun v h' tk hv st' kk=>?_;obtain⟨t,rfl⟩:=hv;have I1:Inv X pins σ H { s with heap:=h',toks:=tk }:=I.turned (fun b o hb e=>kk b o (by simpa using hb) e) f0 f1 f3 f4 f5;refine⟨_,rfl,go_of (s:={ s with heap:=h',toks:=tk }) (n:="range_iterator") st' rfl rfl (by decide) ⟨.int (lo + i),H,I1,⟨t,?_⟩,⟨rfl,rfl⟩,st',fun b hb=>(hf b hb).1⟩⟩;rw[Int.mul_one]
 done:=by
  intro X hP hw hK hc i pins s σ H E I hf st hg;subst hP hw hK;obtain⟨f0,f1,f2,f3,f4,f5⟩:=hf it (by simp);exact wpAny_pyNext_range_end (I.ok.hd hc) st (by have:n<=i:=hg;omega) fun h' eb=>⟨rfl,I.turned (t':=s.toks) (fun b o hb e=>eb b o hb e) f0 f1 f3 f4 f5⟩
 self:=fun _ _ _ _ _ st h=>wpAny_pyIter_rangeiter st h
end L2
namespace L2
open PySem PySem.Spec PyProof.Rows
section
variable {X:Cx}{tg:Expr}
theorem range_it {pins:List (Addr×Obj)}{σ:St}{H:Hp}{s:Shared}{R:It->Hp->Prop}{E:Value->Shared->Prop}{lo hi:Int}{t u v:Tok}{tk:Nat}(I:Inv X pins σ H s)(h1:-(2 ^ 62)<=lo)(h2:lo < 2 ^ 62)(h3:-(2 ^ 62)<=hi)(h4:hi < 2 ^ 62)
  (q:R (Itr lo (hi - lo).toNat) H):wpAny (model X.prog X.w) X.A (pyIter (.ref s.heap.objs.size)) (PIE X pins σ tg R) E { s with heap:=s.heap.push { cls:=.type "range",data:=.fields #[.int lo t,.int hi u,.int 1 v] },toks:=tk }:=by
 refine wpAny_pyIter_range (IsRange.new ..) (small_one h1 h2 h3 h4) ?_;have I1:Inv X pins σ H { s with heap:=s.heap.push { cls:=.type "range",data:=.fields #[.int lo t,.int hi u,.int 1 v] },toks:=tk }:=I.kept fun b o e=>Heap.get?_push_of_some _ e;refine⟨(s.heap.push { cls:=.type "range",data:=.fields #[.int lo t,.int hi u,.int 1 v] }).objs.size,[(s.heap.push { cls:=.type "range",data:=.fields #[.int lo t,.int hi u,.int 1 v] }).objs.size],_,_,H,rfl,
  I1.kept (t':=tk) fun b o e=>Heap.get?_push_of_some _ e,turn_range _ lo (hi - lo).toNat,?_,fun b hb=>?_,q⟩
 ·have e1:lo + ((0:Nat):Int) * 1=lo:=by simp
  have e2:(((hi - lo).toNat:Nat):Int) - ((0:Nat):Int)=Builtin.Range.rangeSize lo hi 1:=by rw[rangeSize_one];split <;> omega
  show IsRangeIter _ _ (lo + ((0:Nat):Int) * 1) ((((hi - lo).toNat:Nat):Int) - ((0:Nat):Int)) 1;rw[e1,e2];exact Heap.get?_push_size _ rfl
 ·have e:b=(s.heap.push { cls:=.type "range",data:=.fields #[.int lo t,.int hi u,.int 1 v] }).objs.size:=by simpa using hb
  subst e;exact I1.fpOk (Nat.le_refl _) (I1.hok.fresh (Nat.le_refl _))
def iRng1 (ta:TA):TI:=fun σ H R=>ta σ H fun vs H1=>∃ j:Int,vs=[.int j]/\-(2 ^ 62)<=j/\j < 2 ^ 62/\R (Itr 0 j.toNat) H1
def iRng2 (ta:TA):TI:=fun σ H R=>ta σ H fun vs H1=>∃ i j:Int,vs=[.int i,.int j]/\(-(2 ^ 62)<=i/\i < 2 ^ 62/\-(2 ^ 62)<=j/\j < 2 ^ 62)/\R (Itr i (j - i).toNat) H1
theorem pi_range1 {a:Expr}{ta:TA}{p pos:Pos}(hg:Gl X "range")(hm:X.mg "range" = none)(ha:PA X [a] ta)(hs:starEach [a] X.env=[(false,eval a X.env)]:=by rfl):PI X tg (.Call (.Name "range" p) [a] [] pos) (iRng1 ta):=by
 intro pins s σ H R I h;refine Call_ (ld_blt I hg hm boot_range (PyProof.Rows.callWith_type1 (thn (ha pos pins s σ H _ I h) fun us s1 ⟨vs,H1,I1,r1,q1⟩=>?_) hs rfl));obtain⟨j,e,q1,q2,q⟩:=q1;subst e;cases r1 with
 | cons r rr =>
  cases rr;obtain⟨t,rfl⟩:=r;exact call_range_1 (range_it I1 (by first | lia | omega) (by first | lia | omega) q1 q2 (by simpa using q))
theorem pi_range2 {a b:Expr}{ta:TA}{p pos:Pos}(hg:Gl X "range")(hm:X.mg "range" = none)(ha:PA X [a,b] ta)(hs:starEach [a,b] X.env=[(false,eval a X.env),(false,eval b X.env)]:=by rfl)(hs2:starEach [b] X.env=[(false,eval b X.env)]:=by rfl) :
  PI X tg (.Call (.Name "range" p) [a,b] [] pos) (iRng2 ta):=by
 intro pins s σ H R I h;refine Call_ (ld_blt I hg hm boot_range (PyProof.Rows.callWith_type1 (thn (ha pos pins s σ H _ I h) fun us s1 ⟨vs,H1,I1,r1,q1⟩=>?_) (by rw[hs,hs2]) (by rw[hs2];rfl)));obtain⟨i,j,e,⟨q1,q2,q3,q4⟩,q⟩:=q1;subst e;cases r1 with
 | cons r rr =>
  cases rr with
  | cons r' rr =>
   cases rr;obtain⟨t,rfl⟩:=r;obtain⟨t',rfl⟩:=r';exact call_range_2 (range_it I1 q1 q2 q3 q4 q)
def tFor (wi:TI)(g:TG)(tb:TS):TS:=fun D σ H=>wi σ H fun J H1=>∃ W:Nat->Nat->St->Hp->Prop,(∃ m,W 0 m σ H1)/\∀ i m σ H,W i m σ H ->
 (J.stop i H/\D.nx σ H)\/(J.go i H/\∃ N:St->Hp->Prop,(∀ σ' H',N σ' H'->∃ m',m' < m/\W (i + 1) m' σ' H')/\∀ x H',J.yld i H x H'->g x σ H' fun σ2 H2=>tb { D with nx:=N,ct:=N,bk:=D.nx } σ2 H2)
def pinsAt (fp:List Addr)(h:Heap):List (Addr×Obj):=fp.filterMap fun b=>(h.get? b).map fun o=>(b,o)
theorem mem_pinsAt {fp:List Addr}{h:Heap}{b:Addr}{o:Obj}(hb:b∈fp)(e:h.get? b=some o):(b,o)∈pinsAt fp h:=List.mem_filterMap.mpr ⟨b,hb,by rw[e];rfl⟩
theorem of_pinsAt {fp:List Addr}{h:Heap}{p:Addr×Obj}(hp:p∈pinsAt fp h):p.1∈fp/\h.get? p.1=some p.2:=by
 obtain⟨b,hb,e⟩:=List.mem_filterMap.mp hp;cases q:h.get? b with
 | none=>rw[q]at e;cases e
 | some o =>
  rw[q]at e;have e':(b,o)=p:=Option.some.inj e;subst e';exact⟨hb,q⟩
theorem Inv.pinned {pins:List (Addr×Obj)}{σ:St}{H:Hp}{s:Shared}{fp:List Addr}(I:Inv X pins σ H s)(hf:∀ b∈fp,FpOk X pins H b)(ho:∀ b∈fp,∃ o,s.heap.get? b=some o/\∀ v,o.data≠.cell v):Inv X (pins++pinsAt fp s.heap) σ H s :=
 I.pins_of fun p hp=>(List.mem_append.mp hp).elim (fun z=>I.pin p (List.mem_append_right _ z)) fun z=>by
  obtain⟨hb,e⟩:=of_pinsAt z;obtain⟨f0,f1,f2,_⟩:=hf p.1 hb;obtain⟨o,e',d⟩:=ho p.1 hb;rw[e]at e';cases e';exact⟨e,f0,f1,f2,d⟩
theorem Inv.unpinned {pins pl:List (Addr×Obj)}{σ:St}{H:Hp}{s:Shared}(I:Inv X (pins++pl) σ H s):Inv X pins σ H s:=I.pins_of fun p hp=>I.pin p (List.mem_append_right _ (List.mem_append_left _ hp))
theorem ps_for {iter:Expr}{body:List Stmt}{wi:TI}{g:TG}{tb:TS}{pos:Pos}(hp:PassesOwn (model X.prog X.w) X.A X.env X.xe)(hc:X.calm=true)(hi:PI X tg iter wi)(hg:PG X tg g)(hb:PSs X body tb)
  (hs:∀ x,foldedSetIterable iter X.env x=pure x:=by intro _;rfl):PS X (.For tg iter body [] pos) (tFor wi g tb):=by
 intro pins s σ H D I h;refine wpAny_For (thn (hi pins s σ H _ I h) fun v s1 h1=>thn h1 fun itv s2 h2=>?_) hs;obtain⟨it,fp,tn,J,H2,e,I2,T,st2,f2,W,⟨m0,w0⟩,turn⟩:=h2;subst e;have stat:∀ {H':Hp},(∀ b∈fp,H' b=none)->∀ b∈fp,FpOk X pins H' b:=fun hn b hb=>⟨hn b hb,(f2 b hb).2⟩;refine codeAny_forLoop_any (fun n s'=>∃ i σ' H',Inv X pins σ' H' s'/\tn i s'.heap/\(∀ b∈fp,H' b=none)/\W i n σ' H') ?_ m0 ⟨0,σ,H2,I2,st2,fun b hb=>(f2 b hb).1,w0⟩;rintro n s3 ⟨i,σ3,H3,I3,st3,fr3,w3⟩;rcases turn i n σ3 H3 w3 with ⟨stop,qn⟩|⟨go,N,hN,step⟩
 ·refine wpAny_passesOwn hp (thn (T.done X rfl rfl rfl hc i pins s3 σ3 H3 X.xe I3 (stat fr3) st3 stop) fun r s4 ⟨hr,I4⟩=>?_)
  subst hr;exact wpAny_execs_nil ⟨σ3,H3,I4,qn⟩
 ·refine wpAny_passesOwn hp (thn (T.item X rfl rfl rfl hc i pins s3 σ3 H3 X.xe I3 (stat fr3) st3 go) fun r s4 ⟨u,hr,h4⟩=>?_)
  subst hr;refine wpAny_passesOwn hp (thn h4 fun _ s5 ⟨x,H5,I5,r5,y5,st5,fr5⟩=>?_);have I5':=I5.pinned (stat fr5) (T.obj _ _ st5);refine wpAny_passesOwn hp (thn (hg _ s5 σ3 H5 x u _ I5' r5 (step x H5 y5)) fun _ s6 ⟨σ6,H6,I6,q6⟩=>?_);refine wpAny_passesOwn hp (thn (hb _ s6 σ6 H6 _ I6 q6) fun f s7 q7=>?_);have again:∀ {σ7:St} {H7:Hp},Inv X (pins++pinsAt fp s5.heap) σ7 H7 s7->N σ7 H7->∃ m,m < n/\∃ i σ' H',Inv X pins σ' H' s7/\tn i s7.heap/\(∀ b∈fp,H' b=none)/\W i m σ' H':=fun {σ7 H7} I7 n7=>by
   obtain⟨m',hm,w7⟩:=hN σ7 H7 n7;refine⟨m',hm,i + 1,σ7,H7,I7.unpinned,T.keep _ _ _ st5 fun b hb o e=>(I7.pin (b,o) (List.mem_append_right _ (List.mem_append_right _ (mem_pinsAt hb e)))).1,fun b hb=>?_,w7⟩;obtain⟨o,e,d⟩:=T.obj _ _ st5 b hb;exact(I7.pin (b,o) (List.mem_append_right _ (List.mem_append_right _ (mem_pinsAt hb e)))).2.1
  cases f with
  | next=>obtain⟨σ7,H7,I7,n7⟩:=q7;exact again I7 n7
  | cont=>obtain⟨σ7,H7,I7,n7⟩:=q7;exact again I7 n7
  | brk=>obtain⟨σ7,H7,I7,q7⟩:=q7;exact⟨σ7,H7,I7.unpinned,q7⟩
  | ret v=>obtain⟨x7,σ7,H7,I7,r7,q7⟩:=q7;exact⟨x7,σ7,H7,I7.unpinned,r7,q7⟩
end
end L2
namespace L2
open PySem PySem.Spec PyProof.Rows
abbrev R2:=V->V->Hp->VK->Prop
def OpR (X:Cx)(f:Value->Value->Sem Value)(r:R2):Prop :=
 ∀ (pins:List (Addr×Obj)) (s:Shared) (σ:St) (H:Hp) (x y:V) (v u:Value) (Q:VK),Inv X pins σ H s->RelV x v->RelV y u->r x y H Q ->
  wpAny (model X.prog X.w) X.A (f v u) (EP X pins σ Q) X.xe s
def UnR (X:Cx)(f:Value->Sem Value)(r:V->Hp->VK->Prop):Prop :=
 ∀ (pins:List (Addr×Obj)) (s:Shared) (σ:St) (H:Hp) (x:V) (v:Value) (Q:VK),Inv X pins σ H s->RelV x v->r x H Q ->
  wpAny (model X.prog X.w) X.A (f v) (EP X pins σ Q) X.xe s
def CallR (X:Cx)(f:Value)(r:List V->Hp->VK->Prop):Prop :=
 ∀ (pins:List (Addr×Obj)) (s:Shared) (σ:St) (H:Hp) (xs:List V) (us:List Value) (Q:VK),Inv X pins σ H s->Vals xs us->r xs H Q ->
  wpAny (model X.prog X.w) X.A (call f us) (EP X pins σ Q) X.xe s
def TruR (X:Cx)(r:V->Hp->(Bool->Hp->Prop)->Prop):Prop :=
 ∀ (pins:List (Addr×Obj)) (s:Shared) (σ:St) (H:Hp) (x:V) (v:Value) (Q:Bool->Hp->Prop),Inv X pins σ H s->RelV x v->r x H Q ->
  wpAny (model X.prog X.w) X.A (truthy v) (TP X pins σ Q) X.xe s
def tOp (r:R2)(ta tb:TE):TE:=fun σ H Q=>ta σ H fun x H1=>tb σ H1 fun y H2=>r x y H2 Q
def tUn (r:V->Hp->VK->Prop)(ta:TE):TE:=fun σ H Q=>ta σ H fun x H1=>r x H1 Q
def rI (C:Int->Int->Prop)(g:Int->Int->V):R2:=fun x y H Q=>∃ i j,x=.int i/\y=.int j/\C i j/\Q (g i j) H
def rI0 (g:Int->Int->V):R2:=fun x y H Q=>∃ i j,x=.int i/\y=.int j/\Q (g i j) H
def rU (g:Int->V):V->Hp->VK->Prop:=fun x H Q=>∃ i,x=.int i/\Q (g i) H
section
variable {X:Cx}{a b c:Expr}{ta tb tc:TE}{pos:Pos}
theorem binT (ha:PE X a ta)(hb:PE X b tb){pins:List (Addr×Obj)}{s:Shared}{σ:St}{H:Hp}{R:V->V->Hp->Prop}(I:Inv X pins σ H s)
  (h:ta σ H fun x H1=>tb σ H1 fun y H2=>R x y H2) {Q:Value->Shared->Prop} {f:Value->Value->Sem Value}
  (hf:∀ v u s2 x y H2,Inv X pins σ H2 s2->RelV x v->RelV y u->R x y H2->wpAny (model X.prog X.w) X.A (f v u) Q X.xe s2) :
  wpAny (model X.prog X.w) X.A (eval a X.env) (fun v s₁=>wpAny (model X.prog X.w) X.A (eval b X.env) (fun u s₂=>wpAny (model X.prog X.w) X.A (f v u) Q X.xe s₂) X.xe s₁) X.xe s:=by
 refine thn (ha pins s σ H _ I h) fun v s1 ⟨x,H1,I1,r1,q1⟩=>?_;refine thn (hb pins s1 σ H1 _ I1 q1) fun u s2 ⟨y,H2,I2,r2,q2⟩=>?_;exact hf v u s2 x y H2 I2 r1 r2 q2
theorem pe_op {op:Operator}{r:R2}(ho:OpR X (binaryOp op) r)(ha:PE X a ta)(hb:PE X b tb):PE X (.BinOp a op b pos) (tOp r ta tb):=by
 intro pins s σ H Q I h;exact wpAny_BinOp (binT ha hb I h fun v u s2 x y H2 I2 rx ry q=>ho pins s2 σ H2 x y v u Q I2 rx ry q)
theorem pe_un {op:UnaryOp}{r:V->Hp->VK->Prop}(ho:UnR X (unaryOp op) r)(ha:PE X a ta):PE X (.UnaryOp op a pos) (tUn r ta):=by
 intro pins s σ H Q I h;exact UnaryOp_ (thn (ha pins s σ H _ I h) fun v s1 ⟨x,H1,I1,r1,q1⟩=>ho pins s1 σ H1 x v Q I1 r1 q1)
theorem opI {f:Value->Value->Sem Value}{C:Int->Int->Prop}{g:Int->Int->Int}
  (rule:∀ (i j:Int) (t u:Tok) (s:Shared) (Q:Value->Shared->Prop) (E:Value->Shared->Prop),C i j->Q (.int (g i j) s.toks) { s with toks:=s.toks + 1 }->wpAny (model X.prog X.w) X.A (f (.int i t) (.int j u)) Q E s) :
  OpR X f (rI C fun i j=>.int (g i j)):=by
 intro pins s σ H x y v u Q I rx ry h;obtain⟨i,j,rfl,rfl,hc,q⟩:=h;obtain⟨t,rfl⟩:=rx;obtain⟨t',rfl⟩:=ry;exact rule i j t t' s _ _ hc ⟨.int (g i j),H,I.tok _,⟨_,rfl⟩,q⟩
theorem opI0 {f:Value->Value->Sem Value}{g:Int->Int->Int}
  (rule:∀ (i j:Int) (t u:Tok) (s:Shared) (Q:Value->Shared->Prop) (E:Value->Shared->Prop),Q (.int (g i j) s.toks) { s with toks:=s.toks + 1 }->wpAny (model X.prog X.w) X.A (f (.int i t) (.int j u)) Q E s) :
  OpR X f (rI0 fun i j=>.int (g i j)):=by
 intro pins s σ H x y v u Q I rx ry h;obtain⟨i,j,rfl,rfl,q⟩:=h;obtain⟨t,rfl⟩:=rx;obtain⟨t',rfl⟩:=ry;exact rule i j t t' s _ _ ⟨.int (g i j),H,I.tok _,⟨_,rfl⟩,q⟩
theorem opB0 {f:Value->Value->Sem Value}{g:Int->Int->Bool}
  (rule:∀ (i j:Int) (t u:Tok) (s:Shared) (Q:Value->Shared->Prop) (E:Value->Shared->Prop),Q (.bool (g i j)) s->wpAny (model X.prog X.w) X.A (f (.int i t) (.int j u)) Q E s) :
  OpR X f (rI0 fun i j=>.bl (g i j)):=by
 intro pins s σ H x y v u Q I rx ry h;obtain⟨i,j,rfl,rfl,q⟩:=h;obtain⟨t,rfl⟩:=rx;obtain⟨t',rfl⟩:=ry;exact rule i j t t' s _ _ ⟨.bl (g i j),H,I,rfl,q⟩
def CDiv (i j:Int):Prop:=0 < j/\j < 1073741824
def CPow (i j:Int):Prop:=0<=j/\j<=1000000/\i.natAbs < 2 ^ 64
def CMul (i j:Int):Prop:=(-(2 ^ 64) < i/\i < 2 ^ 64)\/(-(2 ^ 64) < j/\j < 2 ^ 64)
theorem CMul.ok {i j:Int}(h:CMul i j):IntMulOk i j:=by
 rcases h with ⟨h1,h2⟩|⟨h1,h2⟩
 ·exact .of_left (intBits_le_64 h1 h2)
 ·exact .of_right (intBits_le_64 h1 h2)
theorem op_add:OpR X (binaryOp .Add) (rI0 fun i j=>.int (i + j)):=opI0 fun _ _ _ _ _ _ _ q=>add_int q
theorem op_sub:OpR X (binaryOp .Sub) (rI0 fun i j=>.int (i - j)):=opI0 fun _ _ _ _ _ _ _ q=>sub_int q
theorem op_mul:OpR X (binaryOp .Mult) (rI CMul fun i j=>.int (i * j)):=opI fun _ _ _ _ _ _ _ hc q=>mul_int q hc.ok
theorem op_fdiv:OpR X (binaryOp .FloorDiv) (rI CDiv fun i j=>.int (i / j)):=opI fun i j _ _ _ _ _ hc q=>by
 have h1:(0:Int) < j:=hc.1;have h2:j < 1073741824:=hc.2;exact floordiv_int (by first | lia | omega) (by rw[Int.fdiv_eq_ediv_of_nonneg i (by first | lia | omega)];exact q) (.inl (PyProof.noPylong_small (by first | lia | omega)))
theorem op_mod:OpR X (binaryOp .Mod) (rI (fun _ j=>0 < j) fun i j=>.int (i % j)):=opI fun i j _ _ _ _ _ hc q=>by
 have h1:(0:Int) < j:=hc;exact mod_int' (by first | lia | omega) (by rw[Int.fmod_eq_emod_of_nonneg i (by first | lia | omega)];exact q)
theorem op_pow:OpR X (binaryOp .Pow) (rI CPow fun i j=>.int (i ^ j.toNat)):=opI fun _ _ _ _ _ _ _ hc q=>pow_int_small hc.1 hc.2.1 hc.2.2 q
theorem unI {f:Value->Sem Value}{g:Int->Int}
  (rule:∀ (i:Int) (t:Tok) (s:Shared) (Q:Value->Shared->Prop) (E:Value->Shared->Prop),Q (.int (g i) s.toks) { s with toks:=s.toks + 1 }->wpAny (model X.prog X.w) X.A (f (.int i t)) Q E s) :
  UnR X f (rU fun i=>.int (g i)):=by
 intro pins s σ H x v Q I rx h;obtain⟨i,rfl,q⟩:=h;obtain⟨t,rfl⟩:=rx;exact rule i t s _ _ ⟨.int (g i),H,I.tok _,⟨_,rfl⟩,q⟩
theorem un_neg:UnR X (unaryOp .USub) (rU fun i=>.int (-i)):=unI fun _ _ _ _ _ q=>neg_int q
end
section
variable {X:Cx}{a b c:Expr}{ta tb tc:TE}{pos:Pos}
theorem fin_bl {pins:List (Addr×Obj)}{σ:St}{H:Hp}{s:Shared}{Q:VK}{k k':Bool}(I:Inv X pins σ H s)(q:Q (.bl k) H)(e:k=k'):EP X pins σ Q (.bool k') s:=by
 subst e;exact⟨.bl k,H,I,rfl,q⟩
theorem op_lt:OpR X (compareOp .Lt) (rI0 fun i j=>.bl (decide (i < j))):=opB0 fun _ _ _ _ _ _ _ q=>lt_int q
theorem op_le:OpR X (compareOp .LtE) (rI0 fun i j=>.bl (decide (i<=j))):=opB0 fun _ _ _ _ _ _ _ q=>le_int q
theorem op_gt:OpR X (compareOp .Gt) (rI0 fun i j=>.bl (decide (j < i))):=opB0 fun _ _ _ _ _ _ _ q=>gt_int q
theorem op_ge:OpR X (compareOp .GtE) (rI0 fun i j=>.bl (decide (j<=i))):=opB0 fun _ _ _ _ _ _ _ q=>ge_int q
theorem op_lt_str:OpR X (compareOp .Lt) (fun x y H Q=>∃ i j,x=.str i/\y=.str j/\Q (.bl (decide (i.cps.toList < j.cps.toList))) H):=by
 intro pins s σ H x y v u Q I rx ry h;obtain⟨i,j,rfl,rfl,q⟩:=h;obtain⟨t,rfl⟩:=rx;obtain⟨t',rfl⟩:=ry;exact lt_str (fin_bl I q rfl)
theorem op_in_str:OpR X (compareOp .In) (fun x y H Q=>∃ i j,x=.str i/\y=.str j/\Q (.bl (!(Builtin.Str.occurrences j i 0 j.length 1).isEmpty)) H):=by
 intro pins s σ H x y v u Q I rx ry h;obtain⟨i,j,rfl,rfl,q⟩:=h;obtain⟨t,rfl⟩:=rx;obtain⟨t',rfl⟩:=ry;exact in_str (fin_bl I q rfl)
theorem op_isN:OpR X (compareOp .Is) (fun x y H Q=>y=.non/\Q (.bl (decide (x=.non))) H):=by
 intro pins s σ H x y v u Q I rx ry h;obtain⟨rfl,q⟩:=h;cases ry;refine is_none_gen (fin_bl I q ?_);cases x <;> first
  | (cases rx;rfl)
  | (obtain⟨t,rfl⟩:=rx;rfl)
theorem op_notN:OpR X (compareOp .IsNot) (fun x y H Q=>y=.non/\Q (.bl (!decide (x=.non))) H):=by
 intro pins s σ H x y v u Q I rx ry h;obtain⟨rfl,q⟩:=h;cases ry;refine isnot_none_gen (fin_bl I q ?_);cases x <;> first
  | (cases rx;rfl)
  | (obtain⟨t,rfl⟩:=rx;rfl)
theorem op_notin_str:OpR X (compareOp .NotIn) (fun x y H Q=>∃ i j,x=.str i/\y=.str j/\Q (.bl (!(!(Builtin.Str.occurrences j i 0 j.length 1).isEmpty))) H):=by
 intro pins s σ H x y v u Q I rx ry h;obtain⟨i,j,rfl,rfl,q⟩:=h;obtain⟨t,rfl⟩:=rx;obtain⟨t',rfl⟩:=ry;exact notIn_str (fin_bl I q rfl)
theorem pe_cmpR {op:CmpOp}{r:R2}(ho:OpR X (compareOp op) r)(ha:PE X a ta)(hb:PE X b tb)(hm:behindInMarks op b=false):PE X (.Compare a [op] [b] pos) (tOp r ta tb):=by
 intro pins s σ H Q I h;exact wpAny_Compare1 (binT ha hb I h fun v u s2 x y H2 I2 rx ry q=>ho pins s2 σ H2 x y v u Q I2 rx ry q) hm
def tTest (t:TE):TT:=fun σ H Q=>t σ H fun x H'=>∃ k,x=.bl k/\Q k H'
theorem pt_cmpR {op:CmpOp}{r:R2}(ho:OpR X (compareOp op) r)(ha:PE X a ta)(hb:PE X b tb)(hm:behindInMarks op b=false):PT X (.Compare a [op] [b] pos) (tTest (tOp r ta tb)):=by
 intro pins s σ H Q I h;refine wpAny_isTrue_Compare1 (thn (ha pins s σ H _ I h) fun v s1 ⟨x,H1,I1,r1,q1⟩=>thn (hb pins s1 σ H1 _ I1 q1) fun u s2 ⟨y,H2,I2,r2,q2⟩ =>
  thn (ho pins s2 σ H2 x y v u _ I2 r1 r2 q2) fun c s3 ⟨z,H3,I3,r3,k,e,q3⟩=>?_) hm
 subst e;cases r3;exact wpAny_truthy_bool ⟨H3,I3,q3⟩
def tChain (r r':R2)(ta tb tc:TE):TE:=fun σ H Q=>ta σ H fun x H1=>tb σ H1 fun y H2=>r x y H2 fun z H3=>∃ k,z=.bl k /\
 (if k=true then tc σ H3 fun w' H4=>r' y w' H4 Q else Q (.bl false) H3)
theorem pe_chain {op op':CmpOp}{r r':R2}(ho:OpR X (compareOp op) r)(ho':OpR X (compareOp op') r')(ha:PE X a ta)(hb:PE X b tb)(hc:PE X c tc)
  (hm:lastMarks [op,op'] [b,c]=false:=by with_unfolding_all rfl):PE X (.Compare a [op,op'] [b,c] pos) (tChain r r' ta tb tc):=by
 intro pins s σ H Q I h;refine Compare_chain (thn (ha pins s σ H _ I h) fun v s1 ⟨x,H1,I1,r1,q1⟩=>chain_link (thn (hb pins s1 σ H1 _ I1 q1) fun u s2 ⟨y,H2,I2,r2,q2⟩ =>
  thn (ho pins s2 σ H2 x y v u _ I2 r1 r2 q2) fun d s3 ⟨z,H3,I3,r3,k,e,q3⟩=>?_)) hm
 subst e;cases r3;refine wpAny_truthy_bool ?_;cases k with
 | false=>exact ite_ff ⟨.bl false,H3,I3,rfl,q3⟩
 | true=>exact ite_tt (chain_last (thn (hc pins s3 σ H3 _ I3 q3) fun w' s4 ⟨z',H4,I4,r4,q4⟩=>ho' pins s4 σ H4 y z' u w' Q I4 r2 r4 q4))
theorem pt_chain {op op':CmpOp}{r r':R2}(ho:OpR X (compareOp op) r)(ho':OpR X (compareOp op') r')(ha:PE X a ta)(hb:PE X b tb)(hc:PE X c tc)
  (hm:lastMarks [op,op'] [b,c]=false:=by with_unfolding_all rfl):PT X (.Compare a [op,op'] [b,c] pos) (tTest (tChain r r' ta tb tc)):=by
 intro pins s σ H Q I h;refine isTrue_chain (thn (ha pins s σ H _ I h) fun v s1 ⟨x,H1,I1,r1,q1⟩=>test_link (thn (hb pins s1 σ H1 _ I1 q1) fun u s2 ⟨y,H2,I2,r2,q2⟩ =>
  thn (ho pins s2 σ H2 x y v u _ I2 r1 r2 q2) fun d s3 ⟨z,H3,I3,r3,k,e,q3⟩=>?_)) hm
 subst e;cases r3;refine wpAny_truthy_bool ?_;cases k with
 | false =>
  obtain⟨k',e',q'⟩:=q3;cases e';exact ite_ff ⟨H3,I3,q'⟩
 | true =>
  refine ite_tt (test_last (thn (hc pins s3 σ H3 _ I3 q3) fun w' s4 ⟨z',H4,I4,r4,q4⟩=>thn (ho' pins s4 σ H4 y z' u w' _ I4 r2 r4 q4) fun d' s5 ⟨z2,H5,I5,r5,k2,e2,q5⟩=>?_));subst e2;cases r5;exact wpAny_truthy_bool ⟨H5,I5,q5⟩
def TruV (K:PySem.W.Frag)(x:V)(H:Hp)(k:Bool):Prop :=
 match x with
 | .non=>k=false
 | .bl b=>k=b
 | .int i=>k=(i != 0)
 | .str y=>y.length<=sizeLine/\k=((y.length:Int) != 0)
 | .byt y=>y.size<=sizeLine/\k=((y.size:Int) != 0)
 | .ref p=>(∃ xs,SqL K H p xs/\k = !xs.isEmpty)\/(∃ xs,SqT K H p xs/\k = !xs.isEmpty)\/∃ kvs,H p=some (.dK kvs)/\k = !kvs.isEmpty
 | _=>False
theorem isEmpty_kv {κ:Type}{kvs:List (κ×V)}{vs:List (κ×Value)}(r:KV kvs vs):(!vs.isEmpty) = !kvs.isEmpty:=by
 cases r <;> rfl
theorem isEmpty_of {xs:List V}{its:List Value}(r:Vals xs its):(!its.toArray.isEmpty) = !xs.isEmpty:=by
 cases r <;> simp
theorem line63:(sizeLine:Nat) < 2 ^ 63:=by rw[sizeLine_eq];decide
theorem tru_ok:TruR X (fun x H Q=>∃ k,TruV X.K x H k/\Q k H):=by
 intro pins s σ H x v Q I rx h;obtain⟨k,e,q⟩:=h;have hl:=line63;have hs:sizeLine=16777216:=sizeLine_eq;cases x with
 | non =>
  cases rx;have e':k=false:=e;subst e';exact truthy_none ⟨H,I,q⟩
 | bl b =>
  cases rx;have e':k=b:=e;subst e';exact wpAny_truthy_bool ⟨H,I,q⟩
 | int i =>
  obtain⟨t,rfl⟩:=rx;have e':k=(i != 0):=e;subst e';exact PySem.P.truthy_int ⟨H,I,q⟩
 | str y =>
  obtain⟨t,rfl⟩:=rx;obtain⟨hy,e'⟩:y.length<=sizeLine/\k=((y.length:Int) != 0):=e;subst e';exact PySem.P.truthy_str (by first | lia | omega) ⟨H,I.tok _,q⟩
 | byt y =>
  obtain⟨t,rfl⟩:=rx;obtain⟨hy,e'⟩:y.size<=sizeLine/\k=((y.size:Int) != 0):=e;subst e';exact PySem.W.truthy_bytes (by first | lia | omega) ⟨H,I.tok _,q⟩
 | ref p =>
  cases rx;have e':(∃ xs,SqL X.K H p xs/\k = !xs.isEmpty)\/(∃ xs,SqT X.K H p xs/\k = !xs.isEmpty)\/∃ kvs,H p=some (.dK kvs)/\k = !kvs.isEmpty:=e;rcases e' with ⟨xs,hx,e'⟩|⟨xs,hx,e'⟩|⟨kvs,hx,e'⟩
  ·subst e'
   obtain⟨its,r,pl,hz⟩:=I.list hx;have hlen:=r.length;exact wpAny_truthy_list pl.isList (by simp only[List.size_toArray];omega) ⟨H,I.tok _,by rw[isEmpty_of r];exact q⟩
  ·subst e'
   obtain⟨its,r,pl,hz⟩:=I.tuple hx;have hlen:=r.length;exact truthy_tuple pl (by simp only[List.size_toArray];omega) ⟨H,I.tok _,by rw[isEmpty_of r];exact q⟩
  ·subst e'
   obtain⟨hz,hS,vs,r,m⟩:kvs.length<=sizeLine/\(p==sysModules)=false/\∃ vs,KV kvs vs/\s.heap.DictOf (mixKind X.prog X.w) p vs:=I.hok p _ hx;have hlen:kvs.length=vs.length:=Paired.length r;exact wpAny_truthy_dict hS m (by first | lia | omega) ⟨H,I.tok _,by rw[isEmpty_kv r];exact q⟩
 | _=>exact(show False from e).elim
theorem op_add_str:OpR X (binaryOp .Add) (fun x y H Q=>∃ i j,x=.str i/\y=.str j/\i.length + j.length<=sizeLine/\Q (.str (i++j)) H):=by
 intro pins s σ H x y v u Q I rx ry h;obtain⟨i,j,rfl,rfl,hz,q⟩:=h;obtain⟨t,rfl⟩:=rx;obtain⟨t',rfl⟩:=ry;exact add_str (fun t' tk=>⟨.str (i++j),H,I.tok _,⟨_,rfl⟩,q⟩) hz
theorem vals1 {x:V}{us:List Value}(r:Vals [x] us):∃ u,us=[u]/\RelV x u:=by
 cases r with
 | cons r1 r2=>cases r2;exact⟨_,rfl,r1⟩
theorem vals2 {x y:V}{us:List Value}(r:Vals [x,y] us):∃ u w',us=[u,w']/\RelV x u/\RelV y w':=by
 cases r with
 | cons r1 r2 =>
  cases r2 with
  | cons r3 r4=>cases r4;exact⟨_,_,rfl,r1,r3⟩
theorem call_max2 (hc:X.calm=true):CallR X (.builtin "max") (fun xs H Q=>∃ i j,xs=[.int i,.int j]/\Q (.int (if j > i then j else i)) H):=by
 intro pins s σ H xs us Q I r h;obtain⟨i,j,rfl,q⟩:=h;obtain⟨u,w',rfl,⟨t,rfl⟩,⟨t',rfl⟩⟩:=vals2 r;refine max_two_ints (I.ok.hd hc) fun h' tk k=>⟨_,H,I.kept k,?_,q⟩;by_cases hj:j > i
 ·rw[if_pos hj,if_pos hj];exact⟨_,rfl⟩
 ·rw[if_neg hj,if_neg hj];exact⟨_,rfl⟩
end
end L2
namespace L2
open PySem PySem.Spec PyProof.Rows
section
variable {prog:Program}{w:World}{A:Around}{E:Value->Shared->Prop}{s:Shared}{K:PySem.W.Frag}{x dx C f:Addr}{mA:Str->Option Value}{name:Str}{v:Value}
end
theorem RelO.some_of {v:V}{o:Option Value}(r:RelO (some v) o):∃ u,o=some u/\RelV v u:=by
 cases o with
 | none=>exact(show False from r).elim
 | some u=>exact⟨u,rfl,r⟩
section
variable {P:Program}{w:World}{H H':Hp}{h h':Heap}{a C dx:Addr}{fs fs':List (Str×V)}
end
section
variable {X:Cx}{pins:List (Addr×Obj)}{σ:St}{H:Hp}{s:Shared}{a C dx:Addr}{fs:List (Str×V)}{f:Str}{v:V}{A:Around}{E:Value->Shared->Prop}
end
section
variable {X:Cx}{o e value:Expr}{f:Str}{pos pos' tpos:Pos}{ta tv:TE}
end
section
variable {X:Cx}{pins:List (Addr×Obj)}{σ:St}{H:Hp}{s:Shared}{A:Around}{E:Value->Shared->Prop}{Q:Value->Shared->Prop}{c:Value}{b:Bool}
end
end L2
namespace L2
open PySem PySem.Spec PyProof.Rows
structure Room (k:Nat) (A:Around):Prop where
 hd:A.handled=none
 dp:A.depth + 3 * k + 5 < recursionLimit
 un:A.units + 16 * k + 200 < cLine
 gd:A.guards=some []
theorem Room.deeper {k:Nat}{A:Around}(r:Room (k + 1) A)(env:Env):Room k (A.deeper env) :=
 ⟨r.hd,by have:=r.dp;show A.depth + 1 + 3 * k + 5 < _;omega,by have:=r.un;show A.units + 3 + 16 * k + 200 < _;omega,r.gd⟩
theorem Room.depth {k:Nat}{A:Around}(r:Room k A):A.depth < recursionLimit:=by have:=r.dp;omega
def tNil:TA:=fun _ H Q=>Q [] H
def tCons (ta:TE)(tr:TA):TA:=fun σ H Q=>ta σ H fun x H1=>tr σ H1 fun xs H2=>Q (x::xs) H2
section
variable {X:Cx}{e:Expr}{es:List Expr}{te:TE}{t:TA}{pos:Pos}
theorem pa_nil:PA X [] tNil:=fun _ _ _ _ H Q I h=>Calls.spliced_nil ⟨[],H,I,.nil,h⟩
theorem pa_cons (ha:PE X e te)(hr:PA X es t)(hs:starEach (e::es) X.env=(false,eval e X.env)::starEach es X.env:=by rfl):PA X (e::es) (tCons te t):=by
 intro pos pins s σ H Q I h;rw[hs];show wpAny _ _ (spliced ((false,eval e X.env)::backTo pos (starEach es X.env))) _ _ s;refine Calls.spliced_cons (thn (ha pins s σ H _ I h) fun u s1 ⟨x,H1,I1,r1,q1⟩=>?_);exact thn (hr pos pins s1 σ H1 _ I1 q1) fun us s2 ⟨xs,H2,I2,r2,q2⟩=>⟨x::xs,H2,I2,.cons r1 r2,q2⟩
def tTup (t:TA):TE:=fun σ H Q=>t σ H fun xs H1=>xs.length<=sizeLine/\∀ p,H1 p=none->Q (.ref p) (upd H1 p (.tup xs))
def tLst (t:TA):TE:=fun σ H Q=>t σ H fun xs H1=>xs.length<=sizeLine/\∀ p,H1 p=none->Q (.ref p) (upd H1 p (.lst xs))
theorem pe_tup {x1}(h:PA X es t):PE X (.Tuple es x1 pos) (tTup t):=by
 intro pins s σ H Q I hq;refine wpAny_Tuple_spliced (thn (h pos pins s σ H _ I hq) fun us s1 ⟨xs,H1,I1,r,z,q⟩=>⟨by rw[<- r.length];exact z,?_⟩);have hf:H1 s1.heap.objs.size=none:=I1.hok.fresh (Nat.le_refl _);refine⟨.ref s1.heap.objs.size,upd H1 s1.heap.objs.size (.tup xs),I1.laid (t':=s1.toks) (fun b u e=>Heap.get?_push_of_some _ e) (Nat.le_refl _) ?_,rfl,q _ hf⟩;exact⟨z,us,r,TupN.new _ _⟩
theorem pe_lst (h:PA X es t):PE X (.List es pos) (tLst t):=by
 intro pins s σ H Q I hq;refine wpAny_List_spliced (thn (h pos pins s σ H _ I hq) fun us s1 ⟨xs,H1,I1,r,z,q⟩=>⟨by rw[<- r.length];exact z,?_⟩);have hf:H1 s1.heap.objs.size=none:=I1.hok.fresh (Nat.le_refl _);refine⟨.ref s1.heap.objs.size,upd H1 s1.heap.objs.size (.lst xs),I1.laid (t':=s1.toks) (fun b u e=>Heap.get?_push_of_some _ e) (Nat.le_refl _) ?_,rfl,q _ hf⟩;exact⟨z,us,0,r,Heap.get?_push_size _ rfl⟩
end
abbrev Sp:=List V->Hp->VK->XK->Prop
abbrev CXT:=List Env->Hp->Shared->XK->Value->Shared->Prop
structure Env0 (P:Program) (w:World) (K:PySem.W.Frag) (mg:Str->Option Value) (base:Heap) (A:Around) (outer:List Env) (s:Shared) (H:Hp):Prop where
 frames:A.frames=some outer
 mod:Mod K mg base
 bs:∀ b o,base.get? b=some o->s.heap.get? b=some o/\H b=none
 bsz:base.objs.size<=s.heap.objs.size
 funs:s.heap.FunFrames base outer
 frf:∀ b∈frs outer,H b=none
 hok:HOk P w H s.heap
 bare:AllBare s.gens
def CE (outer:List Env)(P:Program)(w:World)(H:Hp)(s:Shared)(Q:VK)(u:Value)(s':Shared):Prop :=
 ∃ v H',s'.os=s.os/\AllBare s'.gens/\Un (frs outer) [] H H' s.heap s'.heap/\HOk P w H' s'.heap/\RelV v u/\Q v H'
def CR (CX:CXT)(outer:List Env)(P:Program)(w:World)(H:Hp)(s:Shared)(Q:VK)(E:XK)(r:Result)(s':Shared):Prop :=
 match r with
 | .ok (.ret u)=>CE outer P w H s Q u s'
 | .ok _=>False
 | .error e=>CX outer H s E e s'
structure FnOk (P:Program) (w:World) (K:PySem.W.Frag) (mg:Str->Option Value) (base:Heap) (CX:CXT) (k:Nat) (f:Addr) (fd:FuncData) (ps:List Str) (sp:Sp):Prop where
 len:∀ vs H Q E,sp vs H Q E->vs.length=ps.length
 run:∀ (A:Around) (outer:List Env) (s:Shared) (H:Hp) (args:Args) (us:List Value) (vs:List V) (Q:VK) (E:XK),Room k A->Env0 P w K mg base A outer s H->BindsTo s fd args (ps.zip us)->Vals vs us->sp vs H Q E ->
  codeAny (model P w) A (.call (.ref f) args) (CR CX outer P w H s Q E) s
section
variable {X:Cx}{pins:List (Addr×Obj)}{σ:St}{H:Hp}{s s':Shared}
theorem Inv.env0 (I:Inv X pins σ H s):Env0 X.prog X.w X.K X.mg X.base X.A X.stack s H :=
 ⟨I.ok.frames,I.ok.mod,I.bs,Nat.le_trans I.ok.bsz I.sz,I.stack,I.stkFree,I.hok,I.bare⟩
theorem Inv.after {Q:VK}{u:Value}(I:Inv X pins σ H s)(h:CE X.stack X.prog X.w H s Q u s'):EP X pins σ Q u s':=by
 obtain⟨v,H',os,bare,un,hok,r,q⟩:=h;obtain⟨hh,g,d,t,os'⟩:=s';obtain rfl:os'=s.os:=os;exact⟨v,H',I.call (h':=hh) (g':=g) (d':=d) (t':=t) (ch:=[]) un hok bare (fun b z=>absurd z (by simp)),r,q⟩
end
def tCall (sp:Sp)(dvs:List V)(E:XK)(t:TA):TE:=fun σ H Q=>t σ H fun vs H1=>sp (vs++dvs) H1 Q E
def Binds (K:PySem.W.Frag)(fd:FuncData)(ps:List Str)(ds:List Value):Prop :=
 ∀ (s:Shared) (us:List Value),K.In s.heap->(us++ds).length=ps.length->BindsTo s fd ⟨us,[]⟩ (ps.zip (us++ds))
theorem Binds.all {K:PySem.W.Frag}{fd:FuncData}{ps:List Str}(h:∀ us:List Value,us.length=ps.length->bindArgs fd ⟨us,[]⟩=pure (ps.zip us)):Binds K fd ps []:=fun s us _ hl=>by
 rw[List.append_nil]at hl ⊢;exact .of_eq (h us hl)
def Passes (CX:CXT)(X:Cx)(E:XK):Prop:=∀ (pins:List (Addr×Obj)) (σ:St) (H:Hp) (s:Shared) (e:Value) (s':Shared),Inv X pins σ H s->CX X.stack H s E e s'->X.xe e s'
section
variable {X:Cx}{CX:CXT}{k:Nat}{f C:Addr}{fd:FuncData}{ps:List Str}{sp:Sp}{dvs:List V}{ds:List Value}{E:XK}{x m:Str}{p pos apos:Pos}{e o:Expr}{es:List Expr}{ta:TE}{t:TA}
theorem run_fn {pins:List (Addr×Obj)}{σ:St}{H:Hp}{s:Shared}{Q:VK}{us:List Value}{vs:List V}(F:FnOk X.prog X.w X.K X.mg X.base CX k f fd ps sp)(hr:Room k X.A)(hb:Binds X.K fd ps ds)(hd:Vals dvs ds)(hx:Passes CX X E)
  (I:Inv X pins σ H s) (r:Vals vs us) (h:sp (vs++dvs) H Q E):wpAny (model X.prog X.w) X.A (call (.ref f) us) (EP X pins σ Q) X.xe s:=by
 have r2:Vals (vs++dvs) (us++ds):=r.append hd;have hl:(us++ds).length=ps.length:=by rw[<- r2.length];exact F.len _ _ _ _ h
 refine wpAny_call (codeAny_mono (F.run X.A X.stack s H ⟨us,[]⟩ (us++ds) (vs++dvs) Q E hr I.env0 (hb s us I.kIn hl) r2 h) fun r s' hq=>?_);cases r with
 | error e=>exact hx pins σ H s e s' I hq
 | ok fl =>
  cases fl with
  | ret u=>exact I.after hq
  | next=>exact False.elim hq
  | brk=>exact False.elim hq
  | cont=>exact False.elim hq
theorem pe_call (F:FnOk X.prog X.w X.K X.mg X.base CX k f fd ps sp)(hr:Room k X.A)(hg:Gl X x)(hm:X.mg x=some (.ref f))(hk:PySem.W.keepIn X.K (.ref f)=true)(hb:Binds X.K fd ps ds)(hd:Vals dvs ds)(hx:Passes CX X E)
  (ha:PA X (e::es) t) (hdb:(x==("__debug__" : Str))=false:=by decide) (he:starEach (e::es) X.env=(false,eval e X.env)::starEach es X.env:=by rfl) (hpl:(backTo pos (starEach es X.env)).any (·.1)=false:=by rfl) :
  PE X (.Call (.Name x p) (e::es) [] pos) (tCall sp dvs E t):=by
 intro pins s σ H Q I h;refine wpAny_Call_Name_kw (ld_glob I hg hm ?_ hdb);refine PySem.W.callWith_K (h₀:=X.base) I.ok.mod.kin hk (thn (ha pos pins s σ H _ I h) fun us s1 ⟨vs,H1,I1,r,q⟩=>⟨I1.kIn,?_⟩) he hpl;exact run_fn F hr hb hd hx I1 r q
end
section
variable {X:Cx}{CX:CXT}{k:Nat}{f C:Addr}{fd:FuncData}{ps ks:List Str}{sp:Sp}{E:XK}{x m:Str}{p pos apos kpos:Pos}{e o:Expr}{es:List Expr}{kws:List Keyword}{te ta:TE}{t tk:TA}{nm:Option Str}
variable {g:List Value->List Value->List Value}{gV:List V->List V->List V}
end
structure FnScope (N P:List Str) (sc:Scope):Prop where
 kind:sc.kind=.function
 co:sc.isCoroutine=false
 gen:sc.isGenerator=false
 nd:N.Nodup
 pre:N.take P.length=P
 par:∀ x∈P,sc.names.lookup x=some .local\/sc.names.lookup x=some .cell
 nofree:∀ y∈sc.names,y.2≠.free
theorem bindL_out {kindOf:Str->Option NameKind}{x:Str}:∀ {binds:List (Str×Value)} {m:Str->Option Value},(∀ v,(x,v) ∉ binds)->bindL kindOf binds m x=m x
 | [],_,_=>rfl
 | (n,v)::r,m,h=>by
  unfold bindL;rw[bindL_out fun w hw=>h w (List.mem_cons_of_mem _ hw)];split
  ·have:x≠n:=by rintro rfl;exact h v List.mem_cons_self
   simp[this]
  ·rfl
theorem bindC_out {kindOf:Str->Option NameKind}{x:Str}:∀ {binds:List (Str×Value)} {m:Str->Option Value},(∀ v,(x,v) ∉ binds)->bindC kindOf binds m x=m x
 | [],_,_=>rfl
 | (n,v)::r,m,h=>by
  unfold bindC;rw[bindC_out fun w hw=>h w (List.mem_cons_of_mem _ hw)];split
  ·rfl
  ·have:x≠n:=by rintro rfl;exact h v List.mem_cons_self
   simp[this]
theorem bindL_get {kindOf:Str->Option NameKind}{x:Str}{v:Value}:∀ {P:List Str} {vs:List Value} {i:Nat} {m:Str->Option Value},P.Nodup->P[i]?=some x->vs[i]?=some v->kindOf x=some .local ->
  bindL kindOf (P.zip vs) m x=some v
 | [],_,_,_,_,h,_,_=>by simp at h
 | _::_,[],_,_,_,_,h,_=>by simp at h
 | p::P,w::vs,0,m,nd,h1,h2,hk=>by
  simp at h1 h2;subst h1;subst h2;show bindL kindOf ((p,w)::P.zip vs) m p=_;unfold bindL;rw[bindL_out fun v hv=>(List.nodup_cons.mp nd).1 (List.of_mem_zip hv).1,if_pos hk];simp
 | p::P,w::vs,i + 1,m,nd,h1,h2,hk=>by
  show bindL kindOf ((p,w)::P.zip vs) m x=_;unfold bindL;exact bindL_get (i:=i) (List.nodup_cons.mp nd).2 (by simpa using h1) (by simpa using h2) hk
theorem bindC_get {kindOf:Str->Option NameKind}{x:Str}{v:Value}:∀ {P:List Str} {vs:List Value} {i:Nat} {m:Str->Option Value},P.Nodup->P[i]?=some x->vs[i]?=some v->kindOf x≠some .local ->
  bindC kindOf (P.zip vs) m x=some v
 | [],_,_,_,_,h,_,_=>by simp at h
 | _::_,[],_,_,_,_,h,_=>by simp at h
 | p::P,w::vs,0,m,nd,h1,h2,hk=>by
  simp at h1 h2;subst h1;subst h2;show bindC kindOf ((p,w)::P.zip vs) m p=_;unfold bindC;rw[bindC_out fun v hv=>(List.nodup_cons.mp nd).1 (List.of_mem_zip hv).1,if_neg hk];simp
 | p::P,w::vs,i + 1,m,nd,h1,h2,hk=>by
  show bindC kindOf ((p,w)::P.zip vs) m x=_;unfold bindC;exact bindC_get (i:=i) (List.nodup_cons.mp nd).2 (by simpa using h1) (by simpa using h2) hk
def start (N:List Str)(vs:List V):St:=vs.map some++List.replicate (N.length - vs.length) none
def cxOf (CX:CXT)(P:Program)(w:World)(K:PySem.W.Frag)(mg:Str->Option Value)(base:Heap)(N:List Str)(qual:Str)(scope:Scope)(f:Addr)(cd:Value)(A:Around)(outer:List Env)(s:Shared)(H:Hp)(E:XK):Cx where
 prog:=P
 w:=w
 K:=K
 mg:=mg
 base:=base
 A:=A.deeper (envOfC qual scope s.heap.objs.size f cd)
 N:=N
 s₀:=s
 H₀:=H
 env:=envOfC qual scope s.heap.objs.size f cd
 outer:=outer
 stack:=envOfC qual scope s.heap.objs.size f cd::outer
 ex:=[]
 calm:=true
 fn:=fun _=>true
 pn:=[]
 xe:=fun e s'=>wpAny (model P w) (A.deeper (envOfC qual scope s.heap.objs.size f cd)) (leaving (envOfC qual scope s.heap.objs.size f cd) e) (fun _ s''=>CX outer H s E e s'') (fun e' s''=>CX outer H s E e' s'') s'
theorem cell_has {sc:Scope}{n:Nat}{x:Str}(h:sc.names.lookup x=some .cell):∃ c,(cellsFrom n sc.names []).lookup x=some c:=by
 have q:=PySem.W.cellsFrom_some sc.names n [] (.inl h);exact Option.isSome_iff_exists.mp q
theorem inv_start {CX:CXT}{P:Program}{w:World}{K:PySem.W.Frag}{mg:Str->Option Value}{base:Heap}{N ps:List Str}{qual:Str}{scope:Scope}{f:Addr}{cd:Value}{A:Around}{outer:List Env}{s s1:Shared}{H:Hp}{E:XK}{us:List Value}{vs:List V}
  (S:FnScope N ps scope) (hd:A.handled=none) (e0:Env0 P w K mg base A outer s H) (hl:vs.length=ps.length) (r:Vals vs us)
  (x:InCallC s s.heap.objs.size (bindL (envOfC qual scope s.heap.objs.size f cd).kindOf (ps.zip us) fun _=>none) (cellsFrom (s.heap.objs.size + 1) scope.names []) (bindC (envOfC qual scope s.heap.objs.size f cd).kindOf (ps.zip us) fun _=>none) s1) :
  Inv (cxOf CX P w K mg base N qual scope f cd A outer s H E) [] (start N vs) H s1:=by
 have hpl:ps.length<=N.length:=by have:=congrArg List.length S.pre;rw[List.length_take]at this;omega
 obtain⟨h1,tk,rfl,hk⟩:=x.done;have noA:∀ b:Addr,b ∉ (cxOf CX P w K mg base N qual scope f cd A outer s H E).ex:=fun b z=>absurd (show b∈([]:List Addr) from z) (by simp);refine⟨⟨e0.mod,S.kind,rfl,rfl,Nat.le_refl _,fun y z c h1 h2=>?_,fun y hy=>?_,fun y c _ h=>?_,fun _=>hd,Around.frames_deeper e0.frames,.inr ⟨rfl,rfl⟩,fun b z=>absurd z (noA b),e0.bs,e0.bsz,fun b _ _=>noA b,fun b z=>absurd z (noA b),e0.funs,e0.frf⟩,
  rfl,e0.bare,Un.kept hk,⟨_,x.toInCall.ns,fun i y v h1 h2 h3=>?_⟩,fun y c h=>⟨_,x.cell y c h⟩,e0.hok.fresh (Nat.le_refl _),fun y c h=>?_,fun p hp=>absurd (show p∈([]:List (Addr×Obj)) from hp) (by simp),e0.hok.kept hk,?_⟩
 ·exact name_of_addr x.apart (PySem.mem_of_lookup h1) (PySem.mem_of_lookup h2)
 ·have hy:scope.names.lookup y=some .cell\/scope.names.lookup y=some .free:=hy
  rcases hy with hy | hy
  ·exact cell_has hy
  ·exact absurd rfl (S.nofree _ (PySem.mem_of_lookup hy))
 ·exact Nat.le_of_lt (x.above y c (PySem.mem_of_lookup h))
 ·have hi:i < vs.length:=by
   unfold start at h2;by_cases hi:i < vs.length
   ·exact hi
   ·rw[List.getElem?_append_right (by simpa using hi)]at h2
    rw[List.getElem?_replicate]at h2;split at h2 <;> cases h2
  have ha:vs[i]?=some v:=by
   unfold start at h2;rw[List.getElem?_append_left (by simpa using hi),List.getElem?_map]at h2;cases e:vs[i]? with
   | none=>rw[e]at h2;cases h2
   | some a=>rw[e]at h2;cases h2;rfl
  obtain⟨u,hu,rv⟩:=r.get ha;have hp:ps[i]?=some y:=by
   rw[<- S.pre,List.getElem?_take_of_lt (by first | lia | omega)];exact h1
  have ndP:ps.Nodup:=by rw[<- S.pre];exact S.nd.sublist (List.take_sublist _ _)
  refine⟨u,rv,?_⟩;rcases S.par y (List.mem_of_getElem? hp) with k | k
  ·exact .inl ⟨k,bindL_get ndP hp hu k⟩
  ·obtain⟨c,e⟩:=cell_has (n:=s.heap.objs.size + 1) k
   refine .inr ⟨.inl k,c,e,?_⟩;have q:=x.cell y c e;rw[bindC_get ndP hp hu (by show scope.names.lookup y≠_;rw[k];decide)]at q;exact q
 ·exact e0.hok.fresh (Nat.le_of_lt (x.above y c (PySem.mem_of_lookup h)))
 ·unfold start
  show _=N.length;rw[List.length_append,List.length_map,List.length_replicate];first | lia | omega
theorem fn_of {CX:CXT}{P:Program}{w:World}{K:PySem.W.Frag}{mg:Str->Option Value}{base:Heap}{k:Nat}{f:Addr}{name qual:Str}{params:Arguments}{body:List Stmt}{scope:Scope}{dV kV doc pm cdv ct oc:Value}{an od:Option Addr}
  {osl:Array (Option Value)} {N ps:List Str} {sp:Sp} (lk:K.lookup f=some ⟨oc,od,.func (PySem.W.fnOf name qual params body scope dV kV doc pm an cdv ct),osl⟩) (hcd:PySem.W.codeIn K cdv qual=true) (S:FnScope N ps scope)
  (len:∀ vs H Q E,sp vs H Q E->vs.length=ps.length)
  (hbody:∀ (A:Around) (outer:List Env) (s:Shared) (H:Hp) (vs:List V) (Q:VK) (E:XK),Room k (A.deeper (envOfC qual scope s.heap.objs.size f cdv))->sp vs H Q E ->
   ∃ t,PSs (cxOf CX P w K mg base N qual scope f cdv A outer s H E) body t/\t { nx:=fun _ H'=>Q .non H',rt:=Q } (start N vs) H) :
  FnOk P w K mg base CX (k + 1) f (PySem.W.fnOf name qual params body scope dV kV doc pm an cdv ct) ps sp:=by
 refine⟨len,fun A outer s H args us vs Q E hr e0 hb r hsp=>?_⟩;have hl:=len _ _ _ _ hsp;have KX:K.In s.heap:=e0.mod.kin.keeps fun b o e=>(e0.bs b o e).1;have lim:s.heap.NoLimit:=e0.mod.nolimit.keeps fun b o e=>(e0.bs b o e).1;have hkind:∀ y∈ps.zip us,scope.names.lookup y.1=some .local\/(scope.names.lookup y.1=some .cell/\((cellsFrom (s.heap.objs.size + 1) scope.names []).lookup y.1).isSome=true):=fun ⟨n,v⟩ hy=>by
  rcases S.par n (List.of_mem_zip hy).1 with q | q
  ·exact .inl q
  ·exact .inr ⟨q,PySem.W.cellsFrom_some _ _ _ (.inl q)⟩
 refine codeAny_call_function hr.depth (KX _ _ lk) rfl S.co S.gen rfl (PySem.W.codeRec_of KX hcd) (hb _ _ _ _ ?_);refine wpAny_newFunctionEnv_cells S.kind hkind fun env he s1 x=>?_;subst he;refine⟨lim.keeps x.toInCall.keep,codeAny_func ?_⟩;obtain⟨t,ht,hq⟩:=hbody A outer s H vs Q E (hr.deeper _) hsp;have I:Inv (cxOf CX P w K mg base N qual scope f cdv A outer s H E) [] (start N vs) H s1:=inv_start S hr.hd e0 hl r x;refine wpAny_mono (ht [] s1 (start N vs) H _ I hq) (fun fl s' hs=>?_) fun e s' hs=>hs;have fin:∀ {σ':St} {H':Hp} {v:V} {u:Value},Inv (cxOf CX P w K mg base N qual scope f cdv A outer s H E) [] σ' H' s'->RelV v u->Q v H'->CE outer P w H s Q u s' :=
  fun {σ' H' v u} J rv q=>⟨v,H',J.os,J.bare,J.base,J.hok,rv,q⟩
 cases fl with
 | ret u =>
  obtain⟨v,σ',H',J,rv,q⟩:=hs;exact fin J rv q
 | next =>
  obtain⟨σ',H',J,q⟩:=hs;exact fin (v:=V.non) (u:=Value.none) J rfl q
 | brk =>
  obtain⟨_,_,_,q⟩:=hs;exact False.elim q
 | cont =>
  obtain⟨_,_,_,q⟩:=hs;exact False.elim q
end L2
namespace L2
open PySem PySem.Spec PyProof.Rows
section
variable {X:Cx}{x:Str}{p pos:Pos}{e:Expr}{es:List Expr}{t:TA}{id T:String}{r:List V->Hp->VK->Prop}
def tCB (r:List V->Hp->VK->Prop)(t:TA):TE:=fun σ H Q=>t σ H fun vs H1=>r vs H1 Q
theorem pe_callB (hc:CallR X (.builtin id) r)(hg:Gl X x)(hm:X.mg x=none)(hv:bootBuiltins x=some (.builtin id))(ha:PA X (e::es) t)(hn:x≠"__name__":=by decide)(hdb:(x==("__debug__" : Str))=false:=by decide)
  (he:starEach (e::es) X.env=(false,eval e X.env)::starEach es X.env:=by rfl) (hpl:(backTo pos (starEach es X.env)).any (·.1)=false:=by rfl):PE X (.Call (.Name x p) (e::es) [] pos) (tCB r t):=by
 intro pins s σ H Q I h;refine wpAny_Call_Name_kw (ld_blt I hg hm hv ?_ hn hdb);exact PyProof.Rows.callWith_builtin1 (thn (ha pos pins s σ H _ I h) fun us s1 ⟨vs,H1,I1,r1,q1⟩=>hc pins s1 σ H1 vs us Q I1 r1 q1) he hpl
theorem pe_callTy (hc:CallR X (.type T) r)(hg:Gl X x)(hm:X.mg x=none)(hv:bootBuiltins x=some (.type T))(ha:PA X (e::es) t)(hn:x≠"__name__":=by decide)(hdb:(x==("__debug__" : Str))=false:=by decide)
  (he:starEach (e::es) X.env=(false,eval e X.env)::starEach es X.env:=by rfl) (hpl:(backTo pos (starEach es X.env)).any (·.1)=false:=by rfl):PE X (.Call (.Name x p) (e::es) [] pos) (tCB r t):=by
 intro pins s σ H Q I h;refine wpAny_Call_Name_kw (ld_blt I hg hm hv ?_ hn hdb);exact PyProof.Rows.callWith_type1 (thn (ha pos pins s σ H _ I h) fun us s1 ⟨vs,H1,I1,r1,q1⟩=>hc pins s1 σ H1 vs us Q I1 r1 q1) he hpl
end
end L2
namespace HT
open PySem PyProof.Rows
section
open PySem.SeqAt
open PySem.AutoSeq1 (wpAny_loadPart')
open PySem.MeetsSeq PySem.MeetsSeq2 PySem.MeetsSeq3
end
section
variable {prog:Program}{w:World}{A:Around}{E:Value->Shared->Prop}{s:Shared}
theorem cat_tup {t b:Addr}{vs ws:List Value}{Q:Value->Shared->Prop}(ht:IsTup s.heap t vs.toArray)(hb:IsTup s.heap b ws.toArray)(hv:vs≠[])
  (h1:ws=[]->Q (.ref t) s) (h2:ws≠[]->Q (.ref s.heap.objs.size) { s with heap:=s.heap.push { cls:=.type "tuple",data:=.seq (vs++ws).toArray } })
  (hsz:vs.length + ws.length<=sizeLine):wpAny (model prog w) A (binaryOp .Add (.ref t) (.ref b)) Q E s:=by
 obtain⟨⟨cls,dd,data,sl⟩,ho,hc,n,hd⟩:=id ht;obtain⟨⟨cls2,dd2,data2,sl2⟩,ho2,hc2,n2,hd2⟩:=id hb;simp only at hc hd hc2 hd2;subst hc hd hc2 hd2;have e:vs.toArray++ws.toArray=(vs++ws).toArray:=by simp
 by_cases hw:ws=[]
 ·exact concat_meets ⟨_,ho,rfl⟩ ⟨_,ho2,rfl⟩ noFill_tuple_add seq_tuple_add PySem.F.slot_tuple_add PySem.F.entry_tuple_add (PySem.F.args_tuple_add_2 _ _)
   (tuple_addW1 t b vs.toArray ws.toArray n n2 dd dd2 sl sl2 (by simpa using hv) (by simp[hw])) ⟨ho,ho2,h1 hw⟩
 ·refine concat_meets ⟨_,ho,rfl⟩ ⟨_,ho2,rfl⟩ noFill_tuple_add seq_tuple_add PySem.F.slot_tuple_add PySem.F.entry_tuple_add (PySem.F.args_tuple_add_2 _ _)
   (tuple_addW2 t b vs.toArray ws.toArray n n2 dd dd2 sl sl2 (by simpa using hv) (by simpa using hw) (by rw[List.size_toArray,List.size_toArray];exact hsz)) ⟨ho,ho2,?_⟩
  rw[e];exact h2 hw
def sIx (n d:Nat):Option Int->Nat
 | none=>d
 | some v=>if v < 0 then (v + (n:Int)).toNat else min v.toNat n
theorem sIx_le (n d:Nat)(hd:d<=n)(o:Option Int):sIx n d o<=n:=by
 cases o with
 | none=>exact hd
 | some v =>
  show (if v < 0 then (v + (n:Int)).toNat else min v.toNat n)<=n;by_cases hv:v < 0
  ·rw[if_pos hv];omega
  ·rw[if_neg hv];exact Nat.min_le_right _ _
theorem clip_eq (v:Int)(n d:Nat):(if v < 0 then max (v + (n:Int)) 0 else min v (n:Int))=((sIx n d (some v):Nat):Int):=by
 show (if v < 0 then max (v + (n:Int)) 0 else min v (n:Int))=(((if v < 0 then (v + (n:Int)).toNat else min v.toNat n):Nat):Int);by_cases hv:v < 0
 ·simp only[if_pos hv];omega
 ·simp only[if_neg hv];omega
theorem adjust_gen (lo hi:Option Int)(n:Nat):Builtin.Slice.sliceAdjust lo hi 1 (n:Int)=(((sIx n 0 lo:Nat):Int),((sIx n n hi:Nat):Int)):=by
 have h1:¬ ((1:Int) < 0):=by first | lia | omega
 unfold Builtin.Slice.sliceAdjust;simp only[h1,if_false];refine Prod.ext ?_ ?_
 ·cases lo with
  | none=>rfl
  | some v=>exact clip_eq v n 0
 ·cases hi with
  | none=>rfl
  | some v=>exact clip_eq v n n
theorem places_gen (i j:Nat):Builtin.Slice.slicePlaces (i:Int) (j:Int) 1=j - i:=by
 unfold Builtin.Slice.slicePlaces;have h1:(1:Int) > 0:=by first | lia | omega
 simp only[h1,if_true,Int.ediv_one];split <;> omega
theorem slicePart_ {v:Value}{o:Option Int}{Q:Option Int->Shared->Prop}(p:IsPart v o)(h:Q o s):wpAny (model prog w) A (Builtin.Slice.slicePartIndex v) Q E s:=by
 cases p with
 | none=>exact slicePart_none h
 | int i t=>exact slicePart_int h
theorem sliceApplied_gen {sl:Addr}{vl vu:Value}{lo hi:Option Int}{n:Nat}{Q:Int×Int×Nat->Shared->Prop}(hs:s.heap.IsSliceOf sl vl vu .none)(pl:IsPart vl lo)(pu:IsPart vu hi)
  (h:Q (((sIx n 0 lo:Nat):Int),1,sIx n n hi - sIx n 0 lo) s):wpAny (model prog w) A (Builtin.Slice.sliceApplied (.ref sl) (pure (n:Int))) Q E s:=by
 obtain⟨os,hos,hcs,hds⟩:=id hs;unfold Builtin.Slice.sliceApplied Builtin.Slice.sliceFields;refine wpAny_bind (wpAny_bind (wpAny_field hos hds (x:=vl) rfl (wpAny_bind (wpAny_field hos hds (x:=vu) rfl (wpAny_bind (wpAny_field hos hds (x:=.none) rfl (wpAny_pure ?_)))))));refine wpAny_bind (slicePart_none ?_);show wpAny _ _ (if ((1:Int)==0)=true then _ else _) _ _ s;rw[if_neg (by decide)];refine wpAny_bind (slicePart_ pl (wpAny_bind (slicePart_ pu (wpAny_bind (wpAny_pure ?_)))));show wpAny _ _ (match Builtin.Slice.sliceAdjust lo hi 1 (n:Int) with | (lo,hi)=>pure (lo,(1:Int),Builtin.Slice.slicePlaces lo hi 1)) _ _ s;rw[adjust_gen lo hi n];show wpAny _ _ (pure (((sIx n 0 lo:Nat):Int),(1:Int),Builtin.Slice.slicePlaces ((sIx n 0 lo:Nat):Int) ((sIx n n hi:Nat):Int) 1)) _ _ s;rw[places_gen];exact wpAny_pure h
theorem pick_gen (xs:Array Value)(i k:Nat):((List.range k).filterMap fun (m:Nat)=>xs[((i:Int) + (m:Int) * 1).toNat]?).toArray=((xs.toList.drop i).take k).toArray:=by
 have e:(fun (m:Nat)=>xs[((i:Int) + (m:Int) * 1).toNat]?)=fun m=>xs[i + m]?:=by
  funext m
  have:((i:Int) + (m:Int) * 1).toNat=i + m:=by first | lia | omega
  rw[this]
 rw[e]
 have:=pick_run xs i k
 rw[List.filterMap_map]at this;have e2:((fun x=>xs[x]?) ∘ fun x=>i + x)=fun m=>xs[i + m]?:=rfl;rw[e2]at this;rw[this]
theorem getItem_tuple_cut {t sl:Addr}{items:Array Value}{vl vu:Value}{lo hi:Option Int}{Q:Value->Shared->Prop}(ht:IsTup s.heap t items)(hs:s.heap.IsSliceOf sl vl vu .none)(pl:IsPart vl lo)(pu:IsPart vu hi)
  (hw:¬ (sIx items.size 0 lo=0/\sIx items.size items.size hi=items.size))
  (h:Q (.ref s.heap.objs.size) { s with heap:=s.heap.push { cls:=.type "tuple",data:=.seq ((items.toList.drop (sIx items.size 0 lo)).take (sIx items.size items.size hi - sIx items.size 0 lo)).toArray } })
  (hsz:items.size<=sizeLine):wpAny (model prog w) A (getItem (.ref t) (.ref sl)) Q E s:=by
 have htake:sizeOk (.seq ((items.toList.drop (sIx items.size 0 lo)).take (sIx items.size items.size hi - sIx items.size 0 lo)).toArray):=by
  show ((items.toList.drop (sIx items.size 0 lo)).take (sIx items.size items.size hi - sIx items.size 0 lo)).toArray.size<=sizeLine;rw[List.size_toArray,List.length_take,List.length_drop,Array.length_toList];first | lia | omega
 have hj:sIx items.size items.size hi<=items.size:=sIx_le _ _ (Nat.le_refl _) hi;obtain⟨os,hos,hcs,hds⟩:=id hs;have hTs:s.TypeIs (.ref sl) "slice":=⟨os,hos,hcs⟩;unfold getItem
 try with_reducible refine wpAny_holding ?_
 first | refine wpAny_bind (wpAny_pure ?_) | skip
 refine wpAny_bind (wpAny_sequenceKey ht.typeIs (by decide) ?_);refine wpAny_bind (wpAny_callSpecial?_slot (name:=Str.ofString "__getitem__") ht.typeIs PyProof.Rows.slot_tuple_getitem
  (wpAny_call_entry PyProof.Rows.slot_tuple_getitem ht.typeIs entry_tuple_getitem ?_ (args_tuple_getitem _ _)))
 show wpAny _ _ (Builtin.Tuple.tupleItemsOf (.ref t) >>= _) _ _ s;refine wpAny_bind (tupleItemsOf_ ht ?_);refine wpAny_bind (wpAny_typeOf hTs ?_);rw[if_pos (by decide)];refine wpAny_bind (sliceApplied_gen hs pl pu ?_);have hno:¬ ((((sIx items.size 0 lo:Nat):Int)==0&&(1:Int)==1&&(sIx items.size items.size hi - sIx items.size 0 lo)==items.size)=true):=by
  intro q;rw[Bool.and_eq_true,Bool.and_eq_true]at q;have q1:((sIx items.size 0 lo:Nat):Int)=0:=eq_of_beq q.1.1;have q2:sIx items.size items.size hi - sIx items.size 0 lo=items.size:=eq_of_beq q.2;exact hw ⟨by omega,by omega⟩
 show wpAny _ _ (if (((sIx items.size 0 lo:Nat):Int)==0&&(1:Int)==1&&(sIx items.size items.size hi - sIx items.size 0 lo)==items.size)=true then _ else _) _ _ s;rw[if_neg hno,pick_gen]
 first
  | exact wpAny_bind (m:=Builtin.Tuple.tupleExact _) (wpAny_newObj_type (wpAny_pure ⟨_,rfl,wpAny_pure h⟩) htake)
  | exact wpAny_bind (m:=Builtin.Tuple.tupleExact _) (wpAny_newObj_type (wpAny_bind (wpAny_pure (wpAny_pure ⟨_,rfl,wpAny_pure h⟩))) htake)
  | exact wpAny_bind (wpAny_bind (m:=Builtin.Tuple.tupleExact _) (wpAny_newObj_type (wpAny_pure (wpAny_pure ⟨_,rfl,wpAny_pure h⟩)) htake))
  | exact wpAny_bind (wpAny_bind (m:=Builtin.Tuple.tupleExact _) (wpAny_newObj_type (wpAny_pure ⟨_,rfl,wpAny_pure h⟩) htake))
end
end HT
namespace L2
open PySem PySem.Spec PyProof.Rows
abbrev TO:=St->Hp->(Option Int->Hp->Prop)->Prop
def PO (X:Cx)(e:Option Expr)(t:TO):Prop :=
 ∀ (pins:List (Addr×Obj)) (s:Shared) (σ:St) (H:Hp) (Q:Option Int->Hp->Prop),Inv X pins σ H s->t σ H Q ->
  wpAny (model X.prog X.w) X.A (evalPart e X.env) (fun u s'=>∃ o H',Inv X pins σ H' s'/\IsPart u o/\Q o H') X.xe s
def tNoPart:TO:=fun _ H Q=>Q none H
def tPart (t:TE):TO:=fun σ H Q=>t σ H fun x H1=>∃ i,x=.int i/\Q (some i) H1
section
variable {X:Cx}{e:Expr}{te:TE}{lo hi:Option Expr}{tl th:TO}{pos p2:Pos}
theorem po_none:PO X none tNoPart:=by
 intro pins s σ H Q I h;rw[evalPart_none];exact wpAny_pure ⟨none,H,I,.none,h⟩
theorem po_some (h:PE X e te):PO X (some e) (tPart te):=by
 intro pins s σ H Q I hw;rw[evalPart_some];refine thn (h pins s σ H _ I hw) fun u s1 ⟨x,H1,I1,r1,q1⟩=>?_;obtain⟨i,rfl,q⟩:=q1;obtain⟨t,rfl⟩:=r1;exact⟨some i,H1,I1,.int i t,q⟩
def SlR (X:Cx)(r:V->Option Int->Option Int->Hp->VK->Prop):Prop :=
 ∀ (pins:List (Addr×Obj)) (s:Shared) (σ:St) (H:Hp) (x:V) (v vl vu:Value) (lo hi:Option Int) (sl:Addr) (Q:VK),Inv X pins σ H s->RelV x v->s.heap.IsSliceOf sl vl vu .none->IsPart vl lo->IsPart vu hi->r x lo hi H Q ->
  ∃ T id,typeLookup (.type T) "__getitem__" = pure (some (.builtin id))/\s.TypeIs v T/\wpAny (model X.prog X.w) X.A (getItem v (.ref sl)) (EP X pins σ Q) X.xe s
def tSl (r:V->Option Int->Option Int->Hp->VK->Prop)(te:TE)(tl th:TO):TE:=fun σ H Q=>te σ H fun x H1=>tl σ H1 fun l H2=>th σ H2 fun u H3=>r x l u H3 Q
theorem pe_slice {r:V->Option Int->Option Int->Hp->VK->Prop}(hr:SlR X r)(he:PE X e te)(hl:PO X lo tl)(hu:PO X hi th):PE X (.Subscript e (.Slice lo hi none p2) pos) (tSl r te tl th):=by
 intro pins s σ H Q I h;refine Subscript_ (thn (he pins s σ H _ I h) fun v s1 ⟨x,H1,I1,r1,q1⟩=>?_);refine wpAny_Slice (thn (hl pins s1 σ H1 _ I1 q1) fun vl s2 ⟨l,H2,I2,pl,q2⟩=>thn (hu pins s2 σ H2 _ I2 q2) fun vu s3 ⟨u,H3,I3,pu,q3⟩=>?_);rw[evalPart_none];refine wpAny_pure ?_;have I4:Inv X pins σ H3 { s3 with heap:=s3.heap.push { cls:=.type "slice",data:=.fields #[vl,vu,.none] } }:=I3.kept (t':=s3.toks) fun b ob q=>Heap.get?_push_of_some _ q;obtain⟨T,id,hT,ht,hg⟩:=hr pins { s3 with heap:=s3.heap.push { cls:=.type "slice",data:=.fields #[vl,vu,.none] } } σ H3 x v vl vu l u s3.heap.objs.size Q I4 r1 (Heap.IsSliceOf.new ..) pl pu q3;show wpAny (model X.prog X.w) X.A (subscriptTail e (.Slice lo hi none p2) v (.ref s3.heap.objs.size)) (EP X pins σ Q) X.xe { s3 with heap:=s3.heap.push { cls:=.type "slice",data:=.fields #[vl,vu,.none] } };exact tail_any (ops:=[.ref s3.heap.objs.size,v]) ht hT hg (by with_unfolding_all rfl)
def cutV (xs:List V)(lo hi:Option Int):List V:=(xs.drop (HT.sIx xs.length 0 lo)).take (HT.sIx xs.length xs.length hi - HT.sIx xs.length 0 lo)
theorem cutV_length (xs:List V)(lo hi:Option Int):(cutV xs lo hi).length<=xs.length:=by
 unfold cutV;rw[List.length_take,List.length_drop];first | lia | omega
def rSlT (K:PySem.W.Frag):V->Option Int->Option Int->Hp->VK->Prop:=fun x lo hi H Q=>∃ a xs,x=.ref a/\SqT K H a xs /\
 ¬ (HT.sIx xs.length 0 lo=0/\HT.sIx xs.length xs.length hi=xs.length)/\∀ p,H p=none->Q (.ref p) (upd H p (.tup (cutV xs lo hi)))
theorem sl_tup:SlR X (rSlT X.K):=by
 intro pins s σ H x v vl vu lo hi sl Q I rx hs pl pu h;obtain⟨a,xs,rfl,hx,hw,q⟩:=h;cases rx;obtain⟨its,r,ht,hz⟩:=I.tuple hx;have hlen:its.toArray.size=xs.length:=by rw[List.size_toArray];exact r.length.symm
 refine⟨"tuple",_,PyProof.Rows.slot_tuple_getitem.lookup,ht.typeIs,?_⟩;refine HT.getItem_tuple_cut ht hs pl pu (by rw[hlen];exact hw) ?_ (by rw[hlen];exact hz);rw[hlen];refine⟨.ref s.heap.objs.size,_,I.laid (t':=s.toks) (o:=.tup (cutV xs lo hi)) (fun b ob q=>Heap.get?_push_of_some _ q) (Nat.le_refl _) ?_,rfl,q _ (I.hok.fresh (Nat.le_refl _))⟩;exact⟨Nat.le_trans (cutV_length xs lo hi) hz,_,(r.drop (HT.sIx xs.length 0 lo)).take (HT.sIx xs.length xs.length hi - HT.sIx xs.length 0 lo),TupN.new _ _⟩
def rCatT (K:PySem.W.Frag):R2:=fun x y H Q=>∃ a b xs ys,x=.ref a/\y=.ref b/\SqT K H a xs/\SqT K H b ys/\xs≠[]/\xs.length + ys.length<=sizeLine /\
 (ys=[]->Q (.ref a) H)/\(ys≠[]->∀ p,H p=none->Q (.ref p) (upd H p (.tup (xs++ys))))
theorem Vals.nil_iff {xs:List V}{us:List Value}(r:Vals xs us):us=[] ↔ xs=[]:=by
 cases r with
 | nil=>simp
 | cons _ _=>simp
theorem op_catT:OpR X (binaryOp .Add) (rCatT X.K):=by
 intro pins s σ H x y v u Q I rx ry h;obtain⟨a,b,xs,ys,rfl,rfl,ha,hb,hx,hz,q1,q2⟩:=h;cases rx;cases ry;obtain⟨its,r1,p1,_⟩:=I.tuple ha;obtain⟨its2,r2,p2,_⟩:=I.tuple hb;refine HT.cat_tup p1 p2 (fun z=>hx (r1.nil_iff.mp z)) (fun z=>⟨.ref a,H,I,rfl,q1 (r2.nil_iff.mp z)⟩) (fun z=>?_) (by rw[<- r1.length,<- r2.length];exact hz);refine⟨.ref s.heap.objs.size,_,I.laid (t':=s.toks) (o:=.tup (xs++ys)) (fun b ob q=>Heap.get?_push_of_some _ q) (Nat.le_refl _) ?_,rfl,q2 (fun w=>z (r2.nil_iff.mpr w)) _ (I.hok.fresh (Nat.le_refl _))⟩;exact⟨by rw[List.length_append];exact hz,_,r1.append r2,TupN.new _ _⟩
end
end L2
namespace L2
open PySem PySem.Spec PyProof.Rows
def ixN (n:Nat)(i:Int):Option Nat:=if 0<=i then (if i < n then some i.toNat else none) else if -(n:Int)<=i then some (i + n).toNat else none
def atI {α:Type}(xs:List α)(i:Int):Option α:=(ixN xs.length i).bind fun j=>xs[j]?
theorem ixN_seq {n:Nat}{i:Int}{j:Nat}(h:ixN n i=some j):seqIndex? i n=some j/\j < n/\-(n:Int)<=i/\i < n:=by
 unfold ixN at h;by_cases h0:0<=i
 ·rw[if_pos h0]at h
  by_cases h1:i < n
  ·rw[if_pos h1]at h
   have e:i.toNat=j:=Option.some.inj h;exact⟨by rw[seqIndex_of h0 h1,e],by omega,by omega,h1⟩
  ·rw[if_neg h1]at h;cases h
 ·rw[if_neg h0]at h
  by_cases h1:-(n:Int)<=i
  ·rw[if_pos h1]at h
   have e:(i + n).toNat=j:=Option.some.inj h;exact⟨by rw[seqIndex_neg (by first | lia | omega) h1,e],by omega,h1,by omega⟩
  ·rw[if_neg h1]at h;cases h
theorem atI_get {α:Type}{xs:List α}{i:Int}{v:α}(h:atI xs i=some v):∃ j,seqIndex? i xs.length=some j/\xs[j]?=some v/\j < xs.length/\-(xs.length:Int)<=i/\i < xs.length:=by
 unfold atI at h;cases e:ixN xs.length i with
 | none=>rw[e]at h;cases h
 | some j =>
  rw[e]at h;obtain⟨h1,h2,h3,h4⟩:=ixN_seq e;exact⟨j,h1,h,h2,h3,h4⟩
def PlainIx (b:Expr):Prop:=∀ o i,subscripted b false o i=operate [o,i] (getItem o i)
def IxR (X:Cx)(r:R2):Prop :=
 ∀ (value slice:Expr) (pins:List (Addr×Obj)) (s:Shared) (σ:St) (H:Hp) (x y:V) (v u:Value) (Q:VK),Inv X pins σ H s->RelV x v->RelV y u->r x y H Q ->
  subscripted slice false v u=operate [v,u] (getItem v u)->wpAny (model X.prog X.w) X.A (subscriptTail value slice v u) (EP X pins σ Q) X.xe s
def MtR (X:Cx)(id:String)(r:V->List V->Hp->VK->Prop):Prop :=
 ∀ (pins:List (Addr×Obj)) (s:Shared) (σ:St) (H:Hp) (x:V) (xs:List V) (v:Value) (us:List Value) (Q:VK),Inv X pins σ H s->RelV x v->Vals xs us->r x xs H Q ->
  wpAny (model X.prog X.w) X.A (call (.builtin id) (v::us)) (EP X pins σ Q) X.xe s
section
variable {X:Cx}{a b:Expr}{ta tb:TE}{pos:Pos}
theorem pe_ix {r:R2}(hr:IxR X r)(ha:PE X a ta)(hb:PE X b tb)(hs:PlainIx b):PE X (.Subscript a b pos) (tOp r ta tb):=by
 intro pins s σ H Q I h;exact Subscript_ (binT ha hb I h fun v u s2 x y H2 I2 rx ry q=>hr a b pins s2 σ H2 x y v u Q I2 rx ry q (hs _ _))
def rIxL (K:PySem.W.Frag):R2:=fun x y H Q=>∃ p xs i v,x=.ref p/\y=.int i/\SqL K H p xs/\atI xs i=some v/\Q v H
def rIxT (K:PySem.W.Frag):R2:=fun x y H Q=>∃ p xs i v,x=.ref p/\y=.int i/\SqT K H p xs/\atI xs i=some v/\Q v H
def rIxS:R2:=fun x y H Q=>∃ z i c,x=.str z/\y=.int i/\z.length<=sizeLine/\atI z.cps.toList i=some c/\Q (.str ⟨#[c]⟩) H
theorem ix_list:IxR X (rIxL X.K):=by
 intro value slice pins s σ H x y v u Q I rx ry h hs;obtain⟨p,xs,i,z,rfl,rfl,hq,he,q⟩:=h;cases rx;obtain⟨t,rfl⟩:=ry;obtain⟨its,r,pl,hz⟩:=I.list hq;obtain⟨j,h1,h2,h3,h4,h5⟩:=atI_get he;obtain⟨w,ew,rw'⟩:=r.get h2;have hl:=r.length;have hn:=line63;have fin:EP X pins σ Q w s:=⟨z,H,I,rw',q⟩;by_cases h0:0<=i
 ·have hj:i.toNat=j:=by
   rw[seqIndex_of h0 h5]at h1;exact Option.some.inj h1
  exact item_listR pl.isList h0 (by first | lia | omega) (by rw[hj];simpa using ew) fin hs
 ·have hj:(i + (its.toArray.size:Int)).toNat=j:=by
   rw[seqIndex_neg (by first | lia | omega) h4]at h1
   rw[List.size_toArray,<- hl];exact Option.some.inj h1
  exact subscriptTail_builtinR (x:=w) pl.isList.typeIs slot_list_getitem.lookup
   (wpAny_getItem_list_neg (Q:=fun r s'=>r=w/\EP X pins σ Q r s') pl.isList (by first | lia | omega) (by rw[List.size_toArray] <;> omega) (by first | lia | omega) (by rw[hj];simpa using ew) ⟨rfl,fin⟩) hs
theorem ix_tup:IxR X (rIxT X.K):=by
 intro value slice pins s σ H x y v u Q I rx ry h hs;obtain⟨p,xs,i,z,rfl,rfl,hq,he,q⟩:=h;cases rx;obtain⟨t,rfl⟩:=ry;obtain⟨its,r,pl,hz⟩:=I.tuple hq;obtain⟨j,h1,h2,h3,h4,h5⟩:=atI_get he;obtain⟨w,ew,rw'⟩:=r.get h2;have hl:=r.length;have hn:=line63;have fin:EP X pins σ Q w s:=⟨z,H,I,rw',q⟩;exact subscriptTail_builtinR (x:=w) pl.typeIs slot_tuple_getitem.lookup
  (getItem_tuple (j:=j) (Q:=fun r s'=>r=w/\EP X pins σ Q r s') pl (by first | lia | omega) (by first | lia | omega) (by rw[List.size_toArray,<- hl];exact h1) (by simpa using ew) ⟨rfl,fin⟩) hs
theorem ix_str:IxR X rIxS:=by
 intro value slice pins s σ H x y v u Q I rx ry h hs;obtain⟨z,i,c,rfl,rfl,hz,he,q⟩:=h;obtain⟨t,rfl⟩:=rx;obtain⟨t',rfl⟩:=ry;obtain⟨j,h1,h2,h3,h4,h5⟩:=atI_get he;have hl:z.cps.toList.length=z.length:=by simp[Str.length]
 rw[hl]at h1 h4 h5;have hn:=line63;exact tail_any (typeIs_str s z t) slot_str_getitem.lookup (getItem_str (c:=c) (by
  have e1:decide (i < -(2 ^ 63:Int))=false:=decide_eq_false (by first | lia | omega)
  have e2:decide (i ≥ 2 ^ 63)=false:=decide_eq_false (by first | lia | omega)
  rw[e1,e2,Bool.or_false]) (by rw[h1];simpa using h2) ⟨.str ⟨#[c]⟩,H,I.tok _,⟨_,rfl⟩,q⟩) hs
theorem mapSeq_set (its:List Value)(n j:Nat)(u:Value):Obj.mapSeq (·.setIfInBounds j u) { cls:=.type "list",data:=.seq its.toArray n } = { cls:=.type "list",data:=.seq (its.set j u).toArray n }:=by
 simp[Obj.mapSeq]
theorem Inv.lst {pins:List (Addr×Obj)}{σ:St}{H:Hp}{s:Shared}{p:Addr}{xs:List V}(I:Inv X pins σ H s)(h:H p=some (.lst xs)) :
  ∃ (its:List Value) (n:Nat),Vals xs its/\s.heap.get? p=some { cls:=.type "list",data:=.seq its.toArray n }/\xs.length<=sizeLine:=by
 obtain⟨z,its,n,r,e⟩:=I.hok p _ h;exact⟨its,n,r,e,z⟩
theorem Inv.lstUpd {pins:List (Addr×Obj)}{σ:St}{H:Hp}{s:Shared}{p:Addr}{xs ys:List V}{its its':List Value}{n n':Nat}{f:Obj->Obj}(I:Inv X pins σ H s)(h:H p=some (.lst xs))
  (ho:s.heap.get? p=some { cls:=.type "list",data:=.seq its.toArray n }) (hf:f { cls:=.type "list",data:=.seq its.toArray n } = { cls:=.type "list",data:=.seq its'.toArray n' }) (r:Vals ys its') (hz:ys.length<=sizeLine) (t:Nat) :
  Inv X pins σ (upd H p (.lst ys)) { s with heap:=s.heap.update p f,toks:=t }:=by
 have e:(s.heap.update p f).get? p=some { cls:=.type "list",data:=.seq its'.toArray n' }:=by
  rw[Heap.get?_update_self f ho (by rw[hf] <;> rfl),hf]
 refine I.write (x:=p) (e:=p) (by rw[h];trivial) (.inl rfl) (fun b u hb q=>(Heap.get?_update_other _ _ (Ne.symm hb)).trans q) ⟨_,e⟩ ?_;exact⟨hz,its',n',r,e⟩
def rSetL:V->V->V->Hp->(Hp->Prop)->Prop:=fun o i v H Q=>∃ p xs k j,o=.ref p/\i=.int k/\H p=some (.lst xs)/\ixN xs.length k=some j/\Q (upd H p (.lst (xs.set j v)))
theorem set_list:PSet X rSetL:=by
 intro pins s σ H o i v ov iv u Q I ro ri rv h;obtain⟨p,xs,k,j,rfl,rfl,hp,hj,q⟩:=h;cases ro;obtain⟨t,rfl⟩:=ri;obtain⟨its,n,r,ho,hz⟩:=I.lst hp;obtain⟨h1,h2,h3,h4⟩:=ixN_seq hj;have hl:=r.length;have hn:=line63;have I':Inv X pins σ (upd H p (.lst (xs.set j v))) { s with heap:=s.heap.update p (Obj.mapSeq (·.setIfInBounds j u)) } :=
  I.lstUpd hp ho (mapSeq_set its n j u) (r.set rv j) (by rw[List.length_set];exact hz) s.toks
 by_cases h0:0<=k
 ·have hk:k.toNat=j:=by
   rw[seqIndex_of h0 h4]at h1;exact Option.some.inj h1
  exact PySem.W.ki_setAt ho h0 (by first | lia | omega) (by rw[List.size_toArray,<- hl];exact h4) (by rw[hk];exact⟨_,I',q⟩)
 ·have hk:(k + (its.toArray.size:Int)).toNat=j:=by
   rw[seqIndex_neg (by first | lia | omega) h3]at h1
   rw[List.size_toArray,<- hl];exact Option.some.inj h1
  exact PySem.W.ki_setBack ho (by first | lia | omega) (by rw[List.size_toArray,<- hl];exact h3) (by first | lia | omega) (by rw[hk];exact⟨_,I',q⟩)
theorem slice_bounds (lo hi:Option Int)(n:Nat):(sliceBounds lo hi none n).1=((HT.sIx n 0 lo:Nat):Int)/\(sliceBounds lo hi none n).2.1=((HT.sIx n n hi:Nat):Int)/\(sliceBounds lo hi none n).2.2=1:=by
 refine⟨?_,?_,rfl⟩
 ·cases lo with
  | none=>simp[sliceBounds,HT.sIx]
  | some i =>
   simp only[sliceBounds,HT.sIx,Option.getD_none,show (1:Int) > 0 by decide,if_true];by_cases h:i < 0
   ·simp only[h,if_true] <;> omega
   ·simp only[h,if_false] <;> omega
 ·cases hi with
  | none=>simp[sliceBounds,HT.sIx]
  | some i =>
   simp only[sliceBounds,HT.sIx,Option.getD_none,show (1:Int) > 0 by decide,if_true];by_cases h:i < 0
   ·simp only[h,if_true] <;> omega
   ·simp only[h,if_false] <;> omega
theorem slicePick_cut (its:List Value)(lo hi:Option Int):slicePick its.toArray lo hi none=((its.drop (HT.sIx its.length 0 lo)).take (HT.sIx its.length its.length hi - HT.sIx its.length 0 lo)).toArray:=by
 obtain⟨h1,h2,h3⟩:=slice_bounds lo hi its.toArray.size;unfold slicePick;rw[h1,h2,h3];simp only[sliceRange_one,pick_run,List.size_toArray] <;> rfl
def rSlL (K:PySem.W.Frag):V->Option Int->Option Int->Hp->VK->Prop:=fun x lo hi H Q=>∃ a xs,x=.ref a/\SqL K H a xs/\∀ p,H p=none->Q (.ref p) (upd H p (.lst (cutV xs lo hi)))
theorem sl_list:SlR X (rSlL X.K):=by
 intro pins s σ H x v vl vu lo hi sl Q I rx hs pl pu h;obtain⟨a,xs,rfl,hx,q⟩:=h;cases rx;obtain⟨its,r,ht,hz⟩:=I.list hx;have hlen:=r.length;refine⟨"list",_,slot_list_getitem.lookup,ht.isList.typeIs,?_⟩;refine wpAny_getItem_list_slice ht.isList hs pl pu .none (by simp) ?_ (by rw[List.size_toArray] <;> omega);rw[slicePick_cut,<- hlen];refine⟨.ref s.heap.objs.size,_,I.laid (t':=s.toks) (o:=.lst (cutV xs lo hi)) (fun b ob q=>Heap.get?_push_of_some _ q) (Nat.le_refl _) ?_,rfl,q _ (I.hok.fresh (Nat.le_refl _))⟩;exact⟨Nat.le_trans (cutV_length xs lo hi) hz,_,0,(r.drop (HT.sIx xs.length 0 lo)).take (HT.sIx xs.length xs.length hi - HT.sIx xs.length 0 lo),Heap.get?_push_size _ rfl⟩
def flatV:V->Bool
 | .non=>true
 | .bl _=>true
 | .int _=>true
 | .str _=>true
 | _=>false
def eqV:V->V->Bool
 | .non,.non=>true
 | .bl a,.bl b=>a==b
 | .bl a,.int b=>(if a then 1 else 0)==b
 | .int a,.bl b=>a==(if b then 1 else 0)
 | .int a,.int b=>a==b
 | .str a,.str b=>a==b
 | _,_=>false
theorem eqAt_V {A:Around}{s:Shared}{y x:V}{u v:Value}(ry:RelV y u)(rx:RelV x v)(fy:flatV y=true)(fx:flatV x=true):SeqAt.EqAt A s u v (eqV y x):=by
 cases y with
 | non =>
  cases ry;cases x with
  | non=>cases rx;exact SeqAt.EqAt.same _
  | bl b=>cases rx;exact SeqAt.EqAt.none_bool b
  | int b=>obtain⟨t,rfl⟩:=rx;exact SeqAt.EqAt.none_int b t
  | str b=>obtain⟨t,rfl⟩:=rx;exact SeqAt.EqAt.none_str b t
  | _=>exact absurd (show false=true from fx) Bool.false_ne_true
 | bl a =>
  cases ry;cases x with
  | non=>cases rx;exact SeqAt.EqAt.bool_none a
  | bl b=>cases rx;exact SeqAt.EqAt.bool_bool a b
  | int b=>obtain⟨t,rfl⟩:=rx;exact SeqAt.EqAt.bool_int a b t
  | str b=>obtain⟨t,rfl⟩:=rx;exact SeqAt.EqAt.bool_str a b t
  | _=>exact absurd (show false=true from fx) Bool.false_ne_true
 | int a =>
  obtain⟨t',rfl⟩:=ry;cases x with
  | non=>cases rx;exact SeqAt.EqAt.int_none a t'
  | bl b=>cases rx;exact SeqAt.EqAt.int_bool a t' b
  | int b=>obtain⟨t,rfl⟩:=rx;exact SeqAt.EqAt.int_int a t' b t
  | str b=>obtain⟨t,rfl⟩:=rx;exact SeqAt.EqAt.int_str a t' b t
  | _=>exact absurd (show false=true from fx) Bool.false_ne_true
 | str a =>
  obtain⟨t',rfl⟩:=ry;cases x with
  | non=>cases rx;exact SeqAt.EqAt.str_none a t'
  | bl b=>cases rx;exact SeqAt.EqAt.str_bool a t' b
  | int b=>obtain⟨t,rfl⟩:=rx;exact SeqAt.EqAt.str_int a t' b t
  | str b=>obtain⟨t,rfl⟩:=rx;exact SeqAt.EqAt.str_str a t' b t
  | _=>exact absurd (show false=true from fx) Bool.false_ne_true
 | _=>exact absurd (show false=true from fy) Bool.false_ne_true
theorem call_len_seq:CallR X (.builtin "len") (fun xs H Q=>∃ p ys,xs=[.ref p]/\(SqL X.K H p ys\/SqT X.K H p ys)/\Q (.int ys.length) H):=by
 intro pins s σ H xs us Q I r h;obtain⟨p,ys,rfl,hq,q⟩:=h;obtain⟨u,rfl,rx⟩:=vals1 r;cases rx;have hn:=line63;rcases hq with hq | hq
 ·obtain⟨its,r',pl,hz⟩:=I.list hq
  have hlen:=r'.length;exact Calls.call_len_list pl.isList (by simp only[List.size_toArray] <;> omega) ⟨.int ys.length,H,I.tok _,⟨s.toks + 1,by rw[List.size_toArray,hlen]⟩,q⟩
 ·obtain⟨its,r',pl,hz⟩:=I.tuple hq
  have hlen:=r'.length;exact len_tuple pl (by simp only[List.size_toArray] <;> omega) ⟨.int ys.length,H,I.tok _,⟨s.toks + 1,by rw[List.size_toArray,hlen]⟩,q⟩
theorem call_len_str:CallR X (.builtin "len") (fun xs H Q=>∃ z,xs=[.str z]/\z.length<=sizeLine/\Q (.int z.length) H):=by
 intro pins s σ H xs us Q I r h;obtain⟨z,rfl,hz,q⟩:=h;obtain⟨u,rfl,t,rfl⟩:=vals1 r;have hn:=line63;exact len_str (by first | lia | omega) ⟨.int z.length,H,I.tok _,⟨_,rfl⟩,q⟩
theorem call_list_of:CallR X (.type "list") (fun xs H Q=>∃ p ys,xs=[.ref p]/\(SqL X.K H p ys\/SqT X.K H p ys)/\∀ l,H l=none->Q (.ref l) (upd H l (.lst ys))):=by
 intro pins s σ H xs us Q I r h;obtain⟨p,ys,rfl,hq,q⟩:=h;obtain⟨u,rfl,rx⟩:=vals1 r;cases rx;have fin:∀ (its:List Value),Vals ys its->ys.length<=sizeLine->∀ (h':Heap) (c':Nat),(∀ b o',s.heap.get? b=some o'->h'.get? b=some o') ->
   h'.get? s.heap.objs.size=some { cls:=.type "list",dict:=none,data:=.seq its.toArray c',slots:=#[] }->EP X pins σ Q (.ref s.heap.objs.size) { s with heap:=h' }:=fun its r' hz h' c' kp e =>
  ⟨.ref s.heap.objs.size,_,I.laid (t':=s.toks) kp (Nat.le_refl _) (show ObjOk X.prog X.w _ h' _ (.lst ys) from ⟨hz,its,c',r',e⟩),rfl,q _ (I.hok.fresh (Nat.le_refl _))⟩
 rcases hq with hq | hq
 ·obtain⟨its,r',pl,hz⟩:=I.list hq
  have hlen:=r'.length;obtain⟨o,ho,hc,n,hd⟩:=pl.isList;exact call_list_seq p (.inl rfl) ho hc hd (fun h' c' kp e=>fin its r' hz h' c' kp e) (by simp only[List.size_toArray] <;> omega)
 ·obtain⟨its,r',pl,hz⟩:=I.tuple hq
  have hlen:=r'.length;obtain⟨o,ho,hc,n,hd⟩:=pl;exact call_list_seq p (.inr rfl) ho hc hd (fun h' c' kp e=>fin its r' hz h' c' kp e) (by simp only[List.size_toArray] <;> omega)
theorem call_tuple_of:CallR X (.type "tuple") (fun xs H Q=>∃ p ys,xs=[.ref p]/\((SqL X.K H p ys/\∀ l,H l=none->Q (.ref l) (upd H l (.tup ys)))\/(SqT X.K H p ys/\Q (.ref p) H))):=by
 intro pins s σ H xs us Q I r h;obtain⟨p,ys,rfl,h⟩:=h;obtain⟨u,rfl,rx⟩:=vals1 r;cases rx;rcases h with ⟨hq,q⟩|⟨hq,q⟩
 ·obtain⟨its,r',pl,hz⟩:=I.list hq
  have hlen:=r'.length;refine call_tuple_list pl.isList (fun h' kp=>?_) (by simp only[List.size_toArray] <;> omega);have I1:Inv X pins σ H { s with heap:=h' }:=I.kept (t':=s.toks) kp;have I2:Inv X pins σ (upd H h'.objs.size (.tup ys)) { s with heap:=h'.push { cls:=.type "tuple",data:=.seq its.toArray } } :=
   I1.laid (t':=s.toks) (fun b o e=>Heap.get?_push_of_some _ e) (Nat.le_refl _) (show ObjOk X.prog X.w _ _ _ (.tup ys) from ⟨hz,its,r',TupN.new _ _⟩)
  exact⟨.ref h'.objs.size,_,I2,rfl,q _ (I1.hok.fresh (Nat.le_refl _))⟩
 ·obtain⟨its,r',pl,hz⟩:=I.tuple hq
  exact call_tuple_same pl ⟨.ref p,H,I,rfl,q⟩
def tyV (K:PySem.W.Frag)(T:String)(x:V)(H:Hp):Prop:=match x with
 | .str _=>T = "str"
 | .int _=>T = "int"
 | .ref p=>(T = "list"/\∃ xs,SqL K H p xs)\/(T = "tuple"/\∃ o,K.lookup p=some o/\o.cls=.type "tuple"/\o.dict=none) \/
   (T = "dict"/\((∃ kvs,H p=some (.dK kvs))\/∃ kvs,H p=some (.dT kvs)))\/(T = "set"/\∃ S n,H p=some (.set S n))
 | _=>False
theorem tyV_is {pins:List (Addr×Obj)}{σ:St}{H:Hp}{s:Shared}{T:String}{x:V}{v:Value}(I:Inv X pins σ H s)(r:RelV x v)(ty:tyV X.K T x H) :
  s.TypeIs v T/\∀ a,v=.ref a->∃ ob,s.heap.get? a=some ob/\ob.dict=none:=by
 cases x with
 | str z =>
  obtain⟨t,rfl⟩:=r;cases (show T = "str" from ty);exact⟨typeIs_str s z t,fun _ e=>nomatch e⟩
 | int i =>
  obtain⟨t,rfl⟩:=r;cases (show T = "int" from ty);exact⟨typeIs_int s i t,fun _ e=>nomatch e⟩
 | ref p =>
  cases r;rcases ty with ⟨rfl,xs,hq⟩|⟨rfl,o,hk,hc,hd⟩|⟨rfl,hk⟩|⟨rfl,S,n,hk⟩
  ·obtain⟨its,_,pl,_⟩:=I.list hq
   refine⟨pl.isList.typeIs,fun a e=>?_⟩;cases e;obtain⟨o,n,e,c,hd,_⟩:=pl;exact⟨o,e,hd⟩
  ·refine⟨⟨o,I.kIn p o hk,hc⟩,fun a e=>?_⟩
   cases e;exact⟨o,I.kIn _ o hk,hd⟩
  ·have z:∃ o,s.heap.get? p=some o/\o.ExactDict:=by
    rcases hk with ⟨kvs,hk⟩|⟨kvs,hk⟩
    ·obtain⟨_,_,_,_,o,_,_,e,ex,_⟩:=I.hok p _ hk
     exact⟨o,e,ex⟩
    ·obtain⟨_,_,_,_,o,_,_,e,ex,_⟩:=I.hok p _ hk
     exact⟨o,e,ex⟩
   obtain⟨o,e,ex⟩:=z;refine⟨⟨o,e,ex.1⟩,fun a e2=>?_⟩;cases e2;exact⟨o,e,ex.2.1⟩
  ·obtain⟨o,_,_,_,e,ex,_⟩:=I.hok p _ hk
   refine⟨⟨o,e,ex.1⟩,fun a e2=>?_⟩;cases e2;exact⟨o,e,ex.2.1⟩
 | _=>exact False.elim ty
def tBM0 (K:PySem.W.Frag)(T:String)(r:V->List V->Hp->VK->Prop)(to:TE):TE:=fun σ H Q=>to σ H fun x H1=>tyV K T x H1/\r x [] H1 Q
variable {o e:Expr}{es:List Expr}{to:TE}{t:TA}{name:Str}{apos cpos:Pos}{T id:String}{r:V->List V->Hp->VK->Prop}
theorem pe_bm0 (pa:PlainAttrs T)(slot:Slot T name id)(hty:typeOf (.builtin id)=pure (.type "method_descriptor"))(hm:MtR X id r)(ho:PE X o to)
  (hbase:attributeBase o name X.env (eval o X.env)=eval o X.env:=by rfl) (hline:(apos.endLine==cpos.line)=true:=by rfl):PE X (.Call (.Attribute o name apos) [] [] cpos) (tBM0 X.K T r to):=by
 intro pins s σ H Q I h;refine wpAny_Call_method0_late hbase hline (thn (ho pins s σ H _ I h) fun v s1 ⟨x,H1,I1,r1,ty,q1⟩=>?_);obtain⟨h1,h2⟩:=tyV_is I1 r1 ty;exact⟨T,id,pa,slot,hty,h1,h2,Calls.callWith_builtin rfl (PySem.evalArgs_none (hm pins s1 σ H1 x [] v [] Q I1 r1 .nil q1))⟩
/- xs.append(e),list.index on a module's tuple .. are MtR facts of 06m -/
end
end L2
namespace L2
open PySem PySem.Spec PyProof.Rows
def MtM (X:Cx)(id:String)(r:V->List V->Hp->VK->Prop):Prop :=
 ∀ (pins:List (Addr×Obj)) (s:Shared) (σ:St) (H:Hp) (x:V) (xs:List V) (v:Value) (us:List Value) (Q:VK),Inv X pins σ H s->RelV x v->Vals xs us->r x xs H Q ->
  wpAny (model X.prog X.w) X.A (call (.builtin id) (v::us)) (EP X pins σ Q) X.xe s
theorem Vals.one:∀ {x:V} {us:List Value},Vals [x] us->∃ u,us=[u]/\RelV x u
 | _,_,.cons r .nil=>⟨_,rfl,r⟩
theorem Vals.two:∀ {x y:V} {us:List Value},Vals [x,y] us->∃ u v,us=[u,v]/\RelV x u/\RelV y v
 | _,_,_,.cons r (.cons q .nil)=>⟨_,_,rfl,r,q⟩
section
variable {X:Cx}{pins:List (Addr×Obj)}{σ:St}{H:Hp}{s:Shared}{l b:Addr}{xs ys zs:List V}
theorem Inv.lset {its its':List Value}{n:Nat}{f:Array Value->Array Value}{t':Nat}(I:Inv X pins σ H s)(hH:H l=some (.lst xs))
  (e:s.heap.get? l=some { cls:=.type "list",data:=.seq its.toArray n }) (hf:f its.toArray=its'.toArray) (hv:Vals ys its') (hz:ys.length<=sizeLine) :
  Inv X pins σ (upd H l (.lst ys)) { s with heap:=s.heap.update l (Obj.mapSeq f),toks:=t' }:=by
 have q:=PySem.IsL.update e f;rw[hf]at q;refine I.write (x:=l) (e:=l) (by rw[hH];exact trivial) (.inl rfl) (fun b' u hb hu=>(Heap.get?_update_other s.heap (Obj.mapSeq f) (Ne.symm hb)).trans hu) ⟨_,q⟩ ?_;exact⟨hz,its',_,hv,q⟩
theorem Inv.lnew {its:List Value}{t':Nat}(I:Inv X pins σ H s)(hv:Vals ys its)(hz:ys.length<=sizeLine) :
  Inv X pins σ (upd H s.heap.objs.size (.lst ys)) { s with heap:=s.heap.push { cls:=.type "list",data:=.seq its.toArray },toks:=t' } :=
 I.laid (fun _ _ q=>Heap.get?_push_of_some _ q) (Nat.le_refl _) ⟨hz,its,0,hv,Heap.get?_push_size _ rfl⟩
theorem Inv.fresh (I:Inv X pins σ H s):H s.heap.objs.size=none:=I.hok.fresh (Nat.le_refl _)
theorem Inv.lstM (I:Inv X pins σ H s)(hH:H l=some (.lst xs)):xs.length<=sizeLine/\∃ (its:List Value) (n:Nat),Vals xs its/\xs.length=its.length/\s.heap.get? l=some { cls:=.type "list",data:=.seq its.toArray n }:=by
 obtain⟨z,its,n,r,e⟩:=I.hok l _ hH;exact⟨z,its,n,r,r.length,e⟩
theorem notLongL {n:Nat}(h:n<=sizeLine):Builtin.List.listTooLong n=false:=by
 unfold Builtin.List.listTooLong;exact decide_eq_false (by first | lia | omega)
end
section
variable {X:Cx}
def rAppend:V->List V->Hp->VK->Prop:=fun x vs H Q=>∃ l xs y,x=.ref l/\vs=[y]/\H l=some (.lst xs)/\xs.length < sizeLine/\Q .non (upd H l (.lst (xs++[y])))
theorem mt_append:MtM X "list.append" rAppend:=by
 intro pins s σ H x vs v us Q I rx rv h;obtain⟨l,xs,y,rfl,rfl,hH,hz,q⟩:=h;cases rx;obtain⟨u,rfl,ru⟩:=rv.one;obtain⟨z,its,n,r,hl,e⟩:=I.lstM hH;refine call_meets F.slot_list_append ⟨_,e,rfl⟩ F.entry_list_append (F.args_list_append_2 _ _) (PySem.list_append l its.toArray n u (by rw[List.size_toArray];omega)) ⟨e,?_⟩;refine⟨.non,_,I.lset (its':=its++[u]) hH e (by simp) (r.append (.cons ru .nil)) ?_,rfl,q⟩;rw[List.length_append,List.length_singleton];first | lia | omega
def rExtend:V->List V->Hp->VK->Prop:=fun x vs H Q=>∃ l b xs zs,x=.ref l/\vs=[.ref b]/\H l=some (.lst xs)/\H b=some (.lst zs)/\xs.length + zs.length<=sizeLine/\Q .non (upd H l (.lst (xs++zs)))
theorem mt_extend:MtM X "list.extend" rExtend:=by
 intro pins s σ H x vs v us Q I rx rv h;obtain⟨l,b,xs,zs,rfl,rfl,hH,hB,hz,q⟩:=h;cases rx;obtain⟨u,rfl,ru⟩:=rv.one;cases ru;obtain⟨z,its,n,r,hl,e⟩:=I.lstM hH;obtain⟨z2,its2,n2,r2,hl2,e2⟩:=I.lstM hB;have hsz:its.toArray.size + its2.toArray.size<=sizeLine:=by rw[List.size_toArray,List.size_toArray];omega
 have hlong:¬ (!its.toArray.isEmpty&&Builtin.List.listTooLong (its.toArray.size + its2.toArray.size))=true:=by
  rw[notLongL hsz,Bool.and_false];exact Bool.false_ne_true
 refine call_meets F.slot_list_extend ⟨_,e,rfl⟩ F.entry_list_extend (F.args_list_extend_2 _ _)
  (AutoSeq1.list_extend_list_list_0 l its.toArray n b its2.toArray n2 hlong (by rw[List.size_toArray];omega) (by first | lia | omega)) ⟨e,e2,?_⟩
 refine⟨.non,_,I.lset (its':=its++its2) hH e (by simp) (r.append r2) ?_,rfl,q⟩;rw[List.length_append];first | lia | omega
def rCat:R2:=fun x y H Q=>∃ l b xs zs,x=.ref l/\y=.ref b/\H l=some (.lst xs)/\H b=some (.lst zs)/\xs.length + zs.length<=sizeLine/\∀ p,H p=none->Q (.ref p) (upd H p (.lst (xs++zs)))
theorem op_cat:OpR X (binaryOp .Add) rCat:=by
 intro pins s σ H x y v u Q I rx ry h;obtain⟨l,b,xs,zs,rfl,rfl,hH,hB,hz,q⟩:=h;cases rx;cases ry;obtain⟨z,its,n,r,hl,e⟩:=I.lstM hH;obtain⟨z2,its2,n2,r2,hl2,e2⟩:=I.lstM hB;refine PySem.P.add_list e e2 ?_ (by rw[List.size_toArray,List.size_toArray];omega);have ea:its.toArray++its2.toArray=(its++its2).toArray:=by simp
 rw[ea];exact⟨.ref _,_,I.lnew (t':=s.toks) (r.append r2) (by rw[List.length_append];omega),rfl,q _ I.fresh⟩
end
section
variable {prog:Program}{w:World}{A:Around}{E:Value->Shared->Prop}{s:Shared}
set_option maxRecDepth 100000 in
end
section
variable {X:Cx}
end
end L2
namespace L2
open PySem PySem.Spec PyProof.Rows
section
variable {κ:Type}[DecidableEq κ]
def valV (kvs:List (κ×V))(k:κ):Option V:=(kvs.find? fun kv=>decide (kv.1=k)).map (·.2)
def putK (kvs:List (κ×V))(k:κ)(v:V):List (κ×V) :=
 if (kvs.any fun kv=>decide (kv.1=k))=true then kvs.map (fun kv=>if kv.1=k then (kv.1,v) else kv) else kvs++[(k,v)]
theorem valV_pos {p:κ×V}{r:List (κ×V)}{k:κ}(e:p.1=k):valV (p::r) k=some p.2:=by simp[valV,List.find?_cons,e]
theorem valV_neg {p:κ×V}{r:List (κ×V)}{k:κ}(e:¬ p.1=k):valV (p::r) k=valV r k:=by simp[valV,List.find?_cons,e]
theorem valV_any (k:κ):∀ kvs:List (κ×V),(kvs.any fun kv=>decide (kv.1=k))=(valV kvs k).isSome
 | []=>rfl
 | p::r=>by
  rw[List.any_cons];by_cases e:p.1=k
  ·simp only[valV_pos e,decide_eq_true e,Bool.true_or,Option.isSome_some]
  ·rw[valV_neg e,decide_eq_false e,Bool.false_or];exact valV_any k r
theorem length_putK (kvs:List (κ×V))(k:κ)(v:V):(putK kvs k v).length<=kvs.length + 1:=by
 unfold putK;split
 ·rw[List.length_map];omega
 ·rw[List.length_append,List.length_cons,List.length_nil];omega
theorem RelO.isSome_eq {o:Option V}{u:Option Value}(r:RelO o u):o.isSome=u.isSome:=by
 cases o with
 | none=>cases u with
  | none=>rfl
  | some _=>exact(show False from r).elim
 | some _=>cases u with
  | none=>exact(show False from r).elim
  | some _=>rfl
theorem RelO.getD {o:Option V}{u:Option Value}{d:V}{d':Value}(r:RelO o u)(rd:RelV d d'):RelV (o.getD d) (u.getD d'):=by
 cases o with
 | none=>cases u with
  | none=>exact rd
  | some _=>exact(show False from r).elim
 | some _=>cases u with
  | none=>exact(show False from r).elim
  | some _=>exact r
theorem KV.val {kvs:List (κ×V)}{vs:List (κ×Value)}(r:KV kvs vs)(k:κ):RelO (valV kvs k) (valueAt vs k):=by
 unfold KV at r;induction r with
 | nil=>exact True.intro
 | @cons p q ps qs h t ih =>
  obtain⟨h1,h2⟩:=h;by_cases e:p.1=k
  ·have e':q.1=k:=h1.symm.trans e
   have b:valueAt (q::qs) k=some q.2:=by simp[valueAt,List.find?_cons,e']
   rw[valV_pos e,b];exact h2
  ·have e':¬ q.1=k:=fun z=>e (h1.trans z)
   have b:valueAt (q::qs) k=valueAt qs k:=by simp[valueAt,List.find?_cons,e']
   rw[valV_neg e,b];exact ih
theorem KV.any {kvs:List (κ×V)}{vs:List (κ×Value)}(r:KV kvs vs)(k:κ):(kvs.any fun kv=>decide (kv.1=k))=vs.any fun kv=>decide (kv.1=k):=by
 unfold KV at r;induction r with
 | nil=>rfl
 | cons h t ih=>rw[List.any_cons,List.any_cons,ih,h.1]
theorem KV.repl {kvs:List (κ×V)}{vs:List (κ×Value)}(r:KV kvs vs)(k:κ){y:V}{u:Value}(ry:RelV y u) :
  KV (kvs.map fun kv=>if kv.1=k then (kv.1,y) else kv) (vs.map fun kv=>if kv.1=k then (kv.1,u) else kv):=by
 unfold KV at r ⊢;induction r with
 | nil=>exact .nil
 | @cons p q ps qs h t ih =>
  rw[List.map_cons,List.map_cons];refine .cons ?_ ih;obtain⟨h1,h2⟩:=h;by_cases e:p.1=k
  ·rw[if_pos e,if_pos (h1.symm.trans e)];exact⟨h1,ry⟩
  ·rw[if_neg e,if_neg (fun z=>e (h1.trans z))];exact⟨h1,h2⟩
theorem KV.put {kvs:List (κ×V)}{vs:List (κ×Value)}(r:KV kvs vs)(k:κ){y:V}{u:Value}(ry:RelV y u):KV (putK kvs k y) (stored vs k u):=by
 unfold putK stored;rw[r.any k];by_cases e:(vs.any fun kv=>decide (kv.1=k))=true
 ·rw[if_pos e,if_pos e];exact r.repl k ry
 ·rw[if_neg e,if_neg e];exact Paired.snoc r ⟨rfl,ry⟩
theorem KV.length {kvs:List (κ×V)}{vs:List (κ×Value)}(r:KV kvs vs):kvs.length=vs.length:=Paired.length r
end
theorem kV_is {P:Program}{w:World}{k:Key}{u:Value}(r:RelV (kV k) u):(mixKind P w).is k u=true:=by
 cases k with
 | inl i=>obtain⟨t,e⟩:=(show ∃ t,u=Value.int i t from r);subst e;exact mixKind_int P w i t
 | inr x=>obtain⟨t,e⟩:=(show ∃ t,u=Value.str x t from r);subst e;exact mixKind_str P w x t
theorem items_are {P:Program}{w:World}:∀ {ks:List Key} {us:List Value},Vals (ks.map kV) us->ItemsAre (mixKind P w) ks us
 | [],_,r=>by rw[List.map_nil]at r;cases r;exact .nil
 | k::ks,_,r=>by
  rw[List.map_cons]at r;cases r with
  | cons h t=>exact .cons (kV_is h) (items_are t)
abbrev KT (H:Hp):List (List Key×V)->List (List Key×Addr×Value)->Prop:=Paired fun p q=>p.1=q.1/\H q.2.1=some (.tup (p.1.map kV))/\RelV p.2 q.2.2
theorem KT.val {H:Hp}{kvs:List (List Key×V)}{xs:List (List Key×Addr×Value)}(r:KT H kvs xs)(k:List Key):RelO (valV kvs k) ((atKey xs k).map (·.2)):=by
 induction r with
 | nil=>exact True.intro
 | @cons p q ps qs h t ih =>
  obtain⟨h1,_,h2⟩:=h;by_cases e:p.1=k
  ·have e':q.1=k:=h1.symm.trans e
   have b:atKey (q::qs) k=some q.2:=by simp[atKey,List.find?_cons,e']
   rw[valV_pos e,b];exact h2
  ·have e':¬ q.1=k:=fun z=>e (h1.trans z)
   have b:atKey (q::qs) k=atKey qs k:=by simp[atKey,List.find?_cons,e']
   rw[valV_neg e,b];exact ih
theorem KT.repl {H:Hp}{kvs:List (List Key×V)}{xs:List (List Key×Addr×Value)}(r:KT H kvs xs)(k:List Key){y:V}{u:Value}(ry:RelV y u) :
  KT H (kvs.map fun kv=>if kv.1=k then (kv.1,y) else kv) (xs.map (putAt k u)):=by
 induction r with
 | nil=>exact .nil
 | @cons p q ps qs h t ih =>
  rw[List.map_cons,List.map_cons];refine .cons ?_ ih;obtain⟨h1,h2,h3⟩:=h;unfold putAt;by_cases e:p.1=k
  ·rw[if_pos e,if_pos (h1.symm.trans e)];exact⟨h1,h2,ry⟩
  ·rw[if_neg e,if_neg (fun z=>e (h1.trans z))];exact⟨h1,h2,h3⟩
theorem KT.put {H:Hp}{kvs:List (List Key×V)}{xs:List (List Key×Addr×Value)}(r:KT H kvs xs)(k:List Key){b:Addr}{y:V}{u:Value}(hb:H b=some (.tup (k.map kV)))(ry:RelV y u) :
  KT H (putK kvs k y) (storedH xs k b u):=by
 have e:(kvs.any fun kv=>decide (kv.1=k))=(atKey xs k).isSome:=by
  rw[valV_any,(r.val k).isSome_eq,Option.isSome_map]
 unfold putK storedH;rw[e];by_cases q:(atKey xs k).isSome=true
 ·rw[if_pos q,if_pos q];exact r.repl k ry
 ·rw[if_neg q,if_neg q];exact Paired.snoc r ⟨rfl,hb,ry⟩
theorem KT.keeps {H H':Hp}{kvs:List (List Key×V)}{xs:List (List Key×Addr×Value)}(r:KT H kvs xs)(ht:∀ b ys,H b=some (.tup ys)->H' b=some (.tup ys)):KT H' kvs xs :=
 Paired.mapP r fun _ _ z=>⟨z.1,ht _ _ z.2.1,z.2.2⟩
section
variable {P:Program}{w:World}{H:Hp}{h:Heap}{a:Addr}
theorem rd_of {u:HO}(ok:HOk P w H h)(e:Rd H a u):ObjOk P w H h a u:=e.ok ok
theorem dk_rd {kvs:List (Key×V)}(ok:HOk P w H h)(e:Rd H a (.dK kvs)):kvs.length<=sizeLine/\(a==sysModules)=false/\∃ vs,KV kvs vs/\h.DictOf (mixKind P w) a vs :=
 show ObjOk P w H h a (.dK kvs) from rd_of ok e
theorem dk_of {kvs:List (Key×V)}(ok:HOk P w H h)(e:H a=some (.dK kvs)):kvs.length<=sizeLine/\(a==sysModules)=false/\∃ vs,KV kvs vs/\h.DictOf (mixKind P w) a vs:=dk_rd ok (.inl e)
theorem key_of {ks:List Key}(ok:HOk P w H h)(e:H a=some (.tup (ks.map kV))):(tupleKind (mixKind P w)).is h ks a:=by
 obtain⟨_,its,r,⟨o,h1,h2,n,h3⟩,_⟩:=(show ObjOk P w H h a (.tup (ks.map kV)) from ok a _ e);exact⟨o,its.toArray,n,h1,h2,h3,by simpa using items_are r⟩
theorem dt_rd {kvs:List (List Key×V)}(ok:HOk P w H h)(e:Rd H a (.dT kvs)):kvs.length<=sizeLine/\(a==sysModules)=false /\
  ∃ xs,KT H kvs xs/\h.DictOfH (tupleKind (mixKind P w)) a xs:=by
 obtain⟨z,y,xs,r,o,es,ep,h1,h2,h3,h4,h5⟩:=(show ObjOk P w H h a (.dT kvs) from rd_of ok e);refine⟨z,y,xs,r,o,es,ep,h1,h2,h3,h4,fun x hx=>?_,h5⟩;have all:∀ {l:List (List Key×V)} {m:List (List Key×Addr×Value)},KT H l m->∀ x∈m,(tupleKind (mixKind P w)).is h x.1 x.2.1:=by
  intro l m q;induction q with
  | nil=>intro x hx;exact nomatch hx
  | @cons p q ps qs hq t ih =>
   intro x hx;rcases List.mem_cons.mp hx with e | hx
   ·subst e
    exact key_of ok (by rw[<- hq.1];exact hq.2.1)
   ·exact ih x hx
 exact all r x hx
theorem dt_of {kvs:List (List Key×V)}(ok:HOk P w H h)(e:H a=some (.dT kvs)):kvs.length<=sizeLine/\(a==sysModules)=false /\
  ∃ xs,KT H kvs xs/\h.DictOfH (tupleKind (mixKind P w)) a xs:=dt_rd ok (.inl e)
end
def DGet (H:Hp)(a:Addr)(y:V)(r:Option V):Prop :=
 (∃ kvs k,Rd H a (.dK kvs)/\y=kV k/\r=valV kvs k)\/∃ kvs k b,Rd H a (.dT kvs)/\y=.ref b/\H b=some (.tup (k.map kV))/\r=valV kvs k
def DPut (H:Hp)(a:Addr)(y v:V)(H':Hp):Prop :=
 (∃ kvs k,H a=some (.dK kvs)/\y=kV k/\kvs.length < sizeLine/\H'=upd H a (.dK (putK kvs k v))) \/
 ∃ kvs k b,H a=some (.dT kvs)/\y=.ref b/\H b=some (.tup (k.map kV))/\kvs.length < sizeLine/\H'=upd H a (.dT (putK kvs k v))
theorem DGet.k {H:Hp}{a:Addr}{kvs:List (Key×V)}{k:Key}(e:H a=some (.dK kvs)):DGet H a (kV k) (valV kvs k):=.inl ⟨kvs,k,.inl e,rfl,rfl⟩
theorem DPut.k {H:Hp}{a:Addr}{kvs:List (Key×V)}{k:Key}{v:V}(e:H a=some (.dK kvs))(hl:kvs.length < sizeLine):DPut H a (kV k) v (upd H a (.dK (putK kvs k v))):=.inl ⟨kvs,k,e,rfl,hl,rfl⟩
section
variable {X:Cx}{pins:List (Addr×Obj)}{σ:St}{H:Hp}{s:Shared}{a:Addr}{y v:V}{u r:Value}{o:Option V}{A:Around}{E:Value->Shared->Prop}
theorem Inv.big (I:Inv X pins σ H s):sysModules < s.heap.objs.size:=by
 have h:mainGlobals < s.heap.objs.size:=(I.mod.glob.keeps I.bk).lt;exact Nat.lt_trans (by decide) h
theorem d_getItem {Q:Value->Shared->Prop}(hu:A.units + 1 < cLine)(I:Inv X pins σ H s)(g:DGet H a y (some v))(ry:RelV y u)(h:∀ w' s',Inv X pins σ H s'->RelV v w'->Q w' s') :
  wpAny (model X.prog X.w) A (getItem (.ref a) u) Q E s:=by
 rcases g with ⟨kvs,k,e,ey,l⟩|⟨kvs,k,b,e,ey,eb,l⟩
 ·subst ey
  obtain⟨z,hd,vs,rel,dd⟩:=dk_rd I.hok e;obtain⟨w',hw,rw'⟩:=RelO.some_of (v:=v) (o:=valueAt vs k) (by rw[l];exact rel.val k);exact wpAny_getItem_of (kV_is ry) dd.mapOf hw (h w' _ (I.tok _) rw')
 ·subst ey
  cases (show u=Value.ref b from ry);obtain⟨z,hd,xs,rel,dd⟩:=dt_rd I.hok e;obtain⟨w',hw,rw'⟩:=RelO.some_of (v:=v) (o:=(atKey xs k).map (·.2)) (by rw[l];exact rel.val k);obtain⟨p,hp,hp2⟩:=Option.map_eq_some_iff.mp hw;refine wpAny_getItem_heap (tupleKind_room_in1 hu) (key_of I.hok eb) dd hp ?_;rw[hp2];exact h w' _ (I.tok _) rw'
theorem d_in {Q:Value->Shared->Prop}(hu:A.units + 1 < cLine)(I:Inv X pins σ H s)(g:DGet H a y o)(ry:RelV y u)(h:∀ s',Inv X pins σ H s'->Q (.bool o.isSome) s') :
  wpAny (model X.prog X.w) A (compareOp .In u (.ref a)) Q E s:=by
 rcases g with ⟨kvs,k,e,ey,l⟩|⟨kvs,k,b,e,ey,eb,l⟩
 ·subst ey
  obtain⟨z,hd,vs,rel,dd⟩:=dk_rd I.hok e;refine wpAny_in_of (kV_is ry) hd dd.mapOf ?_;rw[<- (rel.val k).isSome_eq,<- l];exact h _ (I.tok _)
 ·subst ey
  cases (show u=Value.ref b from ry);obtain⟨z,hd,xs,rel,dd⟩:=dt_rd I.hok e;refine wpAny_in_heap (tupleKind_room_in1 hu) (key_of I.hok eb) hd dd ?_;have q:=(rel.val k).isSome_eq;rw[Option.isSome_map]at q;rw[<- q,<- l];exact h _ (I.tok _)
theorem d_notIn {Q:Value->Shared->Prop}(hu:A.units + 1 < cLine)(I:Inv X pins σ H s)(g:DGet H a y o)(ry:RelV y u)(h:∀ s',Inv X pins σ H s'->Q (.bool (!o.isSome)) s') :
  wpAny (model X.prog X.w) A (compareOp .NotIn u (.ref a)) Q E s:=by
 rcases g with ⟨kvs,k,e,ey,l⟩|⟨kvs,k,b,e,ey,eb,l⟩
 ·subst ey
  obtain⟨z,hd,vs,rel,dd⟩:=dk_rd I.hok e;refine wpAny_notIn_of (kV_is ry) hd dd.mapOf ?_;rw[<- (rel.val k).isSome_eq,<- l];exact h _ (I.tok _)
 ·subst ey
  cases (show u=Value.ref b from ry);obtain⟨z,hd,xs,rel,dd⟩:=dt_rd I.hok e;refine wpAny_notIn_heap (tupleKind_room_in1 hu) (key_of I.hok eb) hd dd ?_;have q:=(rel.val k).isSome_eq;rw[Option.isSome_map]at q;rw[<- q,<- l];exact h _ (I.tok _)
theorem d_write {h':Heap}{t':Nat}{ob:HO}(I:Inv X pins σ H s)(mu:Mut (H a))(hs:Heap.SameBut a s.heap h')(he:∃ q,h'.get? a=some q)(new:ObjOk X.prog X.w (upd H a ob) h' a ob) :
  Inv X pins σ (upd H a ob) { s with heap:=h',toks:=t' } :=
 I.write (x:=a) (e:=a) mu (.inl rfl) (fun b q hb z=>(hs.2 b hb).trans z) he new
theorem dk_new {P:Program}{w:World}{H':Hp}{h':Heap}{kvs:List (Key×V)}{vs:List (Key×Value)}(z:kvs.length<=sizeLine)(hd:(a==sysModules)=false)(rel:KV kvs vs)(dd:h'.DictOf (mixKind P w) a vs) :
  ObjOk P w H' h' a (.dK kvs):=⟨z,hd,vs,rel,dd⟩
theorem d_setItem {H':Hp}{Q:Unit->Shared->Prop}(hu:A.units + 1 < cLine)(I:Inv X pins σ H s)(g:DPut H a y v H')(ry:RelV y u)(rv:RelV v r)(h:∀ s',Inv X pins σ H' s'->Q () s') :
  wpAny (model X.prog X.w) A (setItem (.ref a) u r) Q E s:=by
 rcases g with ⟨kvs,k,e,ey,l,eH⟩|⟨kvs,k,b,e,ey,eb,l,eH⟩
 ·subst ey eH
  obtain⟨z,hd,vs,rel,dd⟩:=dk_of I.hok e;have hz:vs.length<=sizeLine:=by rw[<- rel.length];exact z
  have hl:(putK kvs k v).length<=sizeLine:=by have:=length_putK kvs k v;omega
  refine wpAny_setItem_pairs (hsz:=hz) (kV_is ry) dd fun h' dd' hs=>h _ ?_;have he:∃ q,h'.get? a=some q:=let ⟨q,_,_,hq,_⟩:=dd';⟨q,hq⟩;exact d_write I (by rw[e];exact True.intro) hs he (dk_new hl hd (rel.put k rv) dd')
 ·subst ey eH
  cases (show u=Value.ref b from ry);obtain⟨z,hd,xs,rel,dd⟩:=dt_of I.hok e;have hz:xs.length<=sizeLine:=by rw[<- Paired.length rel];exact z
  have hl:(putK kvs k v).length<=sizeLine:=by have:=length_putK kvs k v;omega
  refine wpAny_setItem_heap (hsz:=hz) (tupleKind_room_in1 hu) (key_of I.hok eb) dd fun h' dd' hs=>h _ ?_;obtain⟨q,es,ep,hq,h2,h3,h4,_,h5⟩:=dd';refine d_write I (by rw[e];exact True.intro) hs ⟨q,hq⟩ ⟨hl,hd,_,(rel.put k eb rv).keeps fun c ys ec=>?_,q,es,ep,hq,h2,h3,h4,h5⟩;rw[upd_ne (ne_of ec e (fun z=>nomatch z))];exact ec
end
section
variable {X:Cx}{pins:List (Addr×Obj)}{σ:St}{H:Hp}{s:Shared}{a:Addr}{kvs:List (Key×V)}{k:Key}{u:Value}{A:Around}{E:Value->Shared->Prop}
theorem d_len {Q:Value->Shared->Prop}(I:Inv X pins σ H s)(e:Rd H a (.dK kvs))(h:∀ t s',Inv X pins σ H s'->Q (.int kvs.length t) s'):wpAny (model X.prog X.w) A (call (.builtin "len") [.ref a]) Q E s:=by
 obtain⟨z,hd,vs,rel,dd⟩:=dk_rd I.hok e;refine call_len_dict hd dd (by rw[<- rel.length];rw[sizeLine_eq]at z;omega) ?_;rw[<- rel.length];exact h _ _ (I.tok _)
end
theorem dict_typeIs {X:Cx}{pins:List (Addr×Obj)}{σ:St}{H:Hp}{s:Shared}{a:Addr}{y:V}{o:Option V}(I:Inv X pins σ H s)(g:DGet H a y o):s.TypeIs (.ref a) "dict":=by
 rcases g with ⟨kvs,k,e,_,_⟩|⟨kvs,k,b,e,_,_,_⟩
 ·obtain⟨_,_,vs,_,dd⟩:=dk_rd I.hok e
  exact dd.typeIs
 ·obtain⟨_,_,xs,_,dd⟩:=dt_rd I.hok e
  exact dd.typeIs
section
variable {X:Cx}{o i e value:Expr}{pos pos' tpos:Pos}{td ty tv:TE}
end
theorem dk_empty {P:Program}{w:World}{H:Hp}(h:Heap)(hb:sysModules < h.objs.size):ObjOk P w H (h.push { cls:=.type "dict",data:=.dict #[] }) h.objs.size (.dK []) :=
 ⟨Nat.zero_le _,beq_eq_false_iff_ne.mpr (Ne.symm (Nat.ne_of_lt hb)),[],.nil,Heap.DictOf.new h⟩
def tDNewK:TE:=fun _ H Q=>∀ p,H p=none->Q (.ref p) (upd H p (.dK []))
section
variable {X:Cx}{pos:Pos}
theorem pe_dnewK:PE X (.Dict [] [] pos) tDNewK:=fun pins s σ H Q I h =>
 wpAny_Dict_empty ⟨.ref s.heap.objs.size,_,I.laid (a:=s.heap.objs.size) (o:=.dK []) (t':=s.toks) (fun _ _ q=>Heap.get?_push_of_some _ q) (Nat.le_refl _) (dk_empty s.heap I.big),rfl,h _ (I.hok.fresh (Nat.le_refl _))⟩
end
section
variable {X:Cx}{pins:List (Addr×Obj)}{σ:St}{H:Hp}{s:Shared}{a:Addr}{y d:V}{u r:Value}{o:Option V}{A:Around}{E:Value->Shared->Prop}
end
section
variable {X:Cx}{o e f:Expr}{apos cpos:Pos}{td ty tx:TE}
end
section
variable {X:Cx}{pins:List (Addr×Obj)}{σ:St}{H:Hp}{s:Shared}{a:Addr}{kvs:List (Key×V)}{A:Around}{E:Value->Shared->Prop}
end
section
variable {X:Cx}{pins:List (Addr×Obj)}{σ:St}{H:Hp}{s:Shared}{a:Addr}{y:V}{u:Value}{A:Around}{E:Value->Shared->Prop}
end
end L2
namespace Att
open PySem PySem.W PySem.Calls PyProof.Rows
theorem ints_of_wellAll {P:Params}{h:Heap}:∀ (ns:List Int) (vs:List Value),WellAll P h vs (ns.map WData.int)->IntsAre vs ns:=by
 intro ns;induction ns with
 | nil =>
  intro vs w;rw[List.map_nil]at w;cases w;exact .nil
 | cons n ns ih =>
  intro vs w;rw[List.map_cons]at w;cases w with
  | cons a b =>
   cases a;exact .cons _ _ (ih _ b)
theorem script_of {l:OpenLaw}{n:Nat}(hn:l.most=some n){P:Params}{h:Heap}{args:List WData}{vals:List Value}
  (hpre:l.row.toRowW.claim.pre args=true) (hwl:WellAll P h vals args) :
  ∃ a vs ns,vals=[Value.ref a]/\args=[WData.list (ns.map WData.int)]/\h.get? a=some { cls:=.type "list",data:=.seq vs.toArray }/\IntsAre vs ns/\ns.length<=n:=by
 have hsh:WShape.hasAll [] args [.list .int]=true:=(pre_splitW hpre).1;have hc:l.pre.holds [] { args:=args }=true:=(pre_splitW hpre).2;obtain⟨d,r,rfl,h1,h2⟩:=hasAllW_cons hsh;obtain rfl:=hasAllW_nil h2;obtain⟨xs,rfl,h3⟩:=hasW_list h1;obtain⟨ns,rfl⟩:=items_int h3;have hlen:ns.length<=n:=by
  unfold OpenLaw.pre at hc;have h4:(WTm.not (.lt (.lit (.int (n:Int))) (.len (.arg 0)))).holds [] { args:=[.list (ns.map .int)] }=true:=by
   have h4:=(holds_andW hc).1;rw[hn]at h4;exact h4
  have h5:=condW_of h4 (w_not (w_lt w_lit (w_len_list (w_arg rfl))));rw[List.length_map]at h5;refine Nat.le_of_not_lt fun q=>?_;have q':(n:Int) < ((ns.length:Nat):Int):=by first | lia | omega
  first
   | (rw[decide_eq_true q']at h5;exact absurd h5 (by decide))
   | (simp at h5;omega)
 cases hwl with
 | cons w1 w2 =>
  cases w2;cases w1 with
  | list ho hall=>exact⟨_,_,ns,rfl,rfl,ho,ints_of_wellAll ns _ hall,hlen⟩
theorem post_true (l:OpenLaw)(args:List WData):l.row.toRowW.claim.post args (.bool true) args=true :=
 postW_of (r:=l.row.toRowW) (X:=(true==true))
  (show WShape.has [] (.bool true) .bool=true by first | rfl | decide | simp[WShape.has,WShape.arms,WShape.armsAll])
  (show (WTm.eq .res (.lit (.bool true))).value [] { args:=args,res:=some (.bool true),after:=args }=some (.bool (true==true)) from w_eq_bool (w_res rfl) w_lit) rfl
theorem attach_call {l:OpenLaw}{n:Nat}{q:Program}{loose:List Str}{XP:(Str->Option Value)->Heap->Prop}{YP:World->Heap->Prop}{d:DefRec}
  (hn:l.most=some n) (hdf:d.params.defaults=[])
  (call:∀ (w:World) (s₀ s₁:Shared) (mg mb:Str->Option Value) (fa:Addr) (o:Obj) (pm cd doc:Value) (a:Addr) (vs:List Value) (ns:List Int),
   Ground q loose [] XP w s₀ mg mb s₁.heap->YP w s₁.heap ->
   s₁.heap.get? fa=some o->o.data=.func (docDef d.name d.params d.body d.scope pm cd doc)->s₁.heap.CodeRec cd d.name->mg d.name=some (.ref fa) ->
   s₁.heap.get? a=some { cls:=.type "list",data:=.seq vs.toArray }->IntsAre vs ns->ns.length<=n->s₁.gens = #[] ->
   codeAny (model l.prog w) callerA (.call (.ref fa) ⟨[.ref a],[]⟩) (fun r s'=>r=.ok (.ret (.bool true))/\OldK s₁.heap s'.heap/\s'.os=s₁.os/\AllBare s'.gens) s₁) :
  WalkO q loose XP YP l.row.toRowW d [] (fun f vs=>PySem.call f vs):=by
 intro w s₀ s₁ mg mb G Y fa o pm cd doc dV kV ho hd hcd hD hmg hg args vals as hpre hlay hrd hwl hlo;obtain rfl:dV=.none:=Dflts.none hD hdf;obtain rfl:kV=.none:=Dflts.noKw hD;obtain⟨a,vs,ns,rfl,rfl,hobj,hints,hlen⟩:=script_of hn hpre hwl;refine enter_call (codeAny_mono (call w s₀ s₁ mg mb fa o pm cd doc a vs ns G Y ho (fd_plain hd) hcd hmg hobj hints hlen hg) fun r s' hq=>?_);obtain⟨rfl,h2,h3,h4⟩:=hq;exact⟨.inl ⟨.bool true,.bool true,[],rfl,fun _=>rfl,.bool true,post_true l _,fun _=>⟨List.Pairwise.nil,fun _ hm=>(nomatch hm)⟩⟩,h2,h3,h4⟩
section
variable {prog:Program}{w:World}{A:Around}{E:Value->Shared->Prop}{s:Shared}{K:Frag}
end
end Att
namespace L2
open PySem PySem.Spec PyProof.Rows
theorem vals_ints:∀ {vs:List Value} {ns:List Int},IntsAre vs ns->Vals (ns.map V.int) vs
 | _,_,.nil=>.nil
 | _,_,.cons n t h=>.cons ⟨t,rfl⟩ (vals_ints h)
def Only (H:Hp):Prop:=∀ b,H b=none\/∃ o xs,H b=some (.frz o (.lst xs))
theorem law_call {P:Program}{w:World}{K:PySem.W.Frag}{mg mb:Str->Option Value}{CX:CXT}{k:Nat}{fa a:Addr}{fd:FuncData}{x:Str}{sp:Sp}{s₁:Shared}{vs:List Value}{ns:List Int}
  (KX:K.In s₁.heap) (hns:s₁.heap.Ns mainGlobals mg) (hb:s₁.heap.Ns builtinsNs mb) (hbb:∀ x:Str,x≠"__name__"->mb x=bootBuiltins x) (hlim:s₁.heap.NoLimit) (hg:s₁.gens = #[])
  (ha:s₁.heap.get? a=some { cls:=.type "list",data:=.seq vs.toArray }) (hi:IntsAre vs ns) (hl:ns.length<=sizeLine) (hr:Room k callerA)
  (F:∀ base:Heap,K.In base->base.Ns mainGlobals mg->FnOk P w K mg base CX k fa fd [x] sp) (hbind:∀ (s:Shared) (u:Value),BindsTo s fd ⟨[u],[]⟩ [(x,u)])
  (hsp:∀ H:Hp,Only H->SqL K H a (ns.map V.int)->sp [.ref a] H (fun v _=>v=.bl true) fun _ _ _=>False)
  (hCX:∀ H e s',CX [] H s₁ (fun _ _ _=>False) e s'->False) :
  codeAny (model P w) callerA (.call (.ref fa) ⟨[.ref a],[]⟩) (fun r s'=>r=.ok (.ret (.bool true))/\OldK s₁.heap s'.heap/\s'.os=s₁.os/\AllBare s'.gens) s₁:=by
 have rv:=vals_ints hi;have lenV:=hi.length;have core:∀ H:Hp,Only H->SqL K H a (ns.map V.int)->HOk P w H s₁.heap->(∀ b,H b≠none->b=a)->(H a≠none->K.lookup a=none) ->
   codeAny (model P w) callerA (.call (.ref fa) ⟨[.ref a],[]⟩) (fun r s'=>r=.ok (.ret (.bool true))/\OldK s₁.heap s'.heap/\s'.os=s₁.os/\AllBare s'.gens) s₁:=by
  intro H hO hS hok hA hK;have base_of:∀ {b:Addr} {o:Obj},s₁.heap.get? b=some o->H b=none->(hidT s₁.heap H).get? b=some o:=fun e n=>hidT_get e n;have noA:∀ {b:Addr} {o:Obj} {es:Array DictEntry} {ep:Nat},s₁.heap.get? b=some o->o.data=.dict es ep->H b=none:=fun {b o es ep} e d=>by
   cases q:H b with
   | none=>rfl
   | some u =>
    have e':b=a:=hA b (by rw[q];simp);subst e';rw[ha]at e;cases e;have d':Data.seq vs.toArray _=Data.dict es ep:=d;cases d'
  have nsK:∀ {b:Addr} {m:Str->Option Value},s₁.heap.Ns b m->(hidT s₁.heap H).Ns b m:=fun {b m} ⟨o,es,ep,e,d,r⟩=>⟨o,es,ep,base_of e (noA e d),d,r⟩;have hKb:K.In (hidT s₁.heap H):=fun b o e=>base_of (KX b o e) (by
   cases q:H b with
   | none=>rfl
   | some u =>
    have e':b=a:=hA b (by rw[q];simp);subst e';rw[hK (by rw[q];simp)]at e;cases e)
  have hM:Mod K mg (hidT s₁.heap H):=⟨hKb,nsK hns,⟨mb,nsK hb,hbb⟩,let ⟨mc,h1,h2⟩:=hlim;⟨mc,nsK h1,h2⟩⟩;have e0:Env0 P w K mg (hidT s₁.heap H) callerA [] s₁ H:=⟨rfl,hM,fun b o e=>of_hidT e,Nat.le_of_eq (hidT_size _ _),trivial,fun b hb=>absurd (show b∈([]:List Addr) from hb) (by simp),hok,.of_eq hg⟩;refine codeAny_mono ((F _ hKb (nsK hns)).run callerA [] s₁ H ⟨[.ref a],[]⟩ [.ref a] [.ref a] _ _ hr e0 (hbind s₁ (.ref a)) (.cons rfl .nil) (hsp H hO hS)) fun r s' h=>?_;cases r with
  | error e=>exact(hCX H e s' h).elim
  | ok fl =>
   cases fl with
   | next=>exact False.elim h
   | brk=>exact False.elim h
   | cont=>exact False.elim h
   | ret u =>
    obtain⟨v,H',os,bare,un,hok',r',q⟩:=h;have q':v=.bl true:=q;subst q';obtain rfl:u=Value.bool true:=r';refine⟨rfl,OldK.of_keep fun b o e=>?_,os,bare⟩;cases q:H b with
    | none=>exact un.keep b o e q (by intro z;exact absurd (show b∈([]:List Addr) from z) (by simp)) (by simp)
    | some u =>
     rcases hO b with z | ⟨ob,xs,z⟩
     ·rw[q]at z;cases z
     ·have z2:=un.frzs b ob _ z
      obtain⟨e1,_⟩:=hok b _ z;obtain⟨e2,_⟩:=hok' b _ z2;rw[e]at e1;cases e1;exact e2
 cases hk:K.lookup a with
 | some o =>
  have e:=KX a o hk;rw[ha]at e;cases e;refine core (fun _=>none) (fun _=>.inl rfl) (.inr ⟨_,vs.toArray,_,hk,rfl,rfl,rfl,by rw[List.size_toArray,lenV];exact hl,by simpa using rv⟩) (fun b u z=>by have z':(none:Option HO)=some u:=z;cases z') (fun b z=>absurd rfl z) fun z=>absurd rfl z
 | none =>
  refine core (fun b=>if b=a then some (.frz { cls:=.type "list",data:=.seq vs.toArray } (.lst (ns.map V.int))) else none) (fun b=>?_) (.inl (.inr ⟨{ cls:=.type "list",data:=.seq vs.toArray },if_pos rfl⟩)) (fun b u z=>?_) (fun b z=>?_) fun _=>hk
  ·by_cases hb:b=a
   ·exact .inr ⟨_,_,if_pos hb⟩
   ·exact .inl (if_neg hb)
  ·by_cases hb:b=a
   ·have z':=(if_pos hb).symm.trans z
    cases z';subst hb;exact⟨ha,by rw[List.length_map];exact hl,vs,_,rv,ha⟩
   ·have z':=(if_neg hb).symm.trans z
    cases z'
  ·by_cases hb:b=a
   ·exact hb
   ·exact absurd (if_neg hb) z
end L2
namespace L2
open PySem PySem.Spec PyProof.Rows
end L2
/- THE LAST THEOREM (shape;LID,My.* are yours):
   My.Adr: a structure of the addresses that your layer names (classes,functions);My.Txt K t: a structure (Prop) of the equations over K;
   My.txt_mk:{K} {implicit addresses ..} (e1:nsIn K mainGlobals "law" = some (some (.ref f))) (e2:K.lookup f=some ⟨oc,od,.func (fnOf "law" "law" params body scope dV kV doc pm an cdv ct),sl⟩) (e3:codeIn K cdv "law" = true) .. : ∃ t,My.Txt K t
set_option maxRecDepth 100000 in
set_option maxHeartbeats 0 in
theorem PySem.Challenge.cw_LID_holds:PySem.Challenge.rw_LID.Holds:=by
 w_on;o_law;k_head;(case hw=>w_witness2)
 k_fill
 refine L2.walk_of (l:=PySem.Challenge.rw_LID) (n:=63) (k:=40) (x:="script") (CX:=fun w=>..) (sp:=fun _=>My.sp_law) rfl (by decide) rfl ⟨rfl,by decide,by decide⟩ (fun w h Y=>PySem.W.kIn_of Y) ?F ?S ?C
 case F =>
  intro w mg fa h KX G hmg;have T:∃ t,My.Txt (L2.KOf KX) t:=by
   dsimp only[L2.KOf]                          -- K must stand as «<heap const> w.params» for k_is
   refine' My.txt_mk ?e1 ?e2 ?e3 ..
   (case e1=>PySem.W.k_is)                    -- in the order: a name -> its address -> its object -> its parts
   (case e2=>PySem.W.k_is)
   ..
  obtain⟨t,T⟩:=T;have e0:=hmg.symm.trans (PySem.W.mg_of KX G T.law);cases e0                                       -- fa is the law's own address
  exact⟨_,fun s u=>.of_eq rfl,fun base kb nb=>My.law_fn T kb nb⟩     -- if «.of_eq rfl» comes too early: refine' ⟨_,?b,fun base kb nb=>My.law_fn T kb nb⟩;exact fun s u=>.of_eq rfl
 case S=>exact fun w H a ns hl hO hS=>..
 case C=>exact ..
(the tactic k_is has no namespace: write k_is) -/
namespace L2
open PySem PySem.Spec PyProof.Rows
def defArgs (s:Stmt):Arguments:=match s with
 | .FunctionDef _ a _ _ _ _ _ _ _ _=>a
 | _=>{ posonlyargs:=[],args:=[],vararg:=none,kwonlyargs:=[],kw_defaults:=[],kwarg:=none,defaults:=[] }
def defBody (s:Stmt):List Stmt:=match s with
 | .FunctionDef _ _ b _ _ _ _ _ _ _=>b
 | _=>[]
def defScope (s:Stmt):Scope:=match s with
 | .FunctionDef _ _ _ _ _ _ sc _ _ _=>sc
 | _=>{ kind:=.function,names:=[],isGenerator:=false,isCoroutine:=false }
abbrev CX0:CXT:=fun _ _ _ _ _ _=>False
abbrev E0:XK:=fun _ _ _=>False
theorem pass0 {X:Cx}:Passes CX0 X E0:=fun _ _ _ _ _ _ _ h=>h.elim
structure Fun (K:PySem.W.Frag) (x qual:Str) (st:Stmt) (f:Addr) (fd:FuncData):Prop where
 ex:∃ (oc:Value) (od:Option Addr) (kV doc pm:Value) (an:Option Addr) (cdv ct:Value) (osl:Array (Option Value)),
  fd=PySem.W.fnOf x qual (defArgs st) (defBody st) (defScope st) .none kV doc pm an cdv ct/\K.lookup f=some ⟨oc,od,.func fd,osl⟩/\PySem.W.codeIn K cdv qual=true
 kp:PySem.W.keepIn K (.ref f)=true
section
variable {P:Program}{w:World}{K:PySem.W.Frag}{mg:Str->Option Value}{base:Heap}
theorem Fun.ok {x qual:Str}{st:Stmt}{f:Addr}{fd:FuncData}{N ps:List Str}{k:Nat}{sp:Sp}(F:Fun K x qual st f fd)(S:FnScope N ps (defScope st))(len:∀ vs H Q E,sp vs H Q E->vs.length=ps.length)
  (hbody:∀ (cdv:Value) (A:Around) (outer:List Env) (s:Shared) (H:Hp) (vs:List V) (Q:VK) (E:XK),Room k (A.deeper (envOfC qual (defScope st) s.heap.objs.size f cdv))->sp vs H Q E ->
   ∃ t,PSs (cxOf CX0 P w K mg base N qual (defScope st) f cdv A outer s H E).nox (defBody st) t/\t { nx:=fun _ H'=>Q .non H',rt:=Q } (start N vs) H):FnOk P w K mg base CX0 (k + 1) f fd ps sp:=by
 obtain⟨oc,od,kV,doc,pm,an,cdv,ct,osl,rfl,lk,hcd⟩:=F.ex;refine fn_of lk hcd S len fun A outer s H vs Q E hr hsp=>?_;obtain⟨t,h,q⟩:=hbody cdv A outer s H vs Q E hr hsp;exact⟨t,h.nox,q⟩
theorem Fun.binds {x qual:Str}{st:Stmt}{f:Addr}{fd:FuncData}{ps:List Str}(F:Fun K x qual st f fd)
  (h:∀ (kV doc pm:Value) (an:Option Addr) (cdv ct:Value) (us:List Value),us.length=ps.length->bindArgs (PySem.W.fnOf x qual (defArgs st) (defBody st) (defScope st) .none kV doc pm an cdv ct) ⟨us,[]⟩=pure (ps.zip us)):Binds K fd ps []:=by
 obtain⟨oc,od,kV,doc,pm,an,cdv,ct,osl,rfl,lk,hcd⟩:=F.ex;exact .all (h kV doc pm an cdv ct)
theorem fun_mk {x qual:Str}{st:Stmt}{f:Addr}{oc:Value}{od an:Option Addr}{osl:Array (Option Value)}{kV doc pm cdv ct:Value}(l:K.lookup f=some ⟨oc,od,.func (PySem.W.fnOf x qual (defArgs st) (defBody st) (defScope st) .none kV doc pm an cdv ct),osl⟩)
  (c:PySem.W.codeIn K cdv qual=true) (k:PySem.W.keepIn K (.ref f)=true):Fun K x qual st f (PySem.W.fnOf x qual (defArgs st) (defBody st) (defScope st) .none kV doc pm an cdv ct):=⟨⟨oc,od,kV,doc,pm,an,cdv,ct,osl,rfl,l,c⟩,k⟩
end
section
variable {X:Cx}
end
end L2
set_option maxHeartbeats 4000000
namespace L3
open PySem
noncomputable abbrev Ky:=Sum Int Str
inductive D where
 | non | bl (b:Bool) | int (i:Int) | str (x:Str) | tup (ds:List D) | fl (ds:List D) | ob (i:Nat)
inductive MO where
 | lst (ds:List D)
 | dic (kvs:List (Ky×D))
 | dtt (kvs:List (List (List Ky)×D))
noncomputable abbrev MH:=List MO
inductive Out (α:Type) where
 | ok (a:α)
 | ex (c:Str) (ds:List D)
noncomputable def Mo (α:Type):=MH->Option (Out α×MH)
noncomputable def Mo.ret {α:Type}(a:α):Mo α:=fun M=>some (.ok a,M)
noncomputable def Mo.bind {α β:Type}(m:Mo α)(k:α->Mo β):Mo β:=fun M=>match m M with
 | none=>none
 | some (.ok a,M')=>k a M'
 | some (.ex c ds,M')=>some (.ex c ds,M')
noncomputable def Mo.stop {α:Type}:Mo α:=fun _=>none
noncomputable instance:Monad Mo where
 pure:=Mo.ret
 bind:=Mo.bind
theorem run_ret {α:Type}(a:α)(M:MH):(pure a:Mo α) M=some (.ok a,M):=rfl
theorem run_bind {α β:Type}(m:Mo α)(k:α->Mo β)(M:MH):(m >>= k) M=match m M with
 | none=>none
 | some (.ok a,M')=>k a M'
 | some (.ex c ds,M')=>some (.ex c ds,M'):=rfl
theorem bind_ok {α β:Type}{m:Mo α}{k:α->Mo β}{M M':MH}{b:β}(h:(m >>= k) M=some (.ok b,M')):∃ a M1,m M=some (.ok a,M1)/\k a M1=some (.ok b,M'):=by
 rw[run_bind]at h;split at h
 ·cases h
 ·rename_i a M1 e
  exact⟨a,M1,e,h⟩
 ·cases h
theorem ok_bind {α β:Type}{m:Mo α}{k:α->Mo β}{M M1:MH}{a:α}(h:m M=some (.ok a,M1)):(m >>= k) M=k a M1:=by
 rw[run_bind,h]
noncomputable abbrev Ev:=List (Option D)
noncomputable def getM (i:Nat):Mo MO:=fun M=>match M[i]? with
 | some o=>some (.ok o,M)
 | none=>none
noncomputable def newM (o:MO):Mo D:=fun M=>some (.ok (.ob M.length),M++[o])
noncomputable def putM (i:Nat)(o:MO):Mo Unit:=fun M=>if i < M.length then some (.ok (),M.set i o) else none
noncomputable def need (p:Prop)[Decidable p]:Mo Unit:=if p then pure () else Mo.stop
noncomputable def lift {α:Type}(o:Option α):Mo α:=match o with
 | some a=>pure a
 | none=>Mo.stop
noncomputable def getL (i:Nat):Mo (List D):=fun M=>match M[i]? with
 | some (.lst ds)=>some (.ok ds,M)
 | _=>none
noncomputable def getD (i:Nat):Mo (List (Ky×D)):=fun M=>match M[i]? with
 | some (.dic ds)=>some (.ok ds,M)
 | _=>none
noncomputable def getT (i:Nat):Mo (List (List (List Ky)×D)):=fun M=>match M[i]? with
 | some (.dtt ds)=>some (.ok ds,M)
 | _=>none
noncomputable def kyD:D->Option Ky
 | .int i=>some (.inl i)
 | .str x=>some (.inr x)
 | _=>none
noncomputable def kysD:List D->Option (List Ky)
 | []=>some []
 | d::r=>match kyD d,kysD r with
  | some k,some ks=>some (k::ks)
  | _,_=>none
noncomputable def kyP:D->Option (List Ky)
 | .tup ds=>kysD ds
 | _=>none
noncomputable def kysT:List D->Option (List (List Ky))
 | []=>some []
 | d::r=>match kyP d,kysT r with
  | some k,some ks=>some (k::ks)
  | _,_=>none
noncomputable def kyT:D->Option (List (List Ky))
 | .tup ds=>kysT ds
 | _=>none
noncomputable def tkGet (kvs:List (List (List Ky)×D))(k:List (List Ky)):Option D:=(kvs.find? fun kv=>decide (kv.1=k)).map (·.2)
noncomputable def tkPut (kvs:List (List (List Ky)×D))(k:List (List Ky))(v:D):List (List (List Ky)×D) :=
 if (kvs.any fun kv=>decide (kv.1=k))=true then kvs.map (fun kv=>if kv.1=k then (kv.1,v) else kv) else kvs++[(k,v)]
noncomputable def flatD:D->Bool
 | .non=>true | .bl _=>true | .int _=>true | .str _=>true | _=>false
noncomputable def eqF:D->D->Bool
 | .non,.non=>true
 | .bl a,.bl b=>a==b
 | .bl a,.int b=>(if a then 1 else 0)==b
 | .int a,.bl b=>a==(if b then 1 else 0)
 | .int a,.int b=>a==b
 | .str a,.str b=>a==b
 | _,_=>false
noncomputable def eqL (f:D->D->Option Bool):List D->List D->Option Bool
 | [],[]=>some true
 | [],_::_=>some false
 | _::_,[]=>some false
 | x::xs,y::ys=>match f x y with
  | none=>none
  | some b=>match eqL f xs ys with
   | none=>none
   | some c=>some (b&&c)
noncomputable def eqO (M:MH):Nat->D->D->Option Bool
 | 0,_,_=>none
 | n + 1,x,y=>match x,y with
  | .tup xs,.tup ys=>eqL (eqO M n) xs ys
  | .ob i,.ob j=>(match M[i]?,M[j]? with
   | some (.lst xs),some (.lst ys)=>if xs.length=ys.length then eqL (eqO M n) xs ys else some false
   | _,_=>none)
  | .tup _,y=>if flatD y=true then some false else none
  | x,.tup _=>if flatD x=true then some false else none
  | x,y=>if (flatD x&&flatD y)=true then some (eqF x y) else none
noncomputable def eqMo (x y:D):Mo Bool:=fun M=>match eqO M 20 x y with
 | some b=>some (.ok b,M)
 | none=>none
noncomputable def inL (M:MH)(x:D):List D->Option Bool
 | []=>some false
 | d::ds=>match eqO M 8 d x with
  | none=>none
  | some b=>match inL M x ds with
   | none=>none
   | some c=>some (b||c)
noncomputable def inMo (x:D)(ds:List D):Mo Bool:=fun M=>match inL M x ds with
 | some b=>some (.ok b,M)
 | none=>none
noncomputable def kvGet (kvs:List (Ky×D))(k:Ky):Option D:=(kvs.find? fun kv=>decide (kv.1=k)).map (·.2)
noncomputable def kvPut (kvs:List (Ky×D))(k:Ky)(v:D):List (Ky×D) :=
 if (kvs.any fun kv=>decide (kv.1=k))=true then kvs.map (fun kv=>if kv.1=k then (kv.1,v) else kv) else kvs++[(k,v)]
noncomputable def dK:Ky->D
 | .inl i=>.int i
 | .inr x=>.str x
noncomputable def sgn (c:Nat):D:=.str ⟨#[c]⟩
noncomputable def ixD (n:Nat)(i:Int):Option Nat:=if 0<=i then (if i < n then some i.toNat else none) else if -(n:Int)<=i then some (i + n).toNat else none
noncomputable def atD {α:Type}(xs:List α)(i:Int):Option α:=(ixD xs.length i).bind fun j=>xs[j]?
noncomputable def cutIx (n d:Nat):Option Int->Nat
 | none=>d
 | some v=>if v < 0 then (v + (n:Int)).toNat else min v.toNat n
noncomputable def cutD {α:Type}(xs:List α)(lo hi:Option Int):List α:=(xs.drop (cutIx xs.length 0 lo)).take (cutIx xs.length xs.length hi - cutIx xs.length 0 lo)
noncomputable def strOcc (j i:Str):Bool:=!(Builtin.Str.occurrences j i 0 j.length 1).isEmpty
noncomputable def repS (a:Str)(n:Nat):Str:=⟨(List.replicate n a.cps).foldl (·++·) #[]⟩
noncomputable def opD (op:Operator)(x y:D):Mo D:=match op,x,y with
 | .Add,.int i,.int j=>pure (.int (i + j))
 | .Add,.str a,.str b=>do need (a.length + b.length<=sizeLine);pure (.str (a++b))
 | .Add,.ob i,.ob j=>do
  let xs <- getL i
  let ys <- getL j
  need (xs.length + ys.length<=sizeLine)
  newM (.lst (xs++ys))
 | .Add,.tup xs,.tup ys=>do need (xs.length + ys.length<=sizeLine);pure (.tup (xs++ys))
 | .Sub,.int i,.int j=>pure (.int (i - j))
 | .Mult,.int i,.int j=>do need ((-(2 ^ 64) < i/\i < 2 ^ 64)\/(-(2 ^ 64) < j/\j < 2 ^ 64));pure (.int (i * j))
 | .FloorDiv,.int i,.int j=>do need (0 < j/\j < 1073741824);pure (.int (i / j))
 | .Mod,.int i,.int j=>do need (0 < j);pure (.int (i % j))
 | .Pow,.int i,.int j=>do need (0<=j/\j<=1000000/\i.natAbs < 2 ^ 64);pure (.int (i ^ j.toNat))
 | .Mult,.str a,.int j=>do need (2<=j/\j < 1000/\0 < a.length/\a.length < 1000);pure (.str (repS a j.toNat))
 | _,_,_=>Mo.stop
noncomputable def inD (x y:D):Mo Bool:=match y with
 | .str j=>(match x with
  | .str i=>pure (strOcc j i)
  | _=>Mo.stop)
 | .tup ds=>inMo x ds
 | .fl ds=>inMo x ds
 | .ob i=>do
  let o <- getM i
  (match o with
  | .lst ds=>inMo x ds
  | .dic kvs=>do let k <- lift (kyD x);pure (kvGet kvs k).isSome
  | .dtt _=>Mo.stop
  )
 | _=>Mo.stop
noncomputable def ltD (x y:D):Option Bool:=match x,y with
 | .int i,.int j=>some (decide (i < j))
 | .str a,.str b=>some (decide (a.cps.toList < b.cps.toList))
 | _,_=>none
noncomputable def leD (x y:D):Option Bool:=match x,y with
 | .int i,.int j=>some (decide (i<=j))
 | .str a,.str b=>some (!decide (b.cps.toList < a.cps.toList))
 | _,_=>none
noncomputable def isN:D->Bool
 | .non=>true
 | _=>false
noncomputable def cmpD (op:CmpOp)(x y:D):Mo Bool:=match op with
 | .Eq=>eqMo x y
 | .NotEq=>do let b <- eqMo x y;pure (!b)
 | .Lt=>lift (ltD x y)
 | .LtE=>lift (leD x y)
 | .Gt=>(match x,y with
  | .int i,.int j=>pure (decide (j < i))
  | _,_=>Mo.stop)
 | .GtE=>(match x,y with
  | .int i,.int j=>pure (decide (j<=i))
  | _,_=>Mo.stop)
 | .In=>inD x y
 | .NotIn=>do let b <- inD x y;pure (!b)
 | .Is=>do need (isN y=true);pure (isN x)
 | .IsNot=>do need (isN y=true);pure (!isN x)
noncomputable def getIx (x y:D):Mo D:=match x,y with
 | .tup ds,.int i=>lift (atD ds i)
 | .fl ds,.int i=>lift (atD ds i)
 | .str s,.int i=>do need (s.length<=sizeLine);let c <- lift (atD s.cps.toList i);pure (sgn c)
 | .ob k,y=>do
  let o <- getM k
  (match o with
  | .lst ds=>(match y with
   | .int i=>lift (atD ds i)
   | _=>Mo.stop)
  | .dic kvs=>do let q <- lift (kyD y);lift (kvGet kvs q)
  | .dtt kvs=>do let q <- lift (kyT y);lift (tkGet kvs q)
  )
 | _,_=>Mo.stop
noncomputable def setIx (x y v:D):Mo Unit:=match x with
 | .ob k=>do
  let o <- getM k
  (match o with
  | .lst ds=>(match y with
   | .int i=>do let j <- lift (ixD ds.length i);putM k (.lst (ds.set j v))
   | _=>Mo.stop)
  | .dic kvs=>do let q <- lift (kyD y);need (kvs.length < sizeLine);putM k (.dic (kvPut kvs q v))
  | .dtt kvs=>do let q <- lift (kyT y);need (kvs.length < sizeLine);putM k (.dtt (tkPut kvs q v))
  )
 | _=>Mo.stop
noncomputable def sliceD (x:D)(lo hi:Option Int):Mo D:=match x with
 | .str s=>do need (s.length<=sizeLine);pure (.str ⟨(cutD s.cps.toList lo hi).toArray⟩)
 | .tup ds=>pure (.tup (cutD ds lo hi))
 | .ob k=>do let ds <- getL k;newM (.lst (cutD ds lo hi))
 | .fl ds=>newM (.lst (cutD ds lo hi))
 | _=>Mo.stop
noncomputable def truD (x:D):Mo Bool:=match x with
 | .non=>pure false
 | .bl b=>pure b
 | .int i=>pure (i != 0)
 | .str s=>do need (s.length<=sizeLine);pure ((s.length:Int) != 0)
 | .tup ds=>pure (!ds.isEmpty)
 | .fl ds=>pure (!ds.isEmpty)
 | .ob k=>do
  let o <- getM k
  (match o with
  | .lst ds=>pure (!ds.isEmpty)
  | .dic kvs=>pure (!kvs.isEmpty)
  | .dtt _=>Mo.stop
  )
noncomputable def itemsD (x:D):Mo (List D):=match x with
 | .tup ds=>pure ds
 | .fl ds=>pure ds
 | .ob k=>getL k
 | _=>Mo.stop
noncomputable def lstD (x:D):Mo (List D):=match x with
 | .fl ds=>pure ds
 | .ob k=>getL k
 | _=>Mo.stop
noncomputable def boolD:D->Option Bool
 | .bl b=>some b
 | _=>none
noncomputable def strO:D->Option Str
 | .str x=>some x
 | _=>none
noncomputable def intD:D->Option Int
 | .int i=>some i
 | _=>none
noncomputable def allS:List D->Option (List Str)
 | []=>some []
 | d::ds=>match strO d,allS ds with
  | some x,some xs=>some (x::xs)
  | _,_=>none
noncomputable def allI:List D->Option (List Int)
 | []=>some []
 | d::ds=>match intD d,allI ds with
  | some x,some xs=>some (x::xs)
  | _,_=>none
noncomputable def minI:List Int->Int
 | []=>0
 | x::r=>r.foldl min x
inductive Bl where
 | len | tuple | list | repr | all | any | min2 | max2 | abs | dict1 | minL
 deriving DecidableEq
noncomputable def blD (b:Bl)(xs:List D):Mo D:=match b,xs with
 | .len,[.str s]=>do need (s.length<=sizeLine);pure (.int s.length)
 | .len,[.ob k]=>do
  let o <- getM k
  (match o with
  | .lst ds=>pure (.int ds.length)
  | .dic kvs=>pure (.int kvs.length)
  | .dtt _=>Mo.stop
  )
 | .len,[.tup ds]=>pure (.int ds.length)
 | .len,[.fl ds]=>pure (.int ds.length)
 | .tuple,[.tup ds]=>pure (.tup ds)
 | .tuple,[.fl ds]=>pure (.tup ds)
 | .tuple,[.ob k]=>do let ds <- getL k;pure (.tup ds)
 | .list,[x]=>do let ds <- itemsD x;newM (.lst ds)
 | .all,[.ob k]=>do let ds <- getL k;let bs <- lift (ds.mapM boolD);pure (.bl (bs.all id))
 | .any,[.ob k]=>do let ds <- getL k;let bs <- lift (ds.mapM boolD);pure (.bl (bs.any id))
 | .max2,[.int i,.int j]=>pure (.int (if j > i then j else i))
 | .minL,[.ob k]=>do let ds <- getL k;let ns <- lift (allI ds);need (ns≠[]);pure (.int (minI ns))
 | _,_=>Mo.stop
inductive Ty where
 | int | str | bool | list | tuple | dict
 deriving DecidableEq
noncomputable def tyD (t:Ty)(x:D):Mo Bool:=match x with
 | .non=>pure false
 | .bl _=>pure (t==.bool||t==.int)
 | .int _=>pure (t==.int)
 | .str _=>pure (t==.str)
 | .tup _=>pure (t==.tuple)
 | .fl _=>pure (t==.list)
 | .ob k=>do
  let o <- getM k
  (match o with
  | .lst _=>pure (t==.list)
  | .dic _=>pure (t==.dict)
  | .dtt _=>Mo.stop
  )
inductive Mt where
 | append | insert | join | get
 | extend
 | get1
 | sdf
 deriving DecidableEq
noncomputable def rcvD (m:Mt)(x:D):Mo Unit:=match m,x with
 | .append,.ob k=>do let _ <- getL k;pure ()
 | .insert,.ob k=>do let _ <- getL k;pure ()
 | .extend,.ob k=>do let _ <- getL k;pure ()
 | .join,.str _=>pure ()
 | .get,.ob k=>do let _ <- getD k;pure ()
 | .get1,.ob k=>do let _ <- getT k;pure ()
 | .sdf,.ob k=>do let _ <- getT k;pure ()
 | _,_=>Mo.stop
noncomputable def insIx (n:Nat)(i:Int):Nat:=if i < 0 then (i + (n:Int)).toNat else min i.toNat n
noncomputable def insD {α:Type}(xs:List α)(i:Int)(v:α):List α:=xs.take (insIx xs.length i)++v::xs.drop (insIx xs.length i)
noncomputable def isOb:D->Nat->Bool
 | .ob j,k=>j==k
 | _,_=>false
noncomputable def strD:D->Option Str
 | .str x=>some x
 | _=>none
noncomputable def glue (sep:List Nat):List (List Nat)->List Nat
 | []=>[]
 | [x]=>x
 | x::y::r=>x++sep++glue sep (y::r)
noncomputable def joinS (sep:Str)(ys:List Str):Str:=⟨(glue sep.cps.toList (ys.map (·.cps.toList))).toArray⟩
noncomputable def extD (x:D):Mo (List D):=match x with
 | .tup ds=>pure ds
 | .ob k=>getL k
 | _=>Mo.stop
noncomputable def sdfD (k:Nat)(kvs:List (List (List Ky)×D))(q:List (List Ky))(v:D):Mo D:=match tkGet kvs q with
 | some d=>pure d
 | none=>do putM k (.dtt (tkPut kvs q v));pure v
noncomputable def mtD (m:Mt)(x:D)(xs:List D):Mo D:=match m,x,xs with
 | .append,.ob k,[v]=>do let ds <- getL k;need (ds.length < sizeLine);putM k (.lst (ds++[v]));pure .non
 | .insert,.ob k,[.int i,v]=>do let ds <- getL k;need (ds.length < sizeLine/\-(2 ^ 62)<=i/\i < 2 ^ 62);putM k (.lst (insD ds i v));pure .non
 | .join,.str t,[.ob k]=>do let ds <- getL k;let ys <- lift (ds.mapM strD);need ((ys.map (·.length)).sum + ys.length * t.length<=16777216);pure (.str (joinS t ys))
 | .get1,.ob k,[y]=>do let kvs <- getT k;let q <- lift (kyT y);pure ((tkGet kvs q).getD .non)
 | .sdf,.ob k,[y,v]=>do let kvs <- getT k;let q <- lift (kyT y);need (kvs.length < sizeLine);sdfD k kvs q v
 | .extend,.ob k,[y]=>do let es <- extD y;let ds <- getL k;need (ds.length + es.length<=sizeLine/\isOb y k=false);putM k (.lst (ds++es));pure .non
 | _,_,_=>Mo.stop
set_option genSizeOf false
set_option genInjectivity false
mutual
inductive IE where
 | var (i:Nat) | cint (i:Int) | cbl (b:Bool) | cnon | cstr (x:Str)
 | glb (x:Str)
 | bin (op:Operator) (a b:IE)
 | cmp (op:CmpOp) (a b:IE)
 | cmp2 (op op':CmpOp) (a b c:IE)
 | and (a b:IE) | or (a b:IE) | not (a:IE)
 | ifE (c:IC) (a b:IE)
 | tup (es:IEs) | lst (es:IEs) | dic0
 | dtt0
 | idx (a b:IE) | slc (a:IE) (lo hi:IEo)
 | call (f:Str) (es:IEs) | blt (b:Bl) (es:IEs)
 | sortItems (a:IE)
 | sortL (a:IE)
 | srtT (a:IE)
 | revL (a:IE)
 | neg (a:IE)
 | isI (a:IE) (t:Ty)
 | mth (m:Mt) (a:IE) (es:IEs)
 | comp (j:Nat) (it:IT) (c:ICo) (e:IE)
inductive IEs where
 | nil | cons (e:IE) (es:IEs)
inductive IEo where
 | none | some (e:IE)
inductive IT where
 | seq (e:IE) | rng1 (a:IE) | rng2 (a b:IE)
inductive IC where
 | cmp (e:IE) | tru (e:IE) | not (c:IC) | and (a b:IC) | or (a b:IC)
inductive ICo where
 | none | some (c:IC)
end
inductive IP where
 | seq (e:IE) | enum (e:IE)
mutual
inductive IS where
 | set (i:Nat) (e:IE) | setIx (o i e:IE) | expr (e:IE) | ret (e:IE) | retN | pass | brk | cnt
 | halt
 | ifS (c:IC) (a b:ISs) | forS (i:Nat) (it:IT) (b:ISs) | forP (i j:Nat) (it:IP) (b:ISs) | whileS (c:IC) (b:ISs)
inductive ISs where
 | nil | cons (s:IS) (r:ISs)
end
set_option genSizeOf true
set_option genInjectivity true
noncomputable def leS (a b:Str):Bool:=!decide (b.cps.toList < a.cps.toList)
noncomputable def leI (a b:Int):Bool:=decide (a<=b)
theorem minI_go:∀ (r:List Int) (x:Int),r.foldl min x∈x::r/\∀ a∈x::r,r.foldl min x<=a
 | [],x=>⟨by simp,fun a h=>by simp at h;subst h;exact Int.le_refl _⟩
 | y::r,x=>by
  obtain⟨h1,h2⟩:=minI_go r (min x y);refine⟨?_,fun a ha=>?_⟩
  ·show r.foldl min (min x y)∈_
   rcases List.mem_cons.mp h1 with e | e
   ·rw[e]
    rcases Int.le_total x y with z | z
    ·rw[Int.min_eq_left z];simp
    ·rw[Int.min_eq_right z];simp
   ·simp[e]
  ·show r.foldl min (min x y)<=a
   have h3:=h2 (min x y) List.mem_cons_self;rcases List.mem_cons.mp ha with rfl | ha
   ·omega
   ·rcases List.mem_cons.mp ha with rfl | ha
    ·omega
    ·exact h2 a (List.mem_cons_of_mem _ ha)
theorem minI_mem {ns:List Int}(h:ns≠[]):minI ns∈ns/\∀ a∈ns,minI ns<=a:=by
 cases ns with
 | nil=>exact absurd rfl h
 | cons x r=>exact minI_go r x
noncomputable def sortS (xs:List Str):List Str:=xs.mergeSort leS
noncomputable def sortI (xs:List Int):List Int:=xs.mergeSort leI
theorem leS_trans (a b c:Str)(h1:leS a b=true)(h2:leS b c=true):leS a c=true:=by
 simp only[leS,Bool.not_eq_true',decide_eq_false_iff_not,List.not_lt]at *;exact List.le_trans h1 h2
theorem leS_total (a b:Str):(leS a b||leS b a)=true:=by
 simp only[leS,Bool.or_eq_true,Bool.not_eq_true',decide_eq_false_iff_not,List.not_lt];exact List.le_total _ _
theorem leS_anti {a b:Str}(h1:leS a b=true)(h2:leS b a=true):a=b:=by
 simp only[leS,Bool.not_eq_true',decide_eq_false_iff_not,List.not_lt]at *;have e:=List.le_antisymm h1 h2;cases a;cases b;congr 1;exact Array.toList_inj.mp e
theorem sortS_perm (xs:List Str):(sortS xs).Perm xs:=List.mergeSort_perm _ _
theorem sortS_pw (xs:List Str):(sortS xs).Pairwise fun a b=>leS a b=true:=List.pairwise_mergeSort leS_trans leS_total xs
theorem sortS_uniq {xs ys:List Str}(p:ys.Perm xs)(h:ys.Pairwise fun a b=>leS a b=true):ys=sortS xs :=
 List.Perm.eq_of_pairwise (fun _ _ _ _=>leS_anti) h (sortS_pw xs) (p.trans (sortS_perm xs).symm)
theorem sortI_perm (xs:List Int):(sortI xs).Perm xs:=List.mergeSort_perm _ _
theorem sortI_pw (xs:List Int):(sortI xs).Pairwise fun a b=>a<=b:=by
 have:=List.pairwise_mergeSort (le:=leI) (fun a b c h1 h2=>by simp only[leI,decide_eq_true_eq]at *;omega) (fun a b=>by simp only[leI,Bool.or_eq_true,decide_eq_true_eq];omega) xs
 exact this.imp fun h=>by simpa [leI] using h
theorem sortI_uniq {xs ys:List Int}(p:ys.Perm xs)(h:ys.Pairwise fun a b=>a<=b):ys=sortI xs :=
 List.Perm.eq_of_pairwise (fun _ _ _ _=>Int.le_antisymm) h (sortI_pw xs) (p.trans (sortI_perm xs).symm)
theorem sortI_same {xs ys:List Int}(p:ys.Perm xs):sortI ys=sortI xs:=sortI_uniq ((sortI_perm ys).trans p) (sortI_pw ys)
theorem allS_map (xs:List Str):allS (xs.map .str)=some xs:=by
 induction xs with
 | nil=>rfl
 | cons x r ih=>simp only[List.map_cons,allS,strO,ih]
theorem allI_map (xs:List Int):allI (xs.map .int)=some xs:=by
 induction xs with
 | nil=>rfl
 | cons x r ih=>simp only[List.map_cons,allI,intD,ih]
theorem allS_eq:∀ {ds:List D} {xs:List Str},allS ds=some xs->ds=xs.map .str
 | [],xs,h=>by cases h;rfl
 | d::ds,xs,h=>by
  simp only[allS]at h;cases d <;> simp only[strO,reduceCtorEq]at h;cases e:allS ds with
  | none=>rw[e]at h;cases h
  | some ys=>rw[e]at h;cases h;rw[allS_eq e];rfl
theorem allI_eq:∀ {ds:List D} {xs:List Int},allI ds=some xs->ds=xs.map .int
 | [],xs,h=>by cases h;rfl
 | d::ds,xs,h=>by
  simp only[allI]at h;cases d <;> simp only[intD,reduceCtorEq]at h;cases e:allI ds with
  | none=>rw[e]at h;cases h
  | some ys=>rw[e]at h;cases h;rw[allI_eq e];rfl
noncomputable def keyD2 (k:List (List Ky)):D:=.tup (k.map fun r=>.tup (r.map dK))
noncomputable def keyTT (srt:List D->Option (List D))(x:D):Mo D:=match x with
 | .ob k=>do
  let kvs <- getT k
  let ys <- lift (srt (kvs.map fun p=>keyD2 p.1))
  newM (.lst ys)
 | _=>Mo.stop
noncomputable def sortF (ds:List D):Option (List D):=match allS ds with
 | some xs=>some ((sortS xs).map .str)
 | none=>match allI ds with
  | some xs=>some ((sortI xs).map .int)
  | none=>none
end L3
namespace L3
open PySem
structure Ctx where
 fn:Str->List D->Mo D
 gl:Str->Option D
 srt:List D->Option (List D)
 wh:Nat
inductive Fl where
 | nx (ρ:Ev) | rt (d:D) | bk (ρ:Ev) | ct (ρ:Ev)
structure Src where
 ck:Option (Nat×List D)
 ds:List D
noncomputable def okM (ck:Option (Nat×List D))(M:MH):Prop:=match ck with
 | none=>True
 | some (i,all)=>M[i]?=some (.lst all)
noncomputable def srcD (x:D):Mo Src:=match x with
 | .tup ds=>pure ⟨none,ds⟩
 | .fl ds=>pure ⟨none,ds⟩
 | .str s=>do need (s.length<=sizeLine);pure ⟨none,s.cps.toList.map sgn⟩
 | .ob k=>do let ds <- getL k;pure ⟨some (k,ds),ds⟩
 | _=>Mo.stop
noncomputable def small (i:Int):Prop:=-(2 ^ 62)<=i/\i < 2 ^ 62
noncomputable instance (i:Int):Decidable (small i):=by unfold small;infer_instance
noncomputable def rngD (lo hi:Int):List D:=(List.range (hi - lo).toNat).map fun (k:Nat)=>D.int (lo + k)
open Classical in
noncomputable def stand (ck:Option (Nat×List D)):Mo Unit:=fun M=>if okM ck M then some (.ok (),M) else none
noncomputable def loopD (ck:Option (Nat×List D))(i:Nat)(body:Ev->Mo Fl):List D->Ev->Mo Fl
 | [],ρ=>do stand ck;pure (.nx ρ)
 | d::ds,ρ=>do
  stand ck
  let f <- body (ρ.set i (some d))
  (match f with
  | .nx ρ'=>loopD ck i body ds ρ'
  | .ct ρ'=>loopD ck i body ds ρ'
  | .bk ρ'=>pure (.nx ρ')
  | .rt v=>pure (.rt v))
noncomputable def enumD (ds:List D):List D:=ds.mapIdx fun n d=>.tup [.int n,d]
noncomputable def enumS (x:D):Mo Src:=match x with
 | .tup ds=>pure ⟨none,enumD ds⟩
 | .fl ds=>pure ⟨none,enumD ds⟩
 | .ob k=>do let ds <- getL k;pure ⟨some (k,ds),enumD ds⟩
 | _=>Mo.stop
noncomputable def pairD:D->Option (D×D)
 | .tup [x,y]=>some (x,y)
 | _=>none
noncomputable def loopP (ck:Option (Nat×List D))(i j:Nat)(body:Ev->Mo Fl):List D->Ev->Mo Fl
 | [],ρ=>do stand ck;pure (.nx ρ)
 | d::ds,ρ=>do
  stand ck
  let p <- lift (pairD d)
  let f <- body ((ρ.set i (some p.1)).set j (some p.2))
  (match f with
  | .nx ρ'=>loopP ck i j body ds ρ'
  | .ct ρ'=>loopP ck i j body ds ρ'
  | .bk ρ'=>pure (.nx ρ')
  | .rt v=>pure (.rt v))
noncomputable def whileD (c:Ev->Mo Bool)(body:Ev->Mo Fl):Nat->Ev->Mo Fl
 | 0,_=>Mo.stop
 | n + 1,ρ=>do
  let b <- c ρ
  if b=true then do
   let f <- body ρ
   (match f with
   | .nx ρ'=>whileD c body n ρ'
   | .ct ρ'=>whileD c body n ρ'
   | .bk ρ'=>pure (.nx ρ')
   | .rt v=>pure (.rt v))
  else pure (.nx ρ)
noncomputable def compD (ck:Option (Nat×List D))(c:Ev->Mo Bool)(e:Ev->Mo D)(ρ:Ev):List D->Mo (List D)
 | []=>do stand ck;pure []
 | d::ds=>do
  stand ck
  let b <- c (some d::ρ)
  if b=true then do
   let y <- e (some d::ρ)
   let ys <- compD ck c e ρ ds
   pure (y::ys)
  else compD ck c e ρ ds
noncomputable def varD (ρ:Ev)(i:Nat):Mo D:=match ρ[i]? with
 | some (some d)=>pure d
 | _=>Mo.stop
noncomputable def dicItems (kvs:List (Ky×D)):List D:=kvs.map fun kv=>.tup [dK kv.1,kv.2]
mutual
noncomputable def semE (Γ:Ctx):IE->Ev->Mo D
 | .var i,ρ=>varD ρ i
 | .cint i,_=>pure (.int i)
 | .cbl b,_=>pure (.bl b)
 | .cnon,_=>pure .non
 | .cstr x,_=>pure (.str x)
 | .glb x,_=>lift (Γ.gl x)
 | .bin op a b,ρ=>do let x <- semE Γ a ρ;let y <- semE Γ b ρ;opD op x y
 | .cmp op a b,ρ=>do let x <- semE Γ a ρ;let y <- semE Γ b ρ;let k <- cmpD op x y;pure (.bl k)
 | .cmp2 op op' a b c,ρ=>do
  let x <- semE Γ a ρ
  let y <- semE Γ b ρ
  let k <- cmpD op x y
  if k=true then do let z <- semE Γ c ρ;let k' <- cmpD op' y z;pure (.bl k') else pure (.bl false)
 | .and a b,ρ=>do let x <- semE Γ a ρ;let k <- lift (boolD x);if k=true then semE Γ b ρ else pure (.bl false)
 | .or a b,ρ=>do let x <- semE Γ a ρ;let k <- lift (boolD x);if k=true then pure (.bl true) else semE Γ b ρ
 | .not a,ρ=>do let x <- semE Γ a ρ;let k <- lift (boolD x);pure (.bl (!k))
 | .ifE c a b,ρ=>do let k <- semC Γ c ρ;if k=true then semE Γ a ρ else semE Γ b ρ
 | .tup es,ρ=>do let xs <- semEs Γ es ρ;need (xs.length<=sizeLine);pure (.tup xs)
 | .lst es,ρ=>do let xs <- semEs Γ es ρ;need (xs.length<=sizeLine);newM (.lst xs)
 | .dic0,_=>newM (.dic [])
 | .dtt0,_=>newM (.dtt [])
 | .idx a b,ρ=>do let x <- semE Γ a ρ;let y <- semE Γ b ρ;getIx x y
 | .slc a lo hi,ρ=>do let x <- semE Γ a ρ;let l <- semO Γ lo ρ;let h <- semO Γ hi ρ;sliceD x l h
 | .call f es,ρ=>do let xs <- semEs Γ es ρ;Γ.fn f xs
 | .blt b es,ρ=>do let xs <- semEs Γ es ρ;blD b xs
 | .sortItems a,ρ=>do
  let x <- semE Γ a ρ
  (match x with
  | .ob k=>do let kvs <- getD k;let ys <- lift (Γ.srt (dicItems kvs));newM (.lst ys)
  | _=>Mo.stop)
 | .comp j it c e,ρ=>do
  let s <- semT Γ it ρ
  need (s.ds.length<=sizeLine)
  let ys <- compD s.ck (semCo Γ c) (semE Γ e) (ρ.set j none) s.ds
  newM (.lst ys)
 | .srtT a,ρ=>do let x <- semE Γ a ρ;keyTT Γ.srt x
 | .sortL a,ρ=>do
  let x <- semE Γ a ρ
  let ds <- lstD x
  let ys <- lift (Γ.srt ds)
  newM (.lst ys)
 | .revL a,ρ=>do
  let x <- semE Γ a ρ
  let ds <- lstD x
  newM (.lst ds.reverse)
 | .neg a,ρ=>do
  let x <- semE Γ a ρ
  (match x with
  | .int i=>pure (.int (-i))
  | _=>Mo.stop)
 | .isI a t,ρ=>do let x <- semE Γ a ρ;let k <- tyD t x;pure (.bl k)
 | .mth m a es,ρ=>do let x <- semE Γ a ρ;rcvD m x;let xs <- semEs Γ es ρ;mtD m x xs
noncomputable def semEs (Γ:Ctx):IEs->Ev->Mo (List D)
 | .nil,_=>pure []
 | .cons e es,ρ=>do let x <- semE Γ e ρ;let xs <- semEs Γ es ρ;pure (x::xs)
noncomputable def semO (Γ:Ctx):IEo->Ev->Mo (Option Int)
 | .none,_=>pure none
 | .some e,ρ=>do
  let x <- semE Γ e ρ
  (match x with
  | .int i=>pure (some i)
  | _=>Mo.stop)
noncomputable def semT (Γ:Ctx):IT->Ev->Mo Src
 | .seq e,ρ=>do let x <- semE Γ e ρ;srcD x
 | .rng1 a,ρ=>do
  let x <- semE Γ a ρ
  (match x with
  | .int i=>do need (small i);pure ⟨none,rngD 0 i⟩
  | _=>Mo.stop)
 | .rng2 a b,ρ=>do
  let x <- semE Γ a ρ
  let y <- semE Γ b ρ
  (match x,y with
  | .int i,.int j=>do need (small i/\small j);pure ⟨none,rngD i j⟩
  | _,_=>Mo.stop)
noncomputable def semC (Γ:Ctx):IC->Ev->Mo Bool
 | .cmp e,ρ=>do let x <- semE Γ e ρ;lift (boolD x)
 | .tru e,ρ=>do let x <- semE Γ e ρ;truD x
 | .not c,ρ=>do let k <- semC Γ c ρ;pure (!k)
 | .and a b,ρ=>do let k <- semC Γ a ρ;if k=true then semC Γ b ρ else pure false
 | .or a b,ρ=>do let k <- semC Γ a ρ;if k=true then pure true else semC Γ b ρ
noncomputable def semCo (Γ:Ctx):ICo->Ev->Mo Bool
 | .none,_=>pure true
 | .some c,ρ=>semC Γ c ρ
end
noncomputable def semP (Γ:Ctx):IP->Ev->Mo Src
 | .seq e,ρ=>do let x <- semE Γ e ρ;srcD x
 | .enum e,ρ=>do let x <- semE Γ e ρ;enumS x
mutual
noncomputable def semS (Γ:Ctx):IS->Ev->Mo Fl
 | .set i e,ρ=>do let x <- semE Γ e ρ;pure (.nx (ρ.set i (some x)))
 | .setIx o i e,ρ=>do let v <- semE Γ e ρ;let x <- semE Γ o ρ;let y <- semE Γ i ρ;setIx x y v;pure (.nx ρ)
 | .expr e,ρ=>do let _ <- semE Γ e ρ;pure (.nx ρ)
 | .ret e,ρ=>do let x <- semE Γ e ρ;pure (.rt x)
 | .retN,_=>pure (.rt .non)
 | .pass,ρ=>pure (.nx ρ)
 | .brk,ρ=>pure (.bk ρ)
 | .cnt,ρ=>pure (.ct ρ)
 | .halt,_=>Mo.stop
 | .ifS c a b,ρ=>do let k <- semC Γ c ρ;if k=true then semSs Γ a ρ else semSs Γ b ρ
 | .forS i it b,ρ=>do let s <- semT Γ it ρ;loopD s.ck i (semSs Γ b) s.ds ρ
 | .forP i j it b,ρ=>do let s <- semP Γ it ρ;loopP s.ck i j (semSs Γ b) s.ds ρ
 | .whileS c b,ρ=>whileD (semC Γ c) (semSs Γ b) Γ.wh ρ
noncomputable def semSs (Γ:Ctx):ISs->Ev->Mo Fl
 | .nil,ρ=>pure (.nx ρ)
 | .cons s r,ρ=>do
  let f <- semS Γ s ρ
  (match f with
  | .nx ρ'=>semSs Γ r ρ'
  | .rt v=>pure (.rt v)
  | .bk ρ'=>pure (.bk ρ')
  | .ct ρ'=>pure (.ct ρ'))
end
noncomputable def semF (Γ:Ctx)(n:Nat)(b:ISs)(xs:List D):Mo D:=do
 let f <- semSs Γ b (xs.map some++List.replicate (n - xs.length) none)
 (match f with
 | .nx _=>pure .non
 | .rt v=>pure v
 | .bk _=>Mo.stop
 | .ct _=>Mo.stop)
structure Fd where
 n:Nat
 p:Nat
 b:ISs
noncomputable def CtxN (tab:List (Str×Fd))(gl:Str->Option D)(srt:List D->Option (List D))(wh:Nat):Nat->Ctx
 | 0=>⟨fun _ _=>Mo.stop,gl,srt,wh⟩
 | k + 1=>⟨fun f xs=>match tab.lookup f with
  | some d=>do need (xs.length=d.p);semF (CtxN tab gl srt wh k) d.n d.b xs
  | none=>Mo.stop,gl,srt,wh⟩
structure Sc where
 sc:Scope
 N:List Str
 fns:List Str
 gls:List Str
 bls:List Str
noncomputable def Sc.kind (S:Sc)(x:Str):Option NameKind:=S.sc.names.lookup x
noncomputable def Sc.vis (S:Sc)(x:Str):Bool:=S.kind x==some .local||S.kind x==some .cell||S.kind x==some .free
noncomputable def Sc.loc (S:Sc)(x:Str):Bool:=S.kind x==some .local||S.kind x==some .cell
noncomputable def Sc.glo (S:Sc)(x:Str):Bool:=S.kind x==some .globalImplicit
noncomputable def slot (N:List Str)(x:Str):Option Nat:=N.findIdx? (·==x)
noncomputable def blOf (x:Str)(n:Nat):Option Bl :=
 if x==("len" : Str)&&n==1 then some .len else if x==("tuple" : Str)&&n==1 then some .tuple else if x==("list" : Str)&&n==1 then some .list
 else if x==("repr" : Str)&&n==1 then some .repr else if x==("all" : Str)&&n==1 then some .all else if x==("any" : Str)&&n==1 then some .any
 else if x==("min" : Str)&&n==2 then some .min2 else if x==("max" : Str)&&n==2 then some .max2 else if x==("abs" : Str)&&n==1 then some .abs else if x==("dict" : Str)&&n==1 then some .dict1 else if x==("min" : Str)&&n==1 then some .minL else none
noncomputable def plainE:Expr->Bool
 | .Starred _ _=>false
 | _=>true
noncomputable def okName (x:Str):Bool:=x != ("__debug__" : Str)&&x != ("__classdict__" : Str)&&x != ("__name__" : Str)
noncomputable def ixE:Expr->Bool
 | .Name _ _=>true | .Constant _ _ _=>true | .BinOp _ _ _ _=>true | .Compare _ _ _ _=>true | .BoolOp _ _ _=>true | .UnaryOp _ _ _=>true | .IfExp _ _ _ _=>true
 | .List _ _=>true | .Subscript _ _ _=>true | .Call _ _ _ _=>true | _=>false
noncomputable def bsE:Expr->Bool
 | .Name _ _=>true | .Constant _ _ _=>true | .BinOp _ _ _ _=>true | .Subscript _ _ _=>true | .List _ _=>true | .Tuple _ _ _=>true | .Call _ (_::_) _ _=>true | _=>false
noncomputable def noComp:Expr->Bool
 | .ListComp _ _ _ _=>false
 | .SetComp _ _ _ _=>false
 | .DictComp _ _ _ _ _=>false
 | _=>true
noncomputable def blank (N:List Str)(xs:List Str):List Str:=N.map fun y=>if xs.contains y then "" else y
noncomputable def compOk (S:Sc)(sc:Scope)(xs:List Str):Bool :=
 sc.kind==.function&&(xs.all fun x=>sc.names.lookup x==some .local&&(x != (".0" : Str))&&(x != ("" : Str))) &&
 sc.names.all (fun p=>p.2 != .cell&&(p.2 != .local||(xs.contains p.1||p.1==(".0" : Str)))) &&
 sc.names.all (fun p=>p.2 != .free||(S.kind p.1==some .cell||S.kind p.1==some .free)) &&
 sc.names.all (fun p=>sc.names.lookup p.1==some p.2&&p.1 != ("" : Str))&&(S.N.all fun y=>y != (".0" : Str))&&decide (xs++blank S.N xs).Nodup
noncomputable def Sc.comp (S:Sc)(sc:Scope)(xs:List Str):Sc:={ S with sc:=sc,N:=xs++blank S.N xs }
noncomputable def inDomOp (op:Operator):Bool:=op==.Add||op==.Sub||op==.Mult||op==.FloorDiv||op==.Mod||op==.Pow
noncomputable def callK (S:Sc)(f:Str)(len:Nat)(xs:Option IEs):Option IE:=if okName f&&S.glo f then
 (if S.fns.contains f then xs.map (.call f)
 else if S.bls.contains f then (match blOf f len with
  | some b=>xs.map (.blt b)
  | none=>none)
 else none) else none
noncomputable def tyOf (t:Str):Option Ty :=
 if t==("int" : Str) then some .int else if t==("str" : Str) then some .str else if t==("bool" : Str) then some .bool
 else if t==("list" : Str) then some .list else if t==("tuple" : Str) then some .tuple else if t==("dict" : Str) then some .dict else none
noncomputable def mtOf (m:Str)(n:Nat):Option Mt :=
 if m==("append" : Str)&&n==1 then some .append else if m==("insert" : Str)&&n==2 then some .insert else
 if m==("extend" : Str)&&n==1 then some .extend else
 if m==("get" : Str)&&n==1 then some .get1 else
 if m==("setdefault" : Str)&&n==2 then some .sdf else
 if m==("join" : Str)&&n==1 then some .join else if m==("get" : Str)&&n==2 then some .get else none
noncomputable def isiOk (S:Sc)(f t:Str):Bool:=f==("isinstance" : Str)&&okName f&&S.glo f&&S.bls.contains f&&okName t&&S.glo t&&S.bls.contains t
noncomputable def nameK (S:Sc)(x:Str):Option IE:=if okName x then (if S.vis x then (slot S.N x).map .var else if S.glo x&&S.gls.contains x then some (.glb x) else none) else none
noncomputable def constK:Const->Option IE
 | .int i=>some (.cint i)
 | .bool b=>some (.cbl b)
 | .none=>some .cnon
 | .str x=>some (.cstr x)
 | _=>none
noncomputable def isRng:Expr->Bool
 | .Call (.Name f _) _ _ _=>f==("range" : Str)
 | _=>false
noncomputable def cmpK (r:Expr->Option IE)(a:Expr)(ops:List CmpOp)(bs:List Expr):Option IE:=match ops,bs with
 | [op],[b]=>if behindInMarks op b then none else do let x <- r a;let y <- r b;some (.cmp op x y)
 | [op,op'],[b,c]=>if behindInMarks op' c then none else do let x <- r a;let y <- r b;let z <- r c;some (.cmp2 op op' x y z)
 | _,_=>none
noncomputable def andor:BoolOp->IE->IE->IE
 | .And=>.and
 | .Or=>.or
noncomputable def boolK (r:Expr->Option IE)(op:BoolOp)(es:List Expr)(p:Pos):Option IE:=match es with
 | [a,b]=>do let x <- r a;let y <- r b;some (andor op x y)
 | a::b::c::l=>do let x <- r a;let y <- r (.BoolOp op (b::c::l) p);some (andor op x y)
 | _=>none
noncomputable def unK (r:Expr->Option IE)(op:UnaryOp)(a:Expr):Option IE:=match op with
 | .Not=>do let x <- r a;some (.not x)
 | .USub=>do let x <- r a;some (.neg x)
 | _=>none
noncomputable def dictK (_:Expr->Option IE)(ks:List (Option Expr))(vs:List Expr):Option IE:=match ks,vs with
 | [],[]=>some .dic0
 | _,_=>none
noncomputable def subK (r:Expr->Option IE)(ro:Option Expr->Option IEo)(a b:Expr):Option IE:=match b with
 | .Slice lo hi none _=>do let x <- r a;let l <- ro lo;let h <- ro hi;some (.slc x l h)
 | b=>if ixE b then do let x <- r a;let y <- r b;some (.idx x y) else none
noncomputable def itemsE:Expr->Option (Expr×Str×Pos×Pos)
 | .Call (.Attribute o m p2) [] [] p3=>some (o,m,p2,p3)
 | _=>none
noncomputable def nmE:Expr->Option (Str×Pos)
 | .Name t p=>some (t,p)
 | _=>none
noncomputable def dtName:Expr->Bool
 | .Name x _=>x==("numbers" : Str)
 | _=>false
noncomputable def sortK (S:Sc)(r:Expr->Option IE)(f:Str)(as:List Expr):Option IE:=match as with
 | [a]=>(match itemsE a with
  | some (o,m,p2,p3)=>if bsE o&&(f==("sorted" : Str)&&m==("items" : Str)&&p2.endLine==p3.line&&okName f&&S.glo f&&S.bls.contains f) then do let x <- r o;some (.sortItems x) else none
  | none=>(
    if dtName a then (if plainE a&&(f==("sorted" : Str)&&okName f&&S.glo f&&S.bls.contains f) then do let x <- r a;some (.srtT x) else none)
    else
    if plainE a&&(f==("sorted" : Str)&&okName f&&S.glo f&&S.bls.contains f) then do let x <- r a;some (.sortL x) else none))
 | _=>none
noncomputable def rngE:Expr->Option (Str×Pos×List Expr×Pos)
 | .Call (.Name f p) as [] q=>some (f,p,as,q)
 | _=>none
noncomputable def rngOk (S:Sc)(f:Str)(as:List Expr):Bool:=f==("range" : Str)&&okName f&&S.glo f&&S.bls.contains f&&as.all plainE
noncomputable def revE:Expr->Option (Str×Pos×Expr×Pos)
 | .Call (.Name g p) [a] [] q=>some (g,p,a,q)
 | _=>none
noncomputable def revOk (S:Sc)(f g:Str):Bool:=f==("list" : Str)&&g==("reversed" : Str)&&okName f&&okName g&&S.glo f&&S.glo g&&S.bls.contains f&&S.bls.contains g
noncomputable def revK (S:Sc)(r:Expr->Option IE)(f:Str)(as:List Expr)(k:Option IE):Option IE:=match as with
 | [e]=>(match revE e with
  | some (g,_,a,_)=>if revOk S f g then (if plainE a then do let x <- r a;some (.revL x) else none) else k
  | none=>k)
 | _=>k
noncomputable def isiK (S:Sc)(r:Expr->Option IE)(f:Str)(as:List Expr):Option IE:=match as with
 | [a,t]=>(match nmE t with
  | some (t',_)=>if isiOk S f t'&&plainE a then (match tyOf t' with
   | some k=>do let x <- r a;some (.isI x k)
   | none=>none) else none
  | none=>none)
 | _=>none
noncomputable def attrK (r:Expr->Option IE)(rs:List Expr->Option IEs)(o:Expr)(m:Str)(p2 p3:Pos)(as:List Expr):Option IE:=match as with
 | e::es=>if bsE o&&(p2.endLine==p3.line&&decide ((e::es).length < 29)) then (match
   mtOf m (e::es).length with
   | some k=>do let x <- r o;let xs <- rs (e::es);some (.mth k x xs)
   | none=>none) else none
 | _=>none
noncomputable def fnK (S:Sc)(r:Expr->Option IE)(rs:List Expr->Option IEs)(f:Str)(as:List Expr):Option IE:=match as with
 | e::es=>if f==("sorted" : Str) then sortK S r f (e::es) else if f==("isinstance" : Str) then isiK S r f (e::es) else
  revK S r f (e::es) <|
  callK S f (e::es).length (rs (e::es))
 | _=>none
noncomputable def callE (S:Sc)(r:Expr->Option IE)(rs:List Expr->Option IEs)(f:Expr)(as:List Expr)(p:Pos):Option IE:=match f with
 | .Name g _=>fnK S r rs g as
 | .Attribute o m p2=>attrK r rs o m p2 p as
 | _=>none
noncomputable def rngK (S:Sc)(r:Expr->Option IE)(f:Str)(as:List Expr):Option IT:=if rngOk S f as then (match as with
 | [a]=>do let x <- r a;some (.rng1 x)
 | [a,b]=>do let x <- r a;let y <- r b;some (.rng2 x y)
 | _=>none) else none
noncomputable def itE:Expr->Bool
 | .Name _ _=>true | .Subscript _ _ _=>true | .BinOp _ _ _ _=>true | .Call _ _ _ _=>true | .List _ _=>true | .ListComp _ _ _ _=>true | _=>false
noncomputable def andorC:BoolOp->IC->IC->IC
 | .And=>.and
 | .Or=>.or
noncomputable def condK (r:Expr->Option IC)(op:BoolOp)(es:List Expr):Option IC:=match es with
 | [a,b]=>do let k <- r a;let j <- r b;some (andorC op k j)
 | [a,b,c]=>do let k <- r a;let j <- r b;let l <- r c;some (andorC op k (andorC op j l))
 | _=>none
noncomputable def cmpR (S:Sc)(r:Expr->Option IE)(a:Expr)(ops:List CmpOp)(bs:List Expr):Option IE:=match ops,bs with
 | [op],[b]=>if isRng b then
  none
  else cmpK r a [op] [b]
 | ops,bs=>cmpK r a ops bs
noncomputable def gensK:List Comprehension->Option (Str×Pos×Expr×List Expr)
 | [⟨.Name x p,iter,ifs,0⟩]=>some (x,p,iter,ifs)
 | _=>none
mutual
noncomputable def cE (S:Sc):Nat->Expr->Option IE
 | 0,_=>none
 | n + 1,e=>match e with
  | .Name x _=>nameK S x
  | .Constant c _ _=>constK c
  | .BinOp a op b _=>if inDomOp op then do let x <- cE S n a;let y <- cE S n b;some (.bin op x y) else none
  | .Compare a ops bs _=>cmpR S (cE S n) a ops bs
  | .BoolOp op es p=>boolK (cE S n) op es p
  | .UnaryOp op a _=>unK (cE S n) op a
  | .IfExp c a b _=>do let k <- cC S n c;let x <- cE S n a;let y <- cE S n b;some (.ifE k x y)
  | .Tuple es _ _=>do let xs <- cEs S n es;some (.tup xs)
  | .List es _=>do let xs <- cEs S n es;some (.lst xs)
  | .Dict ks vs _=>dictK (cE S n) ks vs
  | .Subscript a b _=>subK (cE S n) (cO S n) a b
  | .Call f as ks p=>if ks.isEmpty then callE S (cE S n) (cEs S n) f as p else none
  | .ListComp elt gs sc _=>(match gensK gs with
   | some (x,_,iter,ifs)=>if compOk S sc [x] then do
     let it <- cT S n iter
     let c <- cCo (S.comp sc [x]) n ifs
     let e <- cE (S.comp sc [x]) n elt
     some (.comp ((slot S.N x).getD S.N.length) it c e) else none
   | none=>none)
  | _=>none
noncomputable def cEs (S:Sc):Nat->List Expr->Option IEs
 | 0,_=>none
 | _ + 1,[]=>some .nil
 | n + 1,e::es=>if plainE e then do let x <- cE S n e;let xs <- cEs S n es;some (.cons x xs) else none
noncomputable def cO (S:Sc):Nat->Option Expr->Option IEo
 | 0,_=>none
 | _ + 1,none=>some .none
 | n + 1,some e=>do let x <- cE S n e;some (.some x)
noncomputable def cT (S:Sc):Nat->Expr->Option IT
 | 0,_=>none
 | n + 1,e=>match rngE e with
  | some (f,_,as,_)=>if f==("range" : Str) then rngK S (cE S n) f as else (cE S n e).map .seq
  | none=>if itE e then (cE S n e).map .seq else none
noncomputable def cC (S:Sc):Nat->Expr->Option IC
 | 0,_=>none
 | n + 1,e=>match e with
  | .UnaryOp op a _=>if op==.Not then (cC S n a).map .not else none
  | .BoolOp op es _=>condK (cC S n) op es
  | .Compare a ops bs _=>(cmpR S (cE S n) a ops bs).map .cmp
  | .Name x p=>(cE S n (.Name x p)).map .tru
  | .Call f as ks p=>(cE S n (.Call f as ks p)).map .tru
  | .Subscript a b p=>(cE S n (.Subscript a b p)).map .tru
  | _=>none
noncomputable def cCo (S:Sc):Nat->List Expr->Option ICo
 | 0,_=>none
 | _ + 1,[]=>some .none
 | n + 1,[c]=>do let k <- cC S n c;some (.some k)
 | _,_=>none
end
noncomputable def compP:Expr->Option (Expr×List Comprehension×Scope)
 | .ListComp elt gs sc _=>some (elt,gs,sc)
 | _=>none
noncomputable def tkNames:List Str:=["states_of","numbers"]
noncomputable def emptyD:Expr->Bool
 | .Dict ks vs _=>ks.isEmpty&&vs.isEmpty
 | _=>false
noncomputable def asgN (S:Sc)(n:Nat)(x:Str)(v:Expr):Option IS:=match compP v with
 | some (elt,gs,sc)=>(match gensK gs with
  | some (y,_,iter,ifs)=>if S.loc x&&compOk S sc [y] then do
   let i <- slot S.N x
   let it <- cT S n iter
   let c <- cCo (S.comp sc [y]) n ifs
   let e <- cE (S.comp sc [y]) n elt
   some (.set i (.comp ((slot S.N y).getD S.N.length) it c e)) else none
  | none=>none)
 | none=>if tkNames.contains x&&emptyD v then (if S.loc x then do let i <- slot S.N x;some (.set i .dtt0) else none)
  else if S.loc x&&noComp v then do let i <- slot S.N x;let y <- cE S n v;some (.set i y) else none
noncomputable def asgT (S:Sc)(n:Nat)(t:Expr)(v:Expr):Option IS:=match t with
 | .Name x _=>asgN S n x v
 | .Subscript o i _=>if ixE i then do let y <- cE S n v;let a <- cE S n o;let b <- cE S n i;some (.setIx a b y) else none
 | _=>none
noncomputable def asgK (S:Sc)(n:Nat)(ts:List Expr)(v:Expr):Option IS:=match ts with
 | []=>none
 | t::r=>(match r with
  | []=>asgT S n t v
  | _::_=>none)
noncomputable def enumK (S:Sc)(r:Expr->Option IE)(f:Str)(as:List Expr):Option IP:=match as with
 | []=>none
 | a::l=>(match l with
  | []=>if okName f&&S.glo f&&S.bls.contains f&&plainE a then (r a).map .enum else none
  | _::_=>none)
noncomputable def cP (S:Sc)(n:Nat)(e:Expr):Option IP:=match rngE e with
 | some (f,_,as,_)=>if f==("enumerate" : Str) then enumK S (cE S n) f as else (cE S n e).map .seq
 | none=>if itE e then (cE S n e).map .seq else none
noncomputable def pair2 (S:Sc)(n:Nat)(a b iter:Expr)(r:Option ISs):Option IS:=match nmE a with
 | none=>none
 | some (x,_)=>(match nmE b with
  | none=>none
  | some (y,_)=>if S.loc x&&S.loc y then do let i <- slot S.N x;let j <- slot S.N y;let it <- cP S n iter;let z <- r;some (.forP i j it z) else none)
noncomputable def pairT (S:Sc)(n:Nat)(ts:List Expr)(iter:Expr)(r:Option ISs):Option IS:=match ts with
 | []=>none
 | a::l=>(match l with
  | []=>none
  | b::l2=>(match l2 with
   | []=>pair2 S n a b iter r
   | _::_=>none))
noncomputable def forT (S:Sc)(n:Nat)(t iter:Expr)(r:Option ISs):Option IS:=match t with
 | .Name x _=>if S.loc x then do let i <- slot S.N x;let it <- cT S n iter;let y <- r;some (.forS i it y) else none
 | .Tuple ts _ _=>pairT S n ts iter r
 | _=>none
noncomputable def noneK (o:List Stmt)(r:Option IS):Option IS:=match o with
 | []=>r
 | _::_=>none
mutual
noncomputable def cS (S:Sc):Nat->Stmt->Option IS
 | 0,_=>none
 | n + 1,s=>match s with
  | .Assign ts v _=>asgK S n ts v
  | .Expr e _=>if noComp e then do let y <- cE S n e;some (.expr y) else none
  | .Return o _=>(match o with
   | some e=>do let y <- cE S n e;some (.ret y)
   | none=>some .retN)
  | .Raise _ _ _=>some .halt
  | .Pass _=>some .pass
  | .Break _=>some .brk
  | .Continue _=>some .cnt
  | .If c a b _=>do let k <- cC S n c;let x <- cSs S n a;let y <- cSs S n b;some (.ifS k x y)
  | .For t iter b o _=>noneK o (forT S n t iter (cSs S n b))
  | .While c b o _=>noneK o (do let k <- cC S n c;let y <- cSs S n b;some (.whileS k y))
  | _=>none
noncomputable def cSs (S:Sc):Nat->List Stmt->Option ISs
 | 0,_=>none
 | _ + 1,[]=>some .nil
 | n + 1,s::r=>do let x <- cS S n s;let y <- cSs S n r;some (.cons x y)
end
end L3
namespace L2
open PySem PySem.Spec PyProof.Rows
theorem codeAny_compLoop_own {prog:Program}{w:World}{A:Around}{R:Result->Shared->Prop}{s:Shared}{elt target iter:Expr}{ifs:List Expr}{scope:Scope}{pos:Pos}{it acc:Value}{env:Env}(I:Nat->Shared->Prop)
  (turn:∀ n s,I n s->wpAny (model prog w) A (pyNext it) (fun r s₁=>match r with
   | none=>R (.ok .next) s₁
   | some v=>wpAny (model prog w) A (letOwnedTupleGo target it v) (fun _ s₁'=>wpAny (model prog w) A (assign target env v) (fun _ s₂ =>
     wpAny (model prog w) A (forIn ifs true fun c r=>if r=true then do let ok <- isTrue c env (eval c env);pure (ForInStep.yield ok) else pure (ForInStep.yield r)) (fun ok s₃ =>
      if ok=true then wpAny (model prog w) A (eval elt env) (fun x s₄ =>
       wpAny (model prog w) A (call (.builtin "list.append") [acc,x]) (fun _ s₅=>∃ m,m < n/\I m s₅) (fun _ _=>False) s₄) (fun _ _=>False) s₃
      else ∃ m,m < n/\I m s₃) (fun _ _=>False) s₂) (fun _ _=>False) s₁') (fun _ _=>False) s₁) (fun _ _=>False) s)
  (n:Nat) (h:I n s) :
  codeAny (model prog w) A (.compLoop (.ListComp elt [⟨target,iter,ifs,0⟩] scope pos) 0 it acc env) R s:=by
 refine codeAny_loop rfl I (fun n s hI=>?_) n h;show wpAny _ A ((compTurn (.ListComp elt [⟨target,iter,ifs,0⟩] scope pos) 0 it acc env).onRaise (fun x=>do noteFrame x env;theTreesLotGoes x)) _ _ s;refine wpAny_noted ?_;rw[compTurn_list];refine wpAny_bind (wpAny_standAt (wpAny_bind (wpAny_mono (turn n s hI) (fun r s₁ h₁=>?_) fun _ _ h'=>h'.elim)));cases r with
 | none=>exact wpAny_pure h₁
 | some v =>
  refine wpAny_bind (wpAny_mono h₁ (fun _ s₁' h₁'=>?_) fun _ _ h'=>h'.elim);refine wpAny_bind (wpAny_mono h₁' (fun _ s₂ h₂=>wpAny_bind (wpAny_mono h₂ (fun ok s₃ h₃=>?_) fun _ _ h'=>h'.elim)) fun _ _ h'=>h'.elim);cases ok with
  | false=>exact wpAny_pure ⟨rfl,h₃⟩
  | true =>
   exact wpAny_bind (wpAny_bind (wpAny_mono h₃ (fun x s₄ h₄=>wpAny_bind (wpAny_mono h₄ (fun _ s₅ h₅=>wpAny_pure (wpAny_pure ⟨rfl,h₅⟩)) fun _ _ h'=>h'.elim)) fun _ _ h'=>h'.elim))
theorem lookup_relabel {env:Env}{y:Str}:∀ {names:List (Str×NameKind)},
  (names.map fun (n,k)=>if (k==NameKind.free&&env.scope.kind==.function&&env.kindOf n==some .cell) then (n,NameKind.cell) else (n,k)).lookup y =
   (names.lookup y).map fun k=>if (k==NameKind.free&&env.scope.kind==.function&&env.kindOf y==some .cell) then NameKind.cell else k
 | []=>rfl
 | (n,k)::r=>by
  have ih:=@lookup_relabel env y r;rw[List.map_cons];by_cases hx:y=n
  ·subst hx
   dsimp only;split <;> simp_all [List.lookup_cons]
  ·have hb:(y==n)=false:=beq_eq_false_iff_ne.mpr hx
   dsimp only;split <;> simp only[List.lookup_cons,hb] <;> exact ih
noncomputable def cxComp (X:Cx)(scope:Scope)(cl:List (Str×Addr))(C:Addr)(N':List Str)(s:Shared)(H:Hp)(fp:List Addr):Cx where
 prog:=X.prog
 w:=X.w
 K:=X.K
 mg:=X.mg
 base:=X.base
 A:=X.A
 N:=N'
 s₀:=s
 H₀:=H
 env:=compEnvC scope cl C X.env
 outer:=X.stack
 stack:=X.stack
 ex:=fp
 fn:=fun _=>false
 calm:=X.calm
 pn:=[]
 xe:=fun _ _=>False
structure CompSc (X:Cx) (scope:Scope) (cl:List (Str×Addr)) (xs:List Str) (N':List Str):Prop where
 kind:scope.kind=.function
 nocell:∀ y∈scope.names,y.2≠.cell
 loc:∀ x∈xs,scope.names.lookup x=some .local
 names:∀ y∈scope.names,y.2=.local->scope.names.lookup y.1=some .local
 only:∀ y,scope.names.lookup y=some .local->y∈xs\/y=(".0" : Str)
 clos:closureFor scope X.env=pure cl
 cls:∀ y c,cl.lookup y=some c->X.env.cells.lookup y=some c
 has:∀ y,scope.names.lookup y=some .free->∃ c,cl.lookup y=some c
 out:∀ y,scope.names.lookup y=some .free->X.env.kindOf y=some .cell\/X.env.kindOf y=some .free
 nd:N'.Nodup
 n0:∀ (i:Nat) (y:Str),xs[i]?=some y->N'[i]?=some y
 ns:∀ (i:Nat) (y:Str),N'[i + xs.length]?=some y->y ∉ xs/\y≠(".0" : Str)/\(X.N[i]?=some y\/¬ Vis scope y)
 len:N'.length=X.N.length + xs.length
theorem kind_relabel {scope:Scope}{env:Env}{y:Str}:(relabel scope env).names.lookup y=(scope.names.lookup y).map fun k=>if (k==NameKind.free&&env.scope.kind==.function&&env.kindOf y==some .cell) then NameKind.cell else k:=lookup_relabel
theorem lookup_mem {y:Str}{k:NameKind}:∀ {names:List (Str×NameKind)},names.lookup y=some k->(y,k)∈names:=fun h=>PySem.mem_of_lookup h
section
variable {X:Cx}{scope:Scope}{cl:List (Str×Addr)}{xs:List Str}{N':List Str}{pins:List (Addr×Obj)}{σ:St}{H:Hp}{s:Shared}{fp:List Addr}
theorem CompSc.cellAt (S:CompSc X scope cl xs N'){C:Addr}{y:Str}(h:(compEnvC scope cl C X.env).kindOf y=some .cell\/(compEnvC scope cl C X.env).kindOf y=some .free):scope.names.lookup y=some .free:=by
 have e:(compEnvC scope cl C X.env).kindOf y=(scope.names.lookup y).map fun k=>if (k==NameKind.free&&X.env.scope.kind==.function&&X.env.kindOf y==some .cell) then NameKind.cell else k:=kind_relabel;rw[e]at h;cases q:scope.names.lookup y with
 | none=>rw[q]at h;simp at h
 | some k =>
  rw[q]at h;cases k with
  | free=>rfl
  | cell=>exact absurd rfl (S.nocell _ (lookup_mem q))
  | _=>simp at h
theorem comp_ok (I:Inv X pins σ H s)(S:CompSc X scope cl xs N')(hf:∀ b∈fp,FpOk X pins H b){C:Addr}(hC:s.heap.objs.size<=C)(hfs:∀ b∈fp,b < s.heap.objs.size) :
  (cxComp X scope cl C N' s H fp).Ok where
 mod:=I.ok.mod
 kind:=S.kind
 glob:=I.ok.glob
 blt:=I.ok.blt
 above:=hC
 inj:=fun y z c h1 h2=>I.ok.inj y z c (S.cls _ _ h1) (S.cls _ _ h2)
 has:=fun y h=>S.has y (S.cellAt h)
 cab:=fun y c h=>by cases h
 hd:=I.ok.hd
 frames:=I.ok.frames
 stk:=.inl rfl
 exf:=fun b hb=>⟨Nat.ne_of_lt (Nat.lt_of_lt_of_le (hfs b hb) hC),fun y c e=>(hf b hb).2.2.2.2.1 y c (S.cls _ _ e)⟩
 bs:=I.bs
 bsz:=Nat.le_trans I.ok.bsz I.sz
 noex:=fun b o e hb=>by
  rcases (hf b hb).2.2.2.1 with z | z
  ·exact I.ok.noex b o e z
  ·exact absurd (Nat.lt_of_lt_of_le (Heap.lt_size e) (Nat.le_trans I.ok.bsz z)) (Nat.lt_irrefl _)
 exfs:=fun b hb z=>by
  rcases List.mem_cons.mp (I.stkSub b z) with e | e
  ·exact(hf b hb).2.1 e
  ·exact(hf b hb).2.2.1 e
 funs:=I.stack
 frf:=I.stkFree
theorem comp_enter (I:Inv X pins σ H s)(S:CompSc X scope cl xs N')(hf:∀ b∈fp,FpOk X pins H b){C:Addr}{h₁:Heap}{tk:Nat}{m:Str->Option Value}(hC:s.heap.objs.size<=C)(hfs:∀ b∈fp,b < s.heap.objs.size)
  (old:∀ b o,s.heap.get? b=some o->h₁.get? b=some o) (hns:h₁.Ns C m):Inv (cxComp X scope cl C N' s H fp) (X.pn++pins) (List.replicate xs.length none++σ) H { s with heap:=h₁,toks:=tk }:=by
 refine⟨comp_ok I S hf hC hfs,rfl,I.bare,Un.kept old,⟨m,hns,fun i y v e1 e2 e3=>?_⟩,fun y c e=>?_,I.hok.fresh hC,fun y c e=>I.freeC y c (S.cls _ _ e),fun p hp=>?_,I.hok.kept old,?_⟩
 ·by_cases hi:i < xs.length
  ·rw[List.getElem?_append_left (by rw[List.length_replicate];exact hi),List.getElem?_replicate,if_pos hi]at e2
   cases e2
  ·obtain⟨j,rfl⟩:∃ j,i=j + xs.length:=⟨i - xs.length,by omega⟩
   obtain⟨n1,n2,n3⟩:=S.ns j y e1;have e2':σ[j]?=some (some v):=by
    rw[List.getElem?_append_right (by rw[List.length_replicate];omega),List.length_replicate,Nat.add_sub_cancel]at e2;exact e2
   have e:(relabel scope X.env).names.lookup y=(scope.names.lookup y).map fun k=>if (k==NameKind.free&&X.env.scope.kind==.function&&X.env.kindOf y==some .cell) then NameKind.cell else k:=kind_relabel;have e3':(relabel scope X.env).names.lookup y=some .local\/(relabel scope X.env).names.lookup y=some .cell\/(relabel scope X.env).names.lookup y=some .free:=e3;have q:scope.names.lookup y=some .free:=by
    cases q:scope.names.lookup y with
    | none=>rw[e,q]at e3';simp at e3'
    | some k =>
     rw[e,q]at e3';cases k with
     | free=>rfl
     | cell=>exact absurd rfl (S.nocell _ (lookup_mem q))
     | «local» =>
      rcases S.only y q with z | z
      ·exact absurd z n1
      ·exact absurd z n2
     | _=>simp at e3'
   have hN:X.N[j]?=some y:=by
    rcases n3 with z | z
    ·exact z
    ·exact absurd (Or.inr (Or.inr q)) z
   obtain⟨m',hn',hl'⟩:=I.loc;have vx:Vis X.env.scope y:=by
    rcases S.out y q with z | z
    ·exact .inr (.inl z)
    ·exact .inr (.inr z)
   obtain⟨u,ru,lk⟩:=hl' j y v hN e2' vx;refine⟨u,ru,?_⟩;rcases lk with ⟨k1,_⟩|⟨_,c,hc,o,ho,hd⟩
   ·rcases S.out y q with z | z
    ·rw[z]at k1;cases k1
    ·rw[z]at k1;cases k1
   ·obtain⟨c',hc'⟩:=S.has y q
    have:=S.cls y c' hc'
    rw[hc]at this;cases this;refine .inr ⟨?_,c,hc',o,old _ _ ho,hd⟩;rw[e,q]at e3';show (relabel scope X.env).names.lookup y=some .cell\/(relabel scope X.env).names.lookup y=some .free;rw[e,q];rcases e3' with z | z
    ·simp only[Option.map_some,Option.some.injEq]at z
     split at z <;> cases z
    ·exact z
 ·obtain⟨v,o,ho,hd⟩:=I.cell y c (S.cls _ _ e)
  exact⟨v,o,old _ _ ho,hd⟩
 ·have hp':p∈X.pn++pins:=hp
  obtain⟨e,n,ne,nf,d⟩:=I.pin p hp';refine⟨old _ _ e,n,Nat.ne_of_lt (Nat.lt_of_lt_of_le (Heap.lt_size e) hC),fun z=>?_,d⟩;rcases List.mem_cons.mp (I.stkSub _ z) with q | q
  ·exact ne q
  ·exact nf q
 ·show (List.replicate xs.length none++σ).length=N'.length
  rw[S.len,List.length_append,List.length_replicate,I.len,Nat.add_comm]
end
theorem Un.adopt {fs ex:List Addr}{H H':Hp}{h h':Heap}{D:Addr}{o:HO}(u:Un fs ex H H' h h')(hD:h.get? D=none)(hn:H' D=none):Un fs ex H (upd H' D o) h h' where
 keep:=u.keep
 slot:=u.slot
 free:=fun b ob q n hx=>by
  have:b≠D:=fun z=>by rw[z,hD]at q;cases q
  rw[upd_ne this];exact u.free b ob q n hx
 there:=u.there
 tups:=fun b xs q=>by
  have q':=u.tups b xs q;rw[upd_ne (ne_of_none q' hn)];exact q'
 frzs:=fun b ob v q=>by
  have q':=u.frzs b ob v q;rw[upd_ne (ne_of_none q' hn)];exact q'
 tbls:=fun b ps q=>by
  obtain⟨more,q'⟩:=u.tbls b ps q;exact⟨more,by rw[upd_ne (ne_of_none q' hn)];exact q'⟩
theorem HOk.adopt {P:Program}{w:World}{H:Hp}{h:Heap}{D:Addr}{o:HO}(x:HOk P w H h)(hn:H D=none)(new:ObjOk P w (upd H D o) h D o):HOk P w (upd H D o) h:=fun b u e=>by
 by_cases hb:b=D
 ·subst hb;rw[upd_same]at e;cases e;exact new
 ·rw[upd_ne hb]at e
  exact(x b u e).stay (fun _ _ _ q=>q) (fun c q=>by rw[upd_ne (ne_of_none q hn)];exact q) fun c xs q=>by rw[upd_ne (ne_of_none q hn)];exact q
noncomputable def PTs (X:Cx)(ifs:List Expr)(tc:TT):Prop :=
 ∀ (pins:List (Addr×Obj)) (s:Shared) (σ:St) (H:Hp) (Q:Bool->Hp->Prop),Inv X pins σ H s->tc σ H Q ->
  wpAny (model X.prog X.w) X.A (forIn ifs true fun c r=>if r=true then do let ok <- isTrue c X.env (eval c X.env);pure (ForInStep.yield ok) else pure (ForInStep.yield r)) (TP X pins σ Q) X.xe s
noncomputable def tYes:TT:=fun _ H Q=>Q true H
theorem pts_nil {X:Cx}:PTs X [] tYes:=fun _ _ _ H _ I h=>wpAny_tests_nil ⟨H,I,h⟩
theorem pts_one {X:Cx}{c:Expr}{tc:TT}(hc:PT X c tc):PTs X [c] tc:=fun pins s σ H Q I h=>wpAny_tests_one (hc pins s σ H Q I h)
noncomputable abbrev lobj (its:List Value) (n:Nat):Obj:={ cls:=.type "list",data:=.seq its.toArray n }
noncomputable def CompW (J:It)(g:TG)(kk:Nat)(tc:TT)(te:TE)(σ:St)(Fin:List V->Hp->Prop)(W:Nat->Nat->List V->Hp->Prop):Prop:=∀ i m ys H,W i m ys H ->
 (J.stop i H/\ys.length<=sizeLine/\Fin ys H) \/
 (J.go i H/\ys.length < sizeLine/\∀ v H' (os:St),os.length=kk->J.yld i H v H'->g v (os++σ) H' fun σ1 H1=>∃ os1:St,os1.length=kk/\σ1=os1++σ/\tc σ1 H1 fun b H2=>if b=true then te σ1 H2 fun y H3=>∃ m',m' < m/\W (i + 1) m' (ys++[y]) H3 else ∃ m',m' < m/\W (i + 1) m' ys H2)
section
variable {X:Cx}{scope:Scope}{cl:List (Str×Addr)}{xs:List Str}{tg:Expr}{g:TG}{N':List Str}{pins:List (Addr×Obj)}{σ:St}{H:Hp}{s:Shared}{fp:List Addr}{it:Addr}{J:It}{tn:Nat->Heap->Prop}
 {elt iter:Expr} {ifs:List Expr} {pos:Pos} {tc:TT} {te:TE}
theorem comp_block (hc:X.calm=true)(S:CompSc X scope cl xs N')(hg:∀ C s H fp,PG (cxComp X scope cl C N' s H fp) tg g)(htc:∀ C s H fp,PTs (cxComp X scope cl C N' s H fp) ifs tc)(hte:∀ C s H fp,PE (cxComp X scope cl C N' s H fp) elt te)
  (I:Inv X pins σ H s) (T:Turn X.prog X.w X.K tg J fp it tn) (st:tn 0 s.heap) (hf:∀ b∈fp,FpOk X pins H b)
  {Fin:List V->Hp->Prop} {W:Nat->Nat->List V->Hp->Prop} (hW:CompW J g xs.length tc te σ Fin W) {m0:Nat} (w0:W 0 m0 [] H) {E:Value->Shared->Prop} {RR:Value->Addr->Result->Shared->Prop}
  (fin:∀ (D C:Addr) (s':Shared) (ys:List V) (H':Hp),Inv X pins σ (upd H' D (.lst ys)) s'->H' D=none->upd H' D (.lst ys) C=none->C≠X.env.locals->X.s₀.heap.objs.size<=C->(∀ y c,X.env.cells.lookup y=some c->c≠C)->(∀ p∈X.pn++pins,p.1≠C) ->
   (∃ m,s'.heap.Ns C m)->Fin ys H'->RR (.ref D) C (.ok .next) s') :
  wpAny (model X.prog X.w) X.A (newList []) (fun acc s₃=>wpAny (model X.prog X.w) X.A (newFunctionEnv scope X.env.globals cl [] X.env.qual none .none (some X.env)) (fun cenv s₄ =>
   codeAny (model X.prog X.w) X.A (.compStart (.ListComp elt [⟨tg,iter,ifs,0⟩] scope pos) 0 (.ref it) acc { cenv with scope:=relabel scope X.env }) (RR acc cenv.locals) s₄) E s₃) E s:=by
 have hfs:∀ b∈fp,b < s.heap.objs.size:=fun b hb=>by
  obtain⟨o,e,_⟩:=T.obj _ _ st b hb;exact Heap.lt_size e
 refine wpAny_newObj_type (wpAny_newFunctionEnv S.nocell (by intro y hy;simp at hy) (fun h₁ hns₁ hsb₁=>?_) S.kind);dsimp only at hns₁ hsb₁ ⊢;generalize hH2:s.heap.push { cls:=.type "list",dict:=none,data:=.seq ([]:List Value).toArray }=H2 at hns₁ hsb₁ ⊢;generalize hDe:s.heap.objs.size=D at *;generalize hCe:H2.objs.size=C at *;have hC:C=D + 1:=by rw[<- hCe,<- hH2,Heap.size_push,hDe]
 have hDC:D≠C:=by rw[hC];exact Nat.ne_of_lt (Nat.lt_succ_self _)
 have hDle:D<=C:=by rw[hC];exact Nat.le_succ _
 have old:∀ b o,s.heap.get? b=some o->h₁.get? b=some o:=fun b o e=>by
  have hb:b < D:=hDe ▸ Heap.lt_size e;exact hsb₁.extBut b o (Nat.ne_of_lt (Nat.lt_of_lt_of_le hb hDle)) (Heap.get?_push_of_some _ (hH2 ▸ Heap.get?_push_of_some _ e))
 have hacc:h₁.get? D=some (lobj [] 0):=hsb₁.extBut _ _ hDC (Heap.get?_push_of_some _ (hH2 ▸ hDe ▸ Heap.get?_push_size _ rfl));have hsD:s.heap.get? D=none:=Heap.get?_none_of_le (Nat.le_of_eq hDe);have ptD:∀ p∈X.pn++pins,p.1 < D:=fun p hp=>hDe ▸ Heap.lt_size (I.pin p hp).1;have clD:∀ y c,X.env.cells.lookup y=some c->c < D:=fun y c e=>by
  obtain⟨v,o,ho,_⟩:=I.cell y c e;exact hDe ▸ Heap.lt_size ho
 have fsD:∀ b∈frs X.stack,b < D:=fun b hb=>by
  obtain⟨_,o,ho,_⟩:=I.stack.mem hb;exact hDe ▸ Heap.lt_size ho
 have loop:∀ s₃:Shared,s₃ = { s with heap:=h₁,toks:=s.toks + ([]:List (Str×Value)).length } ->
   codeAny (model X.prog X.w) X.A (.compLoop (.ListComp elt [⟨tg,iter,ifs,0⟩] scope pos) 0 (.ref it) (.ref D) (compEnvC scope cl C X.env)) (RR (.ref D) C) s₃:=by
  rintro s₃ rfl;have I₁:Inv (cxComp X scope cl C N' s H fp) (X.pn++pins) (List.replicate xs.length none++σ) H { s with heap:=h₁,toks:=s.toks + ([]:List (Str×Value)).length } :=
   comp_enter I S hf (by rw[hDe];exact hDle) (fun b hb=>by rw[hDe];exact hfs b hb) old hns₁
  have pinD:∀ {its:List Value} {n:Nat} {σ':St} {H':Hp} {s':Shared},Inv (cxComp X scope cl C N' s H fp) (X.pn++pins) σ' H' s'->s'.heap.get? D=some (lobj its n)->H' D=none ->
    Inv (cxComp X scope cl C N' s H fp) ((X.pn++pins)++[(D,lobj its n)]) σ' H' s':=fun {its n σ' H' s'} J' e n=>J'.pins_of fun p hp=>by
   rcases List.mem_append.mp hp with hp | hp
   ·exact J'.pin p (List.mem_append_right _ hp)
   ·rw[List.mem_singleton.mp hp]
    exact⟨e,n,hDC,fun z=>Nat.lt_irrefl _ (fsD D z),fun v z=>by cases z⟩
  refine codeAny_compLoop_own (fun k s'=>∃ (i:Nat) (ys:List V) (its:List Value) (n:Nat) (os:St) (H':Hp),os.length=xs.length/\Inv (cxComp X scope cl C N' s H fp) ((X.pn++pins)++[(D,lobj its n)]) (os++σ) H' s'/\Vals ys its/\tn i s'.heap/\(∀ b∈fp,H' b=none)/\W i k ys H') ?_ m0
   ⟨0,[],[],0,List.replicate xs.length none,H,List.length_replicate ..,pinD I₁ hacc (I.hok.fresh (Nat.le_of_eq hDe)),.nil,T.keep _ _ _ st fun b _ o e=>old b o e,fun b hb=>(hf b hb).1,w0⟩
  rintro k s4 ⟨i,ys,its,n,os,H4,ho4,I4,rv,st4,fr4,w4⟩;have pD:∀ {its:List Value} {n:Nat} {pl:List (Addr×Obj)} {σ':St} {H':Hp} {s':Shared},Inv (cxComp X scope cl C N' s H fp) (((X.pn++pins)++[(D,lobj its n)])++pl) σ' H' s'->s'.heap.get? D=some (lobj its n)/\H' D=none:=fun J' =>
   let q:=J'.pin (D,lobj _ _) (List.mem_append_right _ (List.mem_append_left _ (List.mem_append_right _ List.mem_cons_self)))
   ⟨q.1,q.2.1⟩
  have stat:∀ {its:List Value} {n:Nat} {H':Hp},(∀ b∈fp,H' b=none)->∀ b∈fp,FpOk (cxComp X scope cl C N' s H fp) ((X.pn++pins)++[(D,lobj its n)]) H' b:=fun {its n H'} hn b hb=>by
   obtain⟨f0,f1,f2,f3,f4,f5⟩:=hf b hb;refine⟨hn b hb,Nat.ne_of_lt (Nat.lt_of_lt_of_le (hfs b hb) hDle),fun z=>?_,.inl hb,fun y c e=>f4 y c (S.cls _ _ e),fun p hp=>?_⟩
   ·rcases List.mem_cons.mp (I.stkSub b z) with q | q
    ·exact f1 q
    ·exact f2 q
   ·have hp:p∈(X.pn++pins)++[(D,lobj its n)]:=hp
    rcases List.mem_append.mp hp with hp | hp
    ·exact f5 p hp
    ·rw[List.mem_singleton.mp hp]
     exact Ne.symm (Nat.ne_of_lt (hfs b hb))
  rcases hW i k ys H4 w4 with ⟨stop,hz,q⟩|⟨go,hz,step⟩
  ·refine thn (T.done (cxComp X scope cl C N' s H fp) rfl rfl rfl hc i _ s4 _ H4 _ I4 (stat fr4) st4 stop) fun r s5 ⟨hr,I5⟩=>?_
   subst hr;obtain⟨gD,nD⟩:=pD (pl:=[]) (by rw[List.append_nil];exact I5);have un:Un (frs X.stack) fp H (upd H4 D (.lst ys)) s.heap s5.heap:=Un.adopt I5.base hsD nD;have hok:HOk X.prog X.w (upd H4 D (.lst ys)) s5.heap:=HOk.adopt I5.hok nD ⟨hz,its,n,rv,gD⟩;have I6:Inv X pins σ (upd H4 D (.lst ys)) s5:=I.call' (ch:=fp) I5.os un hok I5.bare fun b hb=>by
    obtain⟨f0,f1,f2,f3,f4,f5⟩:=hf b hb;exact⟨f3,f1,f4,f5⟩
   have cn:H4 C=none:=I5.free;have lo:X.s₀.heap.objs.size<=C:=Nat.le_trans I.sz (by rw[hDe];exact hDle);exact fin D C s5 ys H4 I6 nD (by rw[upd_ne (Ne.symm hDC)];exact cn) (Nat.ne_of_gt (Nat.lt_of_lt_of_le (hDe ▸ I.lt) hDle)) lo (fun y c e=>Nat.ne_of_lt (Nat.lt_of_lt_of_le (clD y c e) hDle)) (fun p hp=>Nat.ne_of_lt (Nat.lt_of_lt_of_le (ptD p hp) hDle))
    (let ⟨m,hm,_⟩:=I5.loc;⟨m,hm⟩) q
  ·refine thn (T.item (cxComp X scope cl C N' s H fp) rfl rfl rfl hc i _ s4 _ H4 _ I4 (stat fr4) st4 go) fun r s5 ⟨u,hr,h5⟩=>?_
   subst hr;refine thn h5 fun _ s6 ⟨v,H6,I6,r6,y6,st6,fr6⟩=>?_;have I6':=I6.pinned (stat fr6) (T.obj _ _ st6);refine thn (hg C s H fp _ s6 _ H6 v u _ I6' r6 (step v H6 os ho4 y6)) fun _ s7 ⟨σ7,H7,I7,os7,ho7,e7,q7⟩=>?_;subst e7;have fpK:∀ {σ':St} {H':Hp} {s':Shared},Inv (cxComp X scope cl C N' s H fp) (((X.pn++pins)++[(D,lobj its n)])++pinsAt fp s6.heap) σ' H' s'->tn (i + 1) s'.heap/\∀ b∈fp,H' b=none:=fun {σ' H' s'} J' =>
    ⟨T.keep _ _ _ st6 fun b hb ob e=>(J'.pin (b,ob) (List.mem_append_right _ (List.mem_append_right _ (mem_pinsAt hb e)))).1,fun b hb=>by
     obtain⟨ob,e,d⟩:=T.obj _ _ st6 b hb;exact(J'.pin (b,ob) (List.mem_append_right _ (List.mem_append_right _ (mem_pinsAt hb e)))).2.1⟩
   refine thn (htc C s H fp _ s7 _ H7 _ I7 q7) fun b s8 ⟨H8,I8,q8⟩=>?_;cases b with
   | false =>
    rw[if_neg Bool.false_ne_true]at q8 ⊢;obtain⟨m',hm,w8⟩:=q8;obtain⟨t8,f8⟩:=fpK I8;exact⟨m',hm,i + 1,ys,its,n,os7,H8,ho7,I8.unpinned,rv,t8,f8,w8⟩
   | true =>
    rw[if_pos rfl]at q8 ⊢;refine thn (hte C s H fp _ s8 _ H8 _ I8 q8) fun u9 s9 ⟨y,H9,I9,r9,m',hm,w9⟩=>?_;obtain⟨gD,nD⟩:=pD I9;obtain⟨t9,f9⟩:=fpK I9;refine append_at (its:=its.toArray) (n:=n) gD (fun h' sb hD'=>?_) (by have:=rv.length;simp;omega);have I10:Inv (cxComp X scope cl C N' s H fp) (X.pn++pins) (os7++σ) H9 s9:=I9.unpinned.unpinned;have I11:Inv (cxComp X scope cl C N' s H fp) (X.pn++pins) (os7++σ) H9 { s9 with heap:=h' }:=I10.turned (t':=s9.toks) (it:=D) (fun b ob hb e=>sb.extBut b ob hb e) nD hDC (.inr (Nat.le_of_eq hDe))
     (fun z c e=>Nat.ne_of_lt (clD z c (S.cls _ _ e))) fun p hp=>Nat.ne_of_lt (ptD p hp)
    refine⟨m',hm,i + 1,ys++[y],its++[u9],n + 1,os7,H9,ho7,pinD I11 (by rw[hD'];simp) nD,rv.append (.cons r9 .nil),T.keep _ _ _ t9 fun b hb ob e=>sb.extBut b ob (Nat.ne_of_lt (hfs b hb)) e,f9,w9⟩
 exact codeAny_compStart_list (loop _ rfl) (T.self X.A 0 _ _ _ (T.keep _ _ _ st fun b _ o e=>old b o e) (loop _ rfl))
end
noncomputable def tComp (wi:TI)(g:TG)(kk:Nat)(tc:TT)(te:TE):TE:=fun σ H Q=>wi σ H fun J H1=>∃ W:Nat->Nat->List V->Hp->Prop,(∃ m,W 0 m [] H1) /\
 CompW J g kk tc te σ (fun ys H'=>∀ p,H' p=none->Q (.ref p) (upd H' p (.lst ys))) W
section
variable {X:Cx}{scope:Scope}{cl:List (Str×Addr)}{xs:List Str}{tg:Expr}{g:TG}{N':List Str}{elt iter:Expr}{ifs:List Expr}{pos:Pos}{tc:TT}{te:TE}{wi:TI}
theorem ns_gone {pins:List (Addr×Obj)}{σ:St}{H:Hp}{s:Shared}{C:Addr}{h':Heap}(I:Inv X pins σ H s)(sb:Heap.SameBut C s.heap h')(h0:H C=none)(h1:C≠X.env.locals)(h2:X.s₀.heap.objs.size<=C)(h3:∀ y c,X.env.cells.lookup y=some c->c≠C)(h4:∀ p∈X.pn++pins,p.1≠C) :
  Inv X pins σ H { s with heap:=h' }:=I.turned (t':=s.toks) (it:=C) (fun b ob hb e=>sb.extBut b ob hb e) h0 h1 (.inr h2) h3 h4
theorem pe_comp (hc:X.calm=true)(S:CompSc X scope cl xs N')(hg:∀ C s H fp,PG (cxComp X scope cl C N' s H fp) tg g)(hi:PI X tg iter wi)(htc:∀ C s H fp,PTs (cxComp X scope cl C N' s H fp) ifs tc)(hte:∀ C s H fp,PE (cxComp X scope cl C N' s H fp) elt te)
  (hs:∀ x,foldedSetIterable iter X.env x=pure x):PE X (.ListComp elt [⟨tg,iter,ifs,0⟩] scope pos) (tComp wi g xs.length tc te):=by
 intro pins s σ H Q I h;rw[eval_ListComp];refine wpAny_comprehension_free (use:=none) rfl hs S.clos S.kind S.names (thn (hi pins s σ H _ I h) fun v s1 h1=>thn h1 fun itv s2 h2=>?_);obtain⟨it,fp,tn,J,H2,e,I2,T,st2,f2,W,⟨m0,w0⟩,hW⟩:=h2;subst e;refine comp_block (RR:=fun acc C=>compPost (model X.prog X.w) X.A X.xe none (EP X pins σ Q) acc C) hc S hg htc hte I2 T st2 f2 hW w0 ?_;intro D C s' ys H' I' nD cn c1 c2 c3 c4 ns q;obtain⟨m,hm⟩:=ns;exact⟨m,hm,fun h' sb=>⟨.ref D,_,ns_gone I' sb cn c1 c2 c3 c4,rfl,q D nD⟩⟩
theorem ps_comp {x:Str}{px:Pos}{i:Nat}{y:Str}{py spos:Pos}(hc:X.calm=true)(S:CompSc X scope cl xs N')(hg:∀ C s H fp,PG (cxComp X scope cl C N' s H fp) (.Name x px) g)(hi:PI X (.Name x px) iter wi)(htc:∀ C s H fp,PTs (cxComp X scope cl C N' s H fp) ifs tc)(hte:∀ C s H fp,PE (cxComp X scope cl C N' s H fp) elt te)
  (hs:∀ x,foldedSetIterable iter X.env x=pure x) (hN:X.N.Nodup) (hy:X.N[i]?=some y) (hx:Loc X.env.scope y) (hf:X.fn y=true\/X.env.scope.names.lookup y=some .local) :
  PS X (.Assign [.Name y py] (.ListComp elt [⟨.Name x px,iter,ifs,0⟩] scope pos) spos) (tAsg (tComp wi g xs.length tc te) (gName i)):=by
 have hsw:∃ b:Bool,swapsWith (.ListComp elt [⟨.Name x px,iter,ifs,0⟩] scope pos) (some (.Name y py)) spos.line X.env=pure b:=⟨_,rfl⟩;obtain⟨b,hsw⟩:=hsw;cases b with
 | false=>exact ps_set hN hy hx (pe_comp hc S hg hi htc hte hs) hsw hf
 | true =>
  intro pins s σ H D I h;rw[exec_Assign_Name_used _ _ _ _ hsw];refine wpAny_bind (wpAny_standAt (wpAny_bind ?_));show wpAny _ X.A (do let _ <- comprehension (.ListComp elt [⟨.Name x px,iter,ifs,0⟩] scope pos) scope X.env _ (newList []) false (eval iter X.env) (some (assign (.Name y py) X.env))) _ _ s;refine wpAny_bind (thn (wpAny_comprehension_free (use:=some (assign (.Name y py) X.env)) (Q:=fun _ s'=>SP X pins D .next s') rfl hs S.clos S.kind S.names
   (thn (hi pins s σ H _ I h) fun v s1 h1=>thn h1 fun itv s2 h2=>?_)) fun _ s' hq=>wpAny_pure (wpAny_pure hq))
  obtain⟨it,fp,tn,J,H2,e,I2,T,st2,f2,W,⟨m0,w0⟩,hW⟩:=h2;subst e;refine comp_block (RR:=fun acc C=>compPost (model X.prog X.w) X.A X.xe (some (assign (.Name y py) X.env)) (fun _ s'=>SP X pins D .next s') acc C) hc S hg htc hte I2 T st2 f2 hW w0 ?_;intro Dl C s' ys H' I' nD cn c1 c2 c3 c4 ns q;obtain⟨m,hm⟩:=ns;show wpAny _ X.A (assign (.Name y py) X.env (.ref Dl)) _ _ _;refine wpAny_assign_Name (store_ok2 I' hN hy hx (v:=.ref Dl) rfl (fun s2 I2' ⟨a,sb,ha⟩=>?_) hf);have hCa:C≠a:=by
   rcases ha with z | z
   ·rw[z];exact c1
   ·exact fun e=>c3 _ _ z e.symm
  refine⟨m,hm.sameBut sb hCa,fun h' sb'=>?_⟩;exact⟨_,_,ns_gone I2' sb' cn c1 c2 c3 c4,q Dl nD⟩
end
end L2
namespace L3
open PySem PySem.Spec PyProof.Rows L2
noncomputable abbrev St:=L2.St
noncomputable def FzL (K:PySem.W.Frag)(H:Hp)(a:Addr)(xs:List V):Prop :=
 (∃ o,H a=some (.frz o (.lst xs))) \/
  ∃ (o:Obj) (its:Array Value) (n:Nat),K.lookup a=some o/\o.cls=.type "list"/\o.dict=none/\o.data=.seq its n/\its.size<=sizeLine/\Vals xs its.toList
theorem FzL.seq {K:PySem.W.Frag}{H:Hp}{a:Addr}{xs:List V}(h:FzL K H a xs):SqL K H a xs:=by
 rcases h with ⟨o,h⟩ | h
 ·exact .inl (.inr ⟨o,h⟩)
 ·exact .inr h
mutual
inductive Rep (K:PySem.W.Frag) (ι:List Addr) (H:Hp):D->V->Prop where
 | non:Rep K ι H .non .non
 | bl (b:Bool):Rep K ι H (.bl b) (.bl b)
 | int (i:Int):Rep K ι H (.int i) (.int i)
 | str (x:Str):Rep K ι H (.str x) (.str x)
 | tup {a:Addr} {vs:List V} {ds:List D}:H a=some (.tup vs)->Reps K ι H ds vs->Rep K ι H (.tup ds) (.ref a)
 | fl {a:Addr} {vs:List V} {ds:List D}:FzL K H a vs->Reps K ι H ds vs->Rep K ι H (.fl ds) (.ref a)
 | ob {i:Nat} {a:Addr}:ι[i]?=some a->Rep K ι H (.ob i) (.ref a)
inductive Reps (K:PySem.W.Frag) (ι:List Addr) (H:Hp):List D->List V->Prop where
 | nil:Reps K ι H [] []
 | cons {d:D} {v:V} {ds:List D} {vs:List V}:Rep K ι H d v->Reps K ι H ds vs->Reps K ι H (d::ds) (v::vs)
end
structure Ext (K:PySem.W.Frag) (ι:List Addr) (H:Hp) (ι':List Addr) (H':Hp):Prop where
 pre:∀ (i:Nat) (a:Addr),ι[i]?=some a->ι'[i]?=some a
 tup:∀ a xs,H a=some (.tup xs)->H' a=some (.tup xs)
 fz:∀ a xs,FzL K H a xs->FzL K H' a xs
section
variable {K:PySem.W.Frag}{ι ι' ι'':List Addr}{H H' H'':Hp}
theorem Ext.refl:Ext K ι H ι H where
 pre:=fun _ _ e=>e
 tup:=fun _ _ e=>e
 fz:=fun _ _ e=>e
theorem Ext.trans (a:Ext K ι H ι' H')(b:Ext K ι' H' ι'' H''):Ext K ι H ι'' H'' where
 pre:=fun i c e=>b.pre i c (a.pre i c e)
 tup:=fun c xs e=>b.tup c xs (a.tup c xs e)
 fz:=fun c xs e=>b.fz c xs (a.fz c xs e)
mutual
theorem Rep.mono (x:Ext K ι H ι' H'):∀ {d:D} {v:V},Rep K ι H d v->Rep K ι' H' d v
 | _,_,.non=>.non
 | _,_,.bl b=>.bl b
 | _,_,.int i=>.int i
 | _,_,.str y=>.str y
 | _,_,.tup a r=>.tup (x.tup _ _ a) (Reps.mono x r)
 | _,_,.fl a r=>.fl (x.fz _ _ a) (Reps.mono x r)
 | _,_,.ob e=>.ob (x.pre _ _ e)
theorem Reps.mono (x:Ext K ι H ι' H'):∀ {ds:List D} {vs:List V},Reps K ι H ds vs->Reps K ι' H' ds vs
 | _,_,.nil=>.nil
 | _,_,.cons r t=>.cons (Rep.mono x r) (Reps.mono x t)
end
theorem Reps.length:∀ {ds:List D} {vs:List V},Reps K ι H ds vs->ds.length=vs.length
 | _,_,.nil=>rfl
 | _,_,.cons _ t=>by rw[List.length_cons,List.length_cons,Reps.length t]
theorem Reps.get:∀ {ds:List D} {vs:List V} {i:Nat} {d:D},Reps K ι H ds vs->ds[i]?=some d->∃ v,vs[i]?=some v/\Rep K ι H d v
 | _,_,_,_,.nil,e=>by simp at e
 | _,_,0,_,.cons r _,e=>by simp at e;subst e;exact⟨_,rfl,r⟩
 | _,_,i + 1,d,.cons _ t,e=>by
  obtain⟨v,h1,h2⟩:=Reps.get (i:=i) (d:=d) t (by simpa using e);exact⟨v,by simpa using h1,h2⟩
theorem Reps.append:∀ {ds es:List D} {vs us:List V},Reps K ι H ds vs->Reps K ι H es us->Reps K ι H (ds++es) (vs++us)
 | _,_,_,_,.nil,s=>s
 | _,_,_,_,.cons r t,s=>.cons r (Reps.append t s)
theorem Reps.take:∀ {ds:List D} {vs:List V} (n:Nat),Reps K ι H ds vs->Reps K ι H (ds.take n) (vs.take n)
 | _,_,0,_=>.nil
 | _,_,_ + 1,.nil=>.nil
 | _,_,n + 1,.cons r t=>.cons r (Reps.take n t)
theorem Reps.drop:∀ {ds:List D} {vs:List V} (n:Nat),Reps K ι H ds vs->Reps K ι H (ds.drop n) (vs.drop n)
 | _,_,0,r=>r
 | _,_,_ + 1,.nil=>.nil
 | _,_,n + 1,.cons _ t=>Reps.drop n t
theorem Reps.set {d:D}{v:V}(r:Rep K ι H d v):∀ {ds:List D} {vs:List V} (i:Nat),Reps K ι H ds vs->Reps K ι H (ds.set i d) (vs.set i v)
 | _,_,_,.nil=>.nil
 | _,_,0,.cons _ t=>.cons r t
 | _,_,i + 1,.cons q t=>.cons q (Reps.set r i t)
noncomputable def KR (K:PySem.W.Frag)(ι:List Addr)(H:Hp):List (Ky×D)->List (Key×V)->Prop:=Paired fun p q=>p.1=q.1/\Rep K ι H p.2 q.2
noncomputable def TR (K:PySem.W.Frag)(ι:List Addr)(H:Hp):List (List (List Ky)×D)->List (List (List Key)×V)->Prop:=Paired fun p q=>p.1=q.1/\Rep K ι H p.2 q.2
noncomputable def ORep (K:PySem.W.Frag)(ι:List Addr)(H:Hp):MO->Option HO->Prop
 | .lst ds,x=>∃ vs,x=some (.lst vs)/\Reps K ι H ds vs
 | .dic kvs,x=>∃ ws,x=some (.dK ws)/\KR K ι H kvs ws
 | .dtt kvs,x=>∃ ws,x=some (.dTT ws)/\TR K ι H kvs ws
theorem KR.mono (x:Ext K ι H ι' H'){a:List (Ky×D)}{b:List (Key×V)}(r:KR K ι H a b):KR K ι' H' a b:=Paired.mapP r fun _ _ z=>⟨z.1,z.2.mono x⟩
theorem TR.mono (x:Ext K ι H ι' H'){a:List (List (List Ky)×D)}{b:List (List (List Key)×V)}(r:TR K ι H a b):TR K ι' H' a b:=Paired.mapP r fun _ _ z=>⟨z.1,z.2.mono x⟩
theorem ORep.mono (x:Ext K ι H ι' H'){o:MO}{h:Option HO}(r:ORep K ι H o h):ORep K ι' H' o h:=by
 cases o with
 | lst ds=>obtain⟨vs,e,q⟩:=r;exact⟨vs,e,q.mono x⟩
 | dic kvs=>obtain⟨ws,e,q⟩:=r;exact⟨ws,e,q.mono x⟩
 | dtt kvs=>obtain⟨ws,e,q⟩:=r;exact⟨ws,e,q.mono x⟩
noncomputable def MutO (u:HO):Prop:=(∀ xs,u≠.tup xs)/\∀ o v,u≠.frz o v
theorem mut_l (vs:List V):MutO (.lst vs):=⟨fun _ z=>(nomatch z),fun _ _ z=>(nomatch z)⟩
theorem mut_d (vs:List (Key×V)):MutO (.dK vs):=⟨fun _ z=>(nomatch z),fun _ _ z=>(nomatch z)⟩
theorem mut_t (vs:List (List (List Key)×V)):MutO (.dTT vs):=⟨fun _ z=>(nomatch z),fun _ _ z=>(nomatch z)⟩
theorem ORep.some {o:MO}{h:Option HO}(r:ORep K ι H o h):∃ u,h=.some u/\MutO u:=by
 cases o with
 | lst ds=>obtain⟨vs,e,q⟩:=r;exact⟨_,e,mut_l _⟩
 | dic kvs=>obtain⟨ws,e,q⟩:=r;exact⟨_,e,mut_d _⟩
 | dtt kvs=>obtain⟨ws,e,q⟩:=r;exact⟨_,e,mut_t _⟩
structure Sim (K:PySem.W.Frag) (ι:List Addr) (M:MH) (H:Hp):Prop where
 len:ι.length=M.length
 inj:∀ (i j:Nat) (a:Addr),ι[i]?=some a->ι[j]?=some a->i=j
 obj:∀ (i:Nat) (a:Addr) (o:MO),ι[i]?=some a->M[i]?=some o->ORep K ι H o (H a)
theorem sqt {a:Addr}{xs:List V}(h:H a=some (.tup xs)):SqT K H a xs:=.inl (.inl h)
theorem Ext.new {p:Addr}{ho:HO}(hp:H p=none):Ext K ι H (ι++[p]) (upd H p ho) where
 pre:=fun i a e=>by
  have hi:i < ι.length:=(List.getElem?_eq_some_iff.mp e).1;rw[List.getElem?_append_left hi];exact e
 tup:=fun a xs h=>by rw[upd_ne (ne_of_none h hp)];exact h
 fz:=fun a xs h=>by
  rcases h with ⟨o,h⟩ | h
  ·exact .inl ⟨o,by rw[upd_ne (ne_of_none h hp)];exact h⟩
  ·exact .inr h
theorem Ext.tupN {p:Addr}{ho:HO}(hp:H p=none):Ext K ι H ι (upd H p ho) where
 pre:=fun i a e=>e
 tup:=fun a xs h=>by rw[upd_ne (ne_of_none h hp)];exact h
 fz:=fun a xs h=>by
  rcases h with ⟨o,h⟩ | h
  ·exact .inl ⟨o,by rw[upd_ne (ne_of_none h hp)];exact h⟩
  ·exact .inr h
theorem Ext.write {p:Addr}{u ho:HO}(hp:H p=some u)(hu:MutO u):Ext K ι H ι (upd H p ho) where
 pre:=fun i a e=>e
 tup:=fun a xs h=>by rw[upd_ne (ne_of h hp fun z=>hu.1 _ z.symm)];exact h
 fz:=fun a xs h=>by
  rcases h with ⟨o,h⟩ | h
  ·exact .inl ⟨o,by rw[upd_ne (ne_of h hp fun z=>hu.2 _ _ z.symm)];exact h⟩
  ·exact .inr h
variable {M M':MH}
theorem Sim.tracked (S:Sim K ι M H){i:Nat}{a:Addr}(e:ι[i]?=some a):∃ u,H a=some u/\MutO u:=by
 have hi:i < M.length:=by rw[<- S.len];exact(List.getElem?_eq_some_iff.mp e).1
 exact(S.obj i a _ e (List.getElem?_eq_getElem hi)).some
theorem Sim.new (S:Sim K ι M H){p:Addr}{o:MO}{ho:HO}(hp:H p=none)(r:ORep K (ι++[p]) (upd H p ho) o (some ho)):Sim K (ι++[p]) (M++[o]) (upd H p ho) where
 len:=by rw[List.length_append,List.length_append,S.len];rfl
 inj:=fun i j a h1 h2=>by
  have np:∀ (k:Nat),ι[k]?=some p->False:=fun k e=>by
   obtain⟨u,hu,_⟩:=S.tracked e;rw[hp]at hu;cases hu
  by_cases hi:i < ι.length
  ·rw[List.getElem?_append_left hi]at h1
   by_cases hj:j < ι.length
   ·rw[List.getElem?_append_left hj]at h2
    exact S.inj i j a h1 h2
   ·rw[List.getElem?_append_right (by first | lia | omega)]at h2
    have e:a=p:=by
     have:=List.mem_of_getElem? h2
     simpa using this
    subst e;exact(np i h1).elim
  ·rw[List.getElem?_append_right (by first | lia | omega)]at h1
   have e:a=p:=by
    have:=List.mem_of_getElem? h1
    simpa using this
   subst e;by_cases hj:j < ι.length
   ·rw[List.getElem?_append_left hj]at h2
    exact(np j h2).elim
   ·have l1:=(List.getElem?_eq_some_iff.mp h1).1
    rw[List.getElem?_append_right (by first | lia | omega)]at h2
    have l2:=(List.getElem?_eq_some_iff.mp h2).1;simp at l1 l2;first | lia | omega
 obj:=fun i a q h1 h2=>by
  by_cases hi:i < ι.length
  ·rw[List.getElem?_append_left hi]at h1
   rw[List.getElem?_append_left (by rw[<- S.len];exact hi)]at h2;have z:=S.obj i a q h1 h2;obtain⟨u,hu,_⟩:=S.tracked h1;rw[upd_ne (ne_of_none hu hp)];exact z.mono (Ext.new hp)
  ·rw[List.getElem?_append_right (by first | lia | omega)]at h1
   rw[List.getElem?_append_right (by rw[<- S.len];omega)]at h2;have e:a=p:=by
    have:=List.mem_of_getElem? h1
    simpa using this
   have e':q=o:=by
    have:=List.mem_of_getElem? h2
    simpa using this
   subst e e';rw[upd_same];exact r
theorem Sim.tupN (S:Sim K ι M H){p:Addr}{ho:HO}(hp:H p=none):Sim K ι M (upd H p ho) where
 len:=S.len
 inj:=S.inj
 obj:=fun i a o h1 h2=>by
  obtain⟨u,hu,_⟩:=S.tracked h1;rw[upd_ne (ne_of_none hu hp)];exact(S.obj i a o h1 h2).mono (Ext.tupN hp)
theorem Sim.put (S:Sim K ι M H){i:Nat}{a:Addr}{o:MO}{ho:HO}(e:ι[i]?=some a)(r:ORep K ι (upd H a ho) o (some ho)):Sim K ι (M.set i o) (upd H a ho):=by
 obtain⟨u,hu,mu⟩:=S.tracked e;refine⟨by rw[List.length_set];exact S.len,S.inj,fun j b q h1 h2=>?_⟩;by_cases hij:j=i
 ·subst hij
  rw[e]at h1;cases h1;have hj:j < M.length:=by rw[<- S.len];exact(List.getElem?_eq_some_iff.mp e).1
  rw[List.getElem?_set_self hj]at h2;cases h2;rw[upd_same];exact r
 ·rw[List.getElem?_set_ne (Ne.symm hij)]at h2
  have hb:b≠a:=fun z=>by subst z;exact hij (S.inj j i b h1 e)
  rw[upd_ne hb];exact(S.obj j b q h1 h2).mono (Ext.write hu mu)
structure EnvR (K:PySem.W.Frag) (ι:List Addr) (H:Hp) (ρ:Ev) (σ:St):Prop where
 len:ρ.length=σ.length
 val:∀ (i:Nat) (d:D),ρ[i]?=some (some d)->∃ v,σ[i]?=some (some v)/\Rep K ι H d v
theorem EnvR.mono (x:Ext K ι H ι' H'){ρ:Ev}{σ:St}(r:EnvR K ι H ρ σ):EnvR K ι' H' ρ σ:=⟨r.len,fun i d e=>let ⟨v,h1,h2⟩:=r.val i d e;⟨v,h1,h2.mono x⟩⟩
theorem EnvR.set {ρ:Ev}{σ:St}{d:D}{v:V}(r:EnvR K ι H ρ σ)(q:Rep K ι H d v)(i:Nat):EnvR K ι H (ρ.set i (some d)) (σ.set i (some v)) where
 len:=by rw[List.length_set,List.length_set];exact r.len
 val:=fun j c e=>by
  by_cases hij:j=i
  ·subst hij
   by_cases hj:j < ρ.length
   ·rw[List.getElem?_set_self hj]at e
    cases e;exact⟨v,by rw[List.getElem?_set_self (by rw[<- r.len];exact hj)],q⟩
   ·rw[List.getElem?_eq_none (by rw[List.length_set];omega)]at e;cases e
  ·rw[List.getElem?_set_ne (Ne.symm hij)]at e
   obtain⟨u,h1,h2⟩:=r.val j c e;exact⟨u,by rw[List.getElem?_set_ne (Ne.symm hij)];exact h1,h2⟩
theorem EnvR.comp {ρ:Ev}{σ:St}{d:D}{v:V}(r:EnvR K ι H ρ σ)(q:Rep K ι H d v)(j:Nat):EnvR K ι H (some d::ρ.set j none) (some v::σ) where
 len:=by rw[List.length_cons,List.length_cons,List.length_set,r.len]
 val:=fun i c e=>by
  cases i with
  | zero=>simp at e;subst e;exact⟨v,rfl,q⟩
  | succ i =>
   rw[List.getElem?_cons_succ]at e;by_cases hij:i=j
   ·subst hij
    by_cases hj:i < ρ.length
    ·rw[List.getElem?_set_self hj]at e;cases e
    ·rw[List.getElem?_eq_none (by rw[List.length_set];omega)]at e;cases e
   ·rw[List.getElem?_set_ne (Ne.symm hij)]at e
    obtain⟨u,h1,h2⟩:=r.val i c e;exact⟨u,by rw[List.getElem?_cons_succ];exact h1,h2⟩
end
noncomputable abbrev DE:=Ev->Mo D
noncomputable def LE (K:PySem.W.Frag)(f:DE):TE:=fun σ H Q=>∃ ι ρ M d M',Sim K ι M H/\EnvR K ι H ρ σ/\f ρ M=some (.ok d,M') /\
 ∀ v H' ι',Rep K ι' H' d v->Sim K ι' M' H'->Ext K ι H ι' H'->Q v H'
noncomputable def LT (K:PySem.W.Frag)(f:Ev->Mo Bool):TT:=fun σ H Q=>∃ ι ρ M b M',Sim K ι M H/\EnvR K ι H ρ σ/\f ρ M=some (.ok b,M') /\
 ∀ H' ι',Sim K ι' M' H'->Ext K ι H ι' H'->Q b H'
noncomputable def LA (K:PySem.W.Frag)(f:Ev->Mo (List D)):TA:=fun σ H Q=>∃ ι ρ M ds M',Sim K ι M H/\EnvR K ι H ρ σ/\f ρ M=some (.ok ds,M') /\
 ∀ vs H' ι',Reps K ι' H' ds vs->Sim K ι' M' H'->Ext K ι H ι' H'->Q vs H'
noncomputable def LO (K:PySem.W.Frag)(f:Ev->Mo (Option Int)):TO:=fun σ H Q=>∃ ι ρ M o M',Sim K ι M H/\EnvR K ι H ρ σ/\f ρ M=some (.ok o,M') /\
 ∀ H' ι',Sim K ι' M' H'->Ext K ι H ι' H'->Q o H'
noncomputable def FlP (K:PySem.W.Frag)(D:Ends)(ι:List Addr)(H:Hp):Fl->Prop
 | .nx ρ=>∀ σ,EnvR K ι H ρ σ->D.nx σ H
 | .rt d=>∀ v,Rep K ι H d v->D.rt v H
 | .bk ρ=>∀ σ,EnvR K ι H ρ σ->D.bk σ H
 | .ct ρ=>∀ σ,EnvR K ι H ρ σ->D.ct σ H
noncomputable def LS (K:PySem.W.Frag)(f:Ev->Mo Fl):TS:=fun D σ H=>∃ ι ρ M fl M',Sim K ι M H/\EnvR K ι H ρ σ/\f ρ M=some (.ok fl,M') /\
 ∀ H' ι',Sim K ι' M' H'->Ext K ι H ι' H'->FlP K D ι' H' fl
theorem PE.imp {X:Cx}{e:Expr}{t t':TE}(h:PE X e t)(k:∀ σ H Q,t' σ H Q->t σ H Q):PE X e t':=fun pins s σ H Q I q=>h pins s σ H Q I (k σ H Q q)
theorem PT.imp {X:Cx}{e:Expr}{t t':TT}(h:PT X e t)(k:∀ σ H Q,t' σ H Q->t σ H Q):PT X e t':=fun pins s σ H Q I q=>h pins s σ H Q I (k σ H Q q)
theorem PTs.imp {X:Cx}{e:List Expr}{t t':TT}(h:PTs X e t)(k:∀ σ H Q,t' σ H Q->t σ H Q):PTs X e t':=fun pins s σ H Q I q=>h pins s σ H Q I (k σ H Q q)
theorem PA.imp {X:Cx}{e:List Expr}{t t':TA}(h:PA X e t)(k:∀ σ H Q,t' σ H Q->t σ H Q):PA X e t':=fun pos pins s σ H Q I q=>h pos pins s σ H Q I (k σ H Q q)
theorem PO.imp {X:Cx}{e:Option Expr}{t t':TO}(h:PO X e t)(k:∀ σ H Q,t' σ H Q->t σ H Q):PO X e t':=fun pins s σ H Q I q=>h pins s σ H Q I (k σ H Q q)
theorem PS.imp {X:Cx}{e:Stmt}{t t':TS}(h:PS X e t)(k:∀ D σ H,t' D σ H->t D σ H):PS X e t':=fun pins s σ H D I q=>h pins s σ H D I (k D σ H q)
theorem PSs.imp {X:Cx}{e:List Stmt}{t t':TS}(h:PSs X e t)(k:∀ D σ H,t' D σ H->t D σ H):PSs X e t':=fun pins s σ H D I q=>h pins s σ H D I (k D σ H q)
noncomputable def OpS (K:PySem.W.Frag)(r:R2)(g:D->D->Mo D):Prop:=∀ (ι:List Addr) (M M':MH) (H:Hp) (x y d:D) (vx vy:V) (Q:VK),Sim K ι M H->Rep K ι H x vx->Rep K ι H y vy->g x y M=some (.ok d,M') ->
 (∀ v H' ι',Rep K ι' H' d v->Sim K ι' M' H'->Ext K ι H ι' H'->Q v H')->r vx vy H Q
section
variable {K:PySem.W.Frag}
theorem LE.bin {fa fb:DE}{g:D->D->Mo D}{r:R2}(ho:OpS K r g)(σ:St)(H:Hp)(Q:VK)(h:LE K (fun ρ=>do let x <- fa ρ;let y <- fb ρ;g x y) σ H Q):tOp r (LE K fa) (LE K fb) σ H Q:=by
 obtain⟨ι,ρ,M,d,M',S,R,e,k⟩:=h;obtain⟨x,M1,e1,e⟩:=bind_ok e;obtain⟨y,M2,e2,e⟩:=bind_ok e;refine⟨ι,ρ,M,x,M1,S,R,e1,fun v1 H1 ι1 r1 S1 X1=>?_⟩;refine⟨ι1,ρ,M1,y,M2,S1,R.mono X1,e2,fun v2 H2 ι2 r2 S2 X2=>?_⟩;exact ho ι2 M2 M' H2 x y d v1 v2 Q S2 (r1.mono X2) r2 e fun v H' ι' r' S' X'=>k v H' ι' r' S' ((X1.trans X2).trans X')
end
theorem need_ok {p:Prop}[Decidable p]{M M':MH}{u:Unit}(h:need p M=some (.ok u,M')):p/\M'=M:=by
 unfold need at h;split at h
 ·rename_i hp
  cases h;exact⟨hp,rfl⟩
 ·cases h
theorem lift_ok {α:Type}{o:Option α}{a:α}{M M':MH}(h:lift o M=some (.ok a,M')):o=some a/\M'=M:=by
 cases o with
 | none=>cases h
 | some b=>cases h;exact⟨rfl,rfl⟩
theorem pure_ok {α:Type}{a b:α}{M M':MH}(h:(pure a:Mo α) M=some (.ok b,M')):b=a/\M'=M:=by
 cases h;exact⟨rfl,rfl⟩
theorem getM_ok {i:Nat}{o:MO}{M M':MH}(h:getM i M=some (.ok o,M')):M[i]?=some o/\M'=M:=by
 unfold getM at h;split at h
 ·rename_i e;cases h;exact⟨e,rfl⟩
 ·cases h
theorem getL_ok {i:Nat}{ds:List D}{M M':MH}(h:getL i M=some (.ok ds,M')):M[i]?=some (.lst ds)/\M'=M:=by
 unfold getL at h;split at h
 ·rename_i e;cases h;exact⟨e,rfl⟩
 ·cases h
theorem getD_ok {i:Nat}{ds:List (Ky×D)}{M M':MH}(h:getD i M=some (.ok ds,M')):M[i]?=some (.dic ds)/\M'=M:=by
 unfold getD at h;split at h
 ·rename_i e;cases h;exact⟨e,rfl⟩
 ·cases h
theorem newM_ok {o:MO}{d:D}{M M':MH}(h:newM o M=some (.ok d,M')):d=.ob M.length/\M'=M++[o]:=by
 cases h;exact⟨rfl,rfl⟩
theorem putM_ok {i:Nat}{o:MO}{u:Unit}{M M':MH}(h:putM i o M=some (.ok u,M')):i < M.length/\M'=M.set i o:=by
 unfold putM at h;split at h
 ·rename_i e;cases h;exact⟨e,rfl⟩
 ·cases h
theorem stop_ok {α:Type}{a:α}{M':MH}(h:(none:Option (Out α×MH))=some (.ok a,M')):False:=by cases h
theorem getT_ok {i:Nat}{ds:List (List (List Ky)×D)}{M M':MH}(h:getT i M=some (.ok ds,M')):M[i]?=some (.dtt ds)/\M'=M:=by
 unfold getT at h;split at h
 ·rename_i e;cases h;exact⟨e,rfl⟩
 ·cases h
end L3
namespace L3
open PySem PySem.Spec PyProof.Rows L2
section
variable {K:PySem.W.Frag}{ι:List Addr}{M:MH}{H:Hp}
theorem keyD_rep {d:D}{v:V}{k:Ky}(r:Rep K ι H d v)(h:kyD d=some k):v=kV k:=by
 cases r <;> simp[kyD]at h <;> subst h <;> rfl
theorem keys_rep:∀ {ds:List D} {vs:List V} {ks:List Ky},Reps K ι H ds vs->kysD ds=some ks->vs=ks.map kV
 | _,_,_,.nil,h=>by cases h;rfl
 | _,_,_,.cons (d:=d) (ds:=ds) r t,h=>by
  unfold kysD at h;split at h
  ·rename_i k ks e1 e2
   cases h;rw[List.map_cons,keyD_rep r e1,keys_rep t e2]
  ·cases h
theorem key_p {d:D}{v:V}{k:List Ky}(r:Rep K ι H d v)(h:kyP d=some k):∃ c,v=.ref c/\H c=some (.tup (k.map kV)):=by
 cases r with
 | tup t q=>rw[<- keys_rep q h];exact⟨_,rfl,t⟩
 | _=>cases h
end
end L3
namespace L3
open PySem PySem.Spec PyProof.Rows L2
section
variable {K:PySem.W.Frag}{ι:List Addr}{M:MH}{H:Hp}
theorem sim_tt (S:Sim K ι M H){i:Nat}{kvs:List (List (List Ky)×D)}{v:V}(r:Rep K ι H (.ob i) v)(e:M[i]?=some (.dtt kvs)):∃ a ws,v=.ref a/\ι[i]?=some a/\H a=some (.dTT ws)/\TR K ι H kvs ws:=by
 cases r with
 | ob h =>
  rename_i a;obtain⟨vs,e1,q⟩:=S.obj i a _ h e;exact⟨a,vs,rfl,h,e1,q⟩
theorem TR.find {kvs:List (List (List Ky)×D)}{ws:List (List (List Key)×V)}(r:TR K ι H kvs ws)(k:List (List Ky)):(tkGet kvs k=none/\valV ws k=none)\/∃ d v,tkGet kvs k=some d/\valV ws k=some v/\Rep K ι H d v:=by
 induction r with
 | nil=>exact .inl ⟨rfl,rfl⟩
 | cons h t ih =>
  rename_i a b l1 l2;by_cases e:a.1=k
  ·refine .inr ⟨a.2,b.2,?_,valV_pos (h.1 ▸ e),h.2⟩
   simp[tkGet,List.find?_cons,e]
  ·have e2:¬ b.1=k:=fun z=>e (h.1.trans z)
   have e3:tkGet (a::l1) k=tkGet l1 k:=by simp[tkGet,List.find?_cons,e]
   rw[valV_neg e2,e3];exact ih
theorem TR.anyk {kvs:List (List (List Ky)×D)}{ws:List (List (List Key)×V)}(r:TR K ι H kvs ws)(k:List (List Ky)):(kvs.any fun kv=>decide (kv.1=k))=ws.any fun kv=>decide (kv.1=k):=by
 induction r with
 | nil=>rfl
 | cons h t ih=>rw[List.any_cons,List.any_cons,ih,h.1]
theorem TR.repl {kvs:List (List (List Ky)×D)}{ws:List (List (List Key)×V)}(r:TR K ι H kvs ws)(k:List (List Ky)){d:D}{v:V}(q:Rep K ι H d v) :
  TR K ι H (kvs.map fun kv=>if kv.1=k then (kv.1,d) else kv) (ws.map fun kv=>if kv.1=k then (kv.1,v) else kv):=by
 induction r with
 | nil=>exact .nil
 | cons h t ih =>
  rename_i a b l1 l2;rw[List.map_cons,List.map_cons];refine .cons ?_ ih;by_cases e:a.1=k
  ·rw[if_pos e,if_pos (h.1 ▸ e)];exact⟨h.1,q⟩
  ·rw[if_neg e,if_neg (fun z=>e (h.1.trans z))];exact h
theorem TR.put {kvs:List (List (List Ky)×D)}{ws:List (List (List Key)×V)}(r:TR K ι H kvs ws)(k:List (List Ky)){d:D}{v:V}(q:Rep K ι H d v):TR K ι H (tkPut kvs k d) (putK ws k v):=by
 unfold tkPut putK;rw[r.anyk k];split
 ·exact r.repl k q
 ·exact Paired.snoc r ⟨rfl,q⟩
theorem keys_t:∀ {ds:List D} {vs:List V} {ks:List (List Ky)},Reps K ι H ds vs->kysT ds=some ks->∃ bs:List Addr,vs=bs.map V.ref/\Paired (fun (ks:List Key) c=>H c=some (.tup (ks.map kV))) ks bs
 | _,_,_,.nil,h=>by cases h;exact⟨[],rfl,.nil⟩
 | _,_,_,.cons (d:=d) (ds:=ds) r t,h=>by
  unfold kysT at h;split at h
  ·rename_i k ks e1 e2
   cases h;obtain⟨c,rfl,hc⟩:=key_p r e1;obtain⟨bs,rfl,hb⟩:=keys_t t e2;exact⟨c::bs,rfl,.cons hc hb⟩
  ·cases h
theorem key_at {d:D}{v:V}{k:List (List Ky)}(r:Rep K ι H d v)(h:kyT d=some k):∃ b,v=.ref b/\KeyAt H k b:=by
 cases r with
 | tup t q =>
  obtain⟨bs,rfl,hb⟩:=keys_t q h;exact⟨_,rfl,bs,t,hb⟩
 | _=>cases h
end
section
variable {P:Program}{w:World}{H:Hp}{h:Heap}{a:Addr}
theorem its2_of (ok:HOk P w H h):∀ {k:List (List Key)} {bs:List Addr} {us:List Value},Paired (fun (ks:List Key) c=>H c=some (.tup (ks.map kV))) k bs->Vals (bs.map V.ref) us->Its2 (mixKind P w) h k us
 | [],_,us,p,r=>by cases p;cases r;exact .nil
 | k::ks,_,us,p,r=>by
  cases p with
  | cons h1 t =>
   rw[List.map_cons]at r;cases r with
   | cons e q =>
    rename_i u us';cases (show u=Value.ref _ from e);exact .cons (key_of ok h1) (its2_of ok t q)
theorem key2_of {k:List (List Key)}(ok:HOk P w H h)(e:KeyAt H k a):(kind2 (mixKind P w)).is h k a:=by
 obtain⟨bs,e1,e2⟩:=e;obtain⟨_,its,r,⟨o,h1,h2,n,h3⟩,_⟩:=(show ObjOk P w H h a (.tup (bs.map V.ref)) from ok a _ e1);exact⟨o,its.toArray,n,h1,h2,h3,by simpa using its2_of ok e2 r⟩
noncomputable abbrev KTT (H:Hp):List (List (List Key)×V)->List (List (List Key)×Addr×Value)->Prop:=Paired fun p q=>p.1=q.1/\KeyAt H p.1 q.2.1/\RelV p.2 q.2.2
theorem KTT.val {kvs:List (List (List Key)×V)}{xs:List (List (List Key)×Addr×Value)}(r:KTT H kvs xs)(k:List (List Key)):RelO (valV kvs k) ((atKey xs k).map (·.2)):=by
 induction r with
 | nil=>exact True.intro
 | @cons p q ps qs h t ih =>
  obtain⟨h1,_,h2⟩:=h;by_cases e:p.1=k
  ·have e':q.1=k:=h1.symm.trans e
   have b:atKey (q::qs) k=some q.2:=by simp[atKey,List.find?_cons,e']
   rw[valV_pos e,b];exact h2
  ·have e':¬ q.1=k:=fun z=>e (h1.trans z)
   have b:atKey (q::qs) k=atKey qs k:=by simp[atKey,List.find?_cons,e']
   rw[valV_neg e,b];exact ih
theorem KTT.repl {kvs:List (List (List Key)×V)}{xs:List (List (List Key)×Addr×Value)}(r:KTT H kvs xs)(k:List (List Key)){y:V}{u:Value}(ry:RelV y u) :
  KTT H (kvs.map fun kv=>if kv.1=k then (kv.1,y) else kv) (xs.map (putAt k u)):=by
 induction r with
 | nil=>exact .nil
 | @cons p q ps qs h t ih =>
  rw[List.map_cons,List.map_cons];refine .cons ?_ ih;obtain⟨h1,h2,h3⟩:=h;unfold putAt;by_cases e:p.1=k
  ·rw[if_pos e,if_pos (h1.symm.trans e)];exact⟨h1,h2,ry⟩
  ·rw[if_neg e,if_neg (fun z=>e (h1.trans z))];exact⟨h1,h2,h3⟩
theorem KTT.put {kvs:List (List (List Key)×V)}{xs:List (List (List Key)×Addr×Value)}(r:KTT H kvs xs)(k:List (List Key)){b:Addr}{y:V}{u:Value}(hb:KeyAt H k b)(ry:RelV y u) :
  KTT H (putK kvs k y) (storedH xs k b u):=by
 have e:(kvs.any fun kv=>decide (kv.1=k))=(atKey xs k).isSome:=by
  rw[valV_any,(r.val k).isSome_eq,Option.isSome_map]
 unfold putK storedH;rw[e];by_cases q:(atKey xs k).isSome=true
 ·rw[if_pos q,if_pos q];exact r.repl k ry
 ·rw[if_neg q,if_neg q];exact Paired.snoc r ⟨rfl,hb,ry⟩
theorem KTT.keeps {H':Hp}{kvs:List (List (List Key)×V)}{xs:List (List (List Key)×Addr×Value)}(r:KTT H kvs xs)(ht:∀ b ys,H b=some (.tup ys)->H' b=some (.tup ys)):KTT H' kvs xs :=
 Paired.mapP r fun _ _ z=>⟨z.1,let ⟨bs,h1,h2⟩:=z.2.1;⟨bs,ht _ _ h1,Paired.mapP h2 fun _ _ w=>ht _ _ w⟩,z.2.2⟩
theorem dtt_of {kvs:List (List (List Key)×V)}(ok:HOk P w H h)(e:H a=some (.dTT kvs)):kvs.length<=sizeLine/\(a==sysModules)=false /\
  ∃ xs,KTT H kvs xs/\h.DictOfH (kind2 (mixKind P w)) a xs:=by
 obtain⟨z,y,xs,r,o,es,ep,h1,h2,h3,h4,h5⟩:=(show ObjOk P w H h a (.dTT kvs) from ok a _ e);refine⟨z,y,xs,r,o,es,ep,h1,h2,h3,h4,fun x hx=>?_,h5⟩;have all:∀ {l:List (List (List Key)×V)} {m:List (List (List Key)×Addr×Value)},KTT H l m->∀ x∈m,(kind2 (mixKind P w)).is h x.1 x.2.1:=by
  intro l m q;induction q with
  | nil=>intro x hx;exact nomatch hx
  | @cons p q ps qs hq t ih =>
   intro x hx;rcases List.mem_cons.mp hx with e | hx
   ·subst e
    exact key2_of ok (by rw[<- hq.1];exact hq.2.1)
   ·exact ih x hx
 exact all r x hx
end
section
variable {X:Cx}{pins:List (Addr×Obj)}{s:Shared}{σ:St}{H:Hp}{ι:List Addr}{M M':MH}{x y z d:D}{i:Nat}{kvs:List (List (List Ky)×D)}{o j v:V}{ov iv uv:Value}
theorem k2room (hu:X.A.units + 100 < cLine){P:Program}{w:World}:(kind2 (mixKind P w)).room X.A.in1:=by
 show X.A.units + 1 + 1 < cLine;omega
theorem tt_ix {value slice:Expr}{Q:VK}(hu:X.A.units + 100 < cLine)(S:Sim X.K ι M H)(r1:Rep X.K ι H (.ob i) o)(r2:Rep X.K ι H y j)(g:M[i]?=some (.dtt kvs))
  (e:(do let q <- lift (kyT y);lift (tkGet kvs q):Mo D) M=some (.ok d,M')) (I:Inv X pins σ H s) (rx:RelV o ov) (ry:RelV j iv) (hs:subscripted slice false ov iv=operate [ov,iv] (getItem ov iv))
  (k:∀ w',Rep X.K ι H d w'->M'=M->Q w' H):wpAny (model X.prog X.w) X.A (subscriptTail value slice ov iv) (EP X pins σ Q) X.xe s:=by
 have e0:=bind_ok e;clear e;obtain⟨q,_,e1,e⟩:=e0;have e10:=lift_ok e1;clear e1;obtain⟨hk,rfl⟩:=e10;have e0:=lift_ok e;clear e;obtain⟨e1,rfl⟩:=e0;obtain⟨a,ws,rfl,_,h3,h4⟩:=sim_tt S r1 g;obtain⟨b,rfl,kb⟩:=key_at r2 hk;obtain rfl:ov=Value.ref a:=rx;obtain rfl:iv=Value.ref b:=ry;obtain⟨z,hd,xs,rel,dd⟩:=dtt_of I.hok h3;rcases h4.find q with ⟨z1,z2⟩|⟨d',w',z1,z2,z3⟩
 ·rw[z1]at e1;cases e1
 ·rw[z1]at e1;cases e1
  obtain⟨u',hw,rw'⟩:=RelO.some_of (v:=w') (o:=(atKey xs q).map (·.2)) (by rw[<- z2];exact rel.val q);obtain⟨p,hp,hp2⟩:=Option.map_eq_some_iff.mp hw;refine tail_any dd.typeIs PySem.F.slot_dict_getitem.lookup (wpAny_getItem_heap (k2room hu) (key2_of I.hok kb) dd hp ?_) hs;rw[hp2];exact⟨w',H,I.tok _,rw',k w' z3 rfl⟩
theorem tt_set {Q:Hp->Prop}{u:Unit}(hu:X.A.units + 100 < cLine)(S:Sim X.K ι M H)(r1:Rep X.K ι H (.ob i) o)(r2:Rep X.K ι H y j)(r3:Rep X.K ι H z v)(g:M[i]?=some (.dtt kvs))
  (e:(do let q <- lift (kyT y);need (kvs.length < sizeLine);putM i (.dtt (tkPut kvs q z)):Mo Unit) M=some (.ok u,M')) (I:Inv X pins σ H s) (ro:RelV o ov) (ri:RelV j iv) (rv:RelV v uv)
  (k:∀ H',Sim X.K ι M' H'->Ext X.K ι H ι H'->Q H'):wpAny (model X.prog X.w) X.A (setItem ov iv uv) (fun _ s'=>∃ H',Inv X pins σ H' s'/\Q H') X.xe s:=by
 have e0:=bind_ok e;clear e;obtain⟨q,_,e1,e⟩:=e0;have e10:=lift_ok e1;clear e1;obtain⟨hk,rfl⟩:=e10;have e0:=bind_ok e;clear e;obtain⟨_,_,e1,e⟩:=e0;have e10:=need_ok e1;clear e1;obtain⟨hn,rfl⟩:=e10;have e0:=putM_ok e;clear e;obtain⟨_,rfl⟩:=e0;obtain⟨a,ws,rfl,hi,h3,h4⟩:=sim_tt S r1 g;obtain⟨b,rfl,kb⟩:=key_at r2 hk;obtain rfl:ov=Value.ref a:=ro;obtain rfl:iv=Value.ref b:=ri;obtain⟨z',hd,xs,rel,dd⟩:=dtt_of I.hok h3;have hn2:ws.length < sizeLine:=by rw[<- Paired.length h4];exact hn
 have x:Ext X.K ι H ι (upd H a (.dTT (putK ws q v))):=Ext.write h3 (mut_t _);have hz:xs.length<=sizeLine:=by rw[<- Paired.length rel];exact z'
 have hl:(putK ws q v).length<=sizeLine:=by have:=length_putK ws q v;omega
 refine wpAny_setItem_heap (hsz:=hz) (k2room hu) (key2_of I.hok kb) dd fun h' dd' hs=>⟨_,?_,k _ (S.put hi ⟨_,rfl,(h4.mono x).put q (r3.mono x)⟩) x⟩;obtain⟨q',es,ep,hq,h2,h3',h4',_,h5⟩:=dd';refine d_write I (by rw[h3];exact True.intro) hs ⟨q',hq⟩ ⟨hl,hd,_,(rel.put q kb rv).keeps fun c ys ec=>?_,q',es,ep,hq,h2,h3',h4',h5⟩;rw[upd_ne (ne_of ec h3 (fun z=>nomatch z))];exact ec
theorem rcv_tt {p:Addr}{ws:List (List (List Key)×V)}{u:Value}(I:Inv X pins σ H s)(r:RelV (.ref p) u)(h:H p=some (.dTT ws)):s.TypeIs u "dict"/\∀ a,u=.ref a->∃ ob,s.heap.get? a=some ob/\ob.dict=none:=by
 cases r;obtain⟨_,_,_,_,o,_,_,e,ex,_⟩:=I.hok p _ h;exact⟨⟨o,e,ex.1⟩,fun a e2=>by cases e2;exact⟨o,e,ex.2.1⟩⟩
theorem dtt_empty {P:Program}{w:World}{H:Hp}(h:Heap)(hb:sysModules < h.objs.size):ObjOk P w H (h.push { cls:=.type "dict",data:=.dict #[] }) h.objs.size (.dTT []) :=
 ⟨Nat.zero_le _,beq_eq_false_iff_ne.mpr (Ne.symm (Nat.ne_of_lt hb)),[],.nil,_,#[],0,Heap.get?_push_size _ rfl,⟨rfl,rfl,rfl⟩,rfl,rfl,List.nodup_nil⟩
noncomputable def tDNewTT:TE:=fun _ H Q=>∀ p,H p=none->Q (.ref p) (upd H p (.dTT []))
theorem pe_dnewTT {pos:Pos}:PE X (.Dict [] [] pos) tDNewTT:=fun pins s σ H Q I h =>
 wpAny_Dict_empty ⟨.ref s.heap.objs.size,_,I.laid (a:=s.heap.objs.size) (o:=.dTT []) (t':=s.toks) (fun _ _ q=>Heap.get?_push_of_some _ q) (Nat.le_refl _) (dtt_empty s.heap I.big),rfl,h _ (I.hok.fresh (Nat.le_refl _))⟩
end
end L3
namespace L3
open PySem PySem.Spec PyProof.Rows L2
section
variable {prog:Program}{w:World}{K:Type}[DecidableEq K]{knd:HeapKind prog w K}{A:Around}{E:Value->Shared->Prop}{s:Shared}{d a:Addr}{k:K}{xs:List (K×Addr×Value)}
theorem sdf_heap {v:Value}{Q:Value->Shared->Prop}(hu:knd.room A)(hkey:knd.is s.heap k a)(hm:s.heap.DictOfH knd d xs)(hsz:xs.length<=sizeLine)
  (h1:∀ p,atKey xs k=some p->Q p.2 { s with toks:=s.toks + knd.draws k })
  (h2:atKey xs k=none->∀ h',h'.DictOfH knd d (storedH xs k a v)->Heap.SameBut d s.heap h'->Q v { s with heap:=h',toks:=s.toks + knd.draws k }) :
  wpAny (model prog w) A (dictSetDefault d (.ref a) v) Q E s:=by
 obtain⟨o,es,ep,ho,hc,hd,he,his,hn⟩:=hm;unfold dictSetDefault
 try with_reducible refine wpAny_holding ?_
 refine wpAny_bind (knd.pyHash hu hkey ?_);refine wpAny_bind (wpAny_dictFind_heap (s:={ s with toks:=s.toks + knd.draws k }) hu hkey ho hd he his hn ?_ ?_)
 ·intro hno
  have hnot:k ∉ xs.map (·.1):=not_mem_keys_of_get hno;refine wpAny_bind (wpAny_rule (wpAny_bind (wpAny_updateDictKeys (hz:=by have e:=size_of_entries he;omega) (s:={ s with toks:=s.toks + knd.draws k }) ho hd (wpAny_pure (h2 (atKey_none_of_get hno) _ ⟨_,_,ep + 1,Heap.get?_update_self _ ho (Obj.isFreed_of_dict (Obj.data_mapDictKeys hd _)),
   hc.mapDictKeys _,Obj.data_mapDictKeys hd _,?_,?_,?_⟩ (Heap.SameBut.update ..))))))
  ·rw[storedH_new (atKey_none_of_get hno)]
   simp[he,entryOfKey]
  ·rw[storedH_new (atKey_none_of_get hno)]
   intro x hx;rcases List.mem_append.mp hx with hx | hx
   ·exact knd.keeps (his x hx) ho hd (Heap.SameBut.update ..)
   ·simp only[List.mem_singleton]at hx
    subst hx;exact knd.keeps hkey ho hd (Heap.SameBut.update ..)
  ·rw[storedH_new (atKey_none_of_get hno),List.map_append,List.nodup_append]
   refine⟨hn,by simp,?_⟩;intro x hx y hy;simp only[List.map_cons,List.map_nil,List.mem_singleton]at hy;subst hy;exact fun e=>hnot (e ▸ hx)
 ·intro j p hj
  refine wpAny_bind (wpAny_dictEntries (s:={ s with toks:=s.toks + knd.draws k }) ho hd ?_);rw[entry_at he j,hj];exact wpAny_bind (wpAny_rule (wpAny_pure (h1 p (atKey_of_get hn hj))))
variable (knd)(d a)
theorem meetsH_sdf (hd:(d==sysModules)=false)(dflt:Value) :
  MeetsIn prog w (Builtin.«dict.setdefault» ⟨[.ref d,.ref a,dflt],[]⟩) (fun A R s=>knd.room A.in1/\∃ k xs,knd.is s.heap k a/\s.heap.DictOfH knd d xs/\xs.length<=sizeLine /\
   (∀ p,atKey xs k=some p->R (.ok (.ret p.2)) { s with toks:=s.toks + knd.draws k }) /\
   (atKey xs k=none->∀ h',h'.DictOfH knd d (storedH xs k a dflt)->Heap.SameBut d s.heap h'->R (.ok (.ret dflt)) { s with heap:=h',toks:=s.toks + knd.draws k })) :=
 .of_wp fun A R s ⟨hu,k,xs,hkey,hm,hz,h1,h2⟩=>by
  unfold Builtin.«dict.setdefault»;refine wpAny_bind ?_;unfold Builtin.Dict.keyAndDefault;refine wpAny_bind (wpAny_notOrdered_dict hm.typeIs ?_);show wpAny _ _ (pure (d,Value.ref a,some dflt)) _ _ s;refine wpAny_pure ?_;show wpAny _ _ (if (d==sysModules)=true then _ else (dictSetDefault d (.ref a) dflt >>= _)) _ _ s;rw[if_neg (by rw[hd];exact Bool.false_ne_true)];exact wpAny_bind (sdf_heap hu hkey hm hz (fun p hp=>wpAny_pure ⟨p.2,rfl,h1 p hp⟩) fun hn h' hm' hs'=>wpAny_pure ⟨dflt,rfl,h2 hn h' hm' hs'⟩)
end
end L3
namespace L3
open PySem PySem.Spec PyProof.Rows L2
noncomputable def R2S (K:PySem.W.Frag)(g:D->D->Mo D):R2:=fun x y H Q=>∃ ι M M' dx dy d,Sim K ι M H/\Rep K ι H dx x/\Rep K ι H dy y/\g dx dy M=some (.ok d,M') /\
 ∀ v H' ι',Rep K ι' H' d v->Sim K ι' M' H'->Ext K ι H ι' H'->Q v H'
theorem opS_R2S {K:PySem.W.Frag}{g:D->D->Mo D}:OpS K (R2S K g) g:=fun ι M M' _ x y d _ _ _ S r1 r2 e k=>⟨ι,M,M',x,y,d,S,r1,r2,e,k⟩
section
variable {K:PySem.W.Frag}{ι:List Addr}{H:Hp}{M M':MH}
theorem new_list {Q:VK}{ds:List D}{vs:List V}{d:D}(S:Sim K ι M H)(r:Reps K ι H ds vs)(e:newM (.lst ds) M=some (.ok d,M'))(k:∀ v H' ι',Rep K ι' H' d v->Sim K ι' M' H'->Ext K ι H ι' H'->Q v H') :
  ∀ p,H p=none->Q (.ref p) (upd H p (.lst vs)):=fun p hp=>by
 have e0:=newM_ok e;clear e;obtain⟨rfl,rfl⟩:=e0;have x:Ext K ι H (ι++[p]) (upd H p (.lst vs)):=Ext.new hp;exact k _ _ (ι++[p]) (.ob (by rw[<- S.len,List.getElem?_append_right (Nat.le_refl _),Nat.sub_self];rfl)) (S.new hp ⟨vs,rfl,r.mono x⟩) x
theorem new_tup {Q:VK}{ds:List D}{vs:List V}(S:Sim K ι M H)(r:Reps K ι H ds vs)(k:∀ v H' ι',Rep K ι' H' (.tup ds) v->Sim K ι' M H'->Ext K ι H ι' H'->Q v H') :
  ∀ p,H p=none->Q (.ref p) (upd H p (.tup vs)):=fun p hp=>by
 have x:Ext K ι H ι (upd H p (.tup vs)):=Ext.tupN hp;exact k _ _ ι (.tup upd_same (r.mono x)) (S.tupN hp) x
theorem sim_list (S:Sim K ι M H){i:Nat}{ds:List D}{v:V}(r:Rep K ι H (.ob i) v)(e:M[i]?=some (.lst ds)):∃ a vs,v=.ref a/\ι[i]?=some a/\H a=some (.lst vs)/\Reps K ι H ds vs:=by
 cases r with
 | ob h =>
  rename_i a;obtain⟨vs,e1,q⟩:=S.obj i a _ h e;exact⟨a,vs,rfl,h,e1,q⟩
theorem sim_dict (S:Sim K ι M H){i:Nat}{kvs:List (Ky×D)}{v:V}(r:Rep K ι H (.ob i) v)(e:M[i]?=some (.dic kvs)):∃ a ws,v=.ref a/\ι[i]?=some a/\H a=some (.dK ws)/\KR K ι H kvs ws:=by
 cases r with
 | ob h =>
  rename_i a;obtain⟨vs,e1,q⟩:=S.obj i a _ h e;exact⟨a,vs,rfl,h,e1,q⟩
theorem flat_rep {d:D}{v:V}(r:Rep K ι H d v)(h:flatD d=true):flatV v=true:=by
 cases r <;> simp[flatD,flatV]at h ⊢
theorem eq_rep {d e:D}{v u:V}(r:Rep K ι H d v)(q:Rep K ι H e u)(h:flatD d=true)(h':flatD e=true):eqV v u=eqF d e:=by
 cases r <;> cases q <;> simp[flatD,eqV,eqF]at h h' ⊢
theorem KR.find {kvs:List (Ky×D)}{ws:List (Key×V)}(r:KR K ι H kvs ws)(k:Ky):(kvGet kvs k=none/\valV ws k=none)\/∃ d v,kvGet kvs k=some d/\valV ws k=some v/\Rep K ι H d v:=by
 induction r with
 | nil=>exact .inl ⟨rfl,rfl⟩
 | cons h t ih =>
  rename_i a b l1 l2;by_cases e:a.1=k
  ·refine .inr ⟨a.2,b.2,?_,valV_pos (h.1 ▸ e),h.2⟩
   simp[kvGet,List.find?_cons,e]
  ·have e2:¬ b.1=k:=fun z=>e (h.1.trans z)
   have e3:kvGet (a::l1) k=kvGet l1 k:=by simp[kvGet,List.find?_cons,e]
   rw[valV_neg e2,e3];exact ih
theorem KR.anyk {kvs:List (Ky×D)}{ws:List (Key×V)}(r:KR K ι H kvs ws)(k:Ky):(kvs.any fun kv=>decide (kv.1=k))=ws.any fun kv=>decide (kv.1=k):=by
 induction r with
 | nil=>rfl
 | cons h t ih=>rw[List.any_cons,List.any_cons,ih,h.1]
theorem KR.len {kvs:List (Ky×D)}{ws:List (Key×V)}(r:KR K ι H kvs ws):kvs.length=ws.length:=Paired.length r
theorem KR.repl {kvs:List (Ky×D)}{ws:List (Key×V)}(r:KR K ι H kvs ws)(k:Ky){d:D}{v:V}(q:Rep K ι H d v) :
  KR K ι H (kvs.map fun kv=>if kv.1=k then (kv.1,d) else kv) (ws.map fun kv=>if kv.1=k then (kv.1,v) else kv):=by
 induction r with
 | nil=>exact .nil
 | cons h t ih =>
  rename_i a b l1 l2;rw[List.map_cons,List.map_cons];refine .cons ?_ ih;by_cases e:a.1=k
  ·rw[if_pos e,if_pos (h.1 ▸ e)];exact⟨h.1,q⟩
  ·rw[if_neg e,if_neg (fun z=>e (h.1.trans z))];exact h
theorem KR.put {kvs:List (Ky×D)}{ws:List (Key×V)}(r:KR K ι H kvs ws)(k:Ky){d:D}{v:V}(q:Rep K ι H d v):KR K ι H (kvPut kvs k d) (putK ws k v):=by
 unfold kvPut putK;rw[r.anyk k];split
 ·exact r.repl k q
 ·exact Paired.snoc r ⟨rfl,q⟩
theorem key_rep {d:D}{v:V}{k:Ky}(r:Rep K ι H d v)(h:kyD d=some k):v=kV k:=by
 cases r <;> simp[kyD]at h <;> subst h <;> rfl
theorem seq_of {d:D}{v:V}{ds:List D}(S:Sim K ι M H)(r:Rep K ι H d v)(h:itemsD d M=some (.ok ds,M')):M'=M/\∃ a vs,v=.ref a/\(SqL K H a vs\/SqT K H a vs)/\Reps K ι H ds vs:=by
 cases r with
 | tup t q=>have h0:=pure_ok h;clear h;obtain⟨rfl,rfl⟩:=h0;exact⟨rfl,_,_,rfl,.inr (sqt t),q⟩
 | fl t q=>have h0:=pure_ok h;clear h;obtain⟨rfl,rfl⟩:=h0;exact⟨rfl,_,_,rfl,.inl t.seq,q⟩
 | ob t =>
  have h0:=getL_ok h;clear h;obtain⟨e,rfl⟩:=h0;obtain⟨a,vs,h1,_,h3,h4⟩:=sim_list S (.ob t) e;exact⟨rfl,a,vs,h1,.inl (SqL.of h3),h4⟩
 | _=>exact(stop_ok h).elim
theorem reps_at {ds:List D}{vs:List V}{i:Int}{d:D}(r:Reps K ι H ds vs)(h:atD ds i=some d):∃ v,atI vs i=some v/\Rep K ι H d v:=by
 unfold atD at h;unfold atI;have e:ixN vs.length i=ixD ds.length i:=by rw[r.length];rfl
 rw[e];cases q:ixD ds.length i with
 | none=>rw[q]at h;cases h
 | some j =>
  rw[q]at h;exact r.get h
end
section
variable {X:Cx}{pins:List (Addr×Obj)}{σ:St}{H:Hp}{s:Shared}{ι:List Addr}{M:MH}
theorem eqL_some {f:D->D->Option Bool}:∀ {xs ys:List D} {b:Bool},eqL f xs ys=some b->(∀ (j:Nat) (x y:D),xs[j]?=some x->ys[j]?=some y->∃ c,f x y=some c) /\
  b=((List.range (min xs.length ys.length)).all (fun j=>(f (xs.getD j .non) (ys.getD j .non)).getD false)&&xs.length==ys.length)
 | [],[],b,h=>by
  simp only[eqL,Option.some.injEq]at h;subst h;exact⟨fun j x y h=>by simp at h,rfl⟩
 | [],_::_,b,h=>by
  simp only[eqL,Option.some.injEq]at h;subst h;exact⟨fun j x y h=>by simp at h,by simp⟩
 | _::_,[],b,h=>by
  simp only[eqL,Option.some.injEq]at h;subst h;exact⟨fun j x y _ h=>by simp at h,by simp⟩
 | x::xs,y::ys,b,h=>by
  unfold eqL at h;cases e1:f x y with
  | none=>rw[e1]at h;cases h
  | some c =>
   rw[e1]at h;cases e2:eqL f xs ys with
   | none=>rw[e2]at h;cases h
   | some c2 =>
    rw[e2]at h;cases h;obtain⟨i1,i2⟩:=eqL_some e2;refine⟨fun j x' y' h1 h2=>?_,?_⟩
    ·cases j with
     | zero=>simp at h1 h2;subst h1 h2;exact⟨c,e1⟩
     | succ j=>exact i1 j x' y' (by simpa using h1) (by simpa using h2)
    ·rw[i2,List.length_cons,List.length_cons,Nat.add_min_add_right,List.range_succ_eq_map,List.all_cons,List.all_map]
     simp only[List.getD_cons_zero,e1,Option.getD_some];have e3:(xs.length + 1==ys.length + 1)=(xs.length==ys.length):=by
      rw[Bool.eq_iff_iff];simp
     rw[e3,Bool.and_assoc];rfl
theorem same_true (I:Inv X pins σ H s)(S:Sim X.K ι M H):∀ (n:Nat) {d d':D} {v:V} {b:Bool},Rep X.K ι H d v->Rep X.K ι H d' v->eqO M n d d'=some b->b=true
 | 0,_,_,_,_,_,_,h=>by cases h
 | n + 1,d,d',v,b,r,r',h=>by
  have lst:∀ {ds ds':List D} {vs:List V} {b:Bool},Reps X.K ι H ds vs->Reps X.K ι H ds' vs->eqL (eqO M n) ds ds'=some b->b=true:=by
   intro ds;induction ds with
   | nil =>
    intro ds' vs b h1 h2 h3;cases h1;cases h2;cases h3;rfl
   | cons x xs ih =>
    intro ds' vs b h1 h2 h3;cases h1 with
    | cons r1 t1 =>
     cases h2 with
     | cons r2 t2 =>
      rename_i y ys;unfold eqL at h3;cases e1:eqO M n x y with
      | none=>rw[e1]at h3;cases h3
      | some c =>
       rw[e1]at h3;cases e2:eqL (eqO M n) xs ys with
       | none=>rw[e2]at h3;cases h3
       | some c2 =>
        rw[e2]at h3;cases h3;rw[same_true I S n r1 r2 e1,ih t1 t2 e2];rfl
  cases r with
  | non=>cases r' with | non=>cases h;rfl
  | bl a=>cases r' with | bl=>cases h;simp[eqF]
  | int a=>cases r' with | int=>cases h;simp[eqF]
  | str a=>cases r' with | str=>cases h;simp[eqF]
  | tup t q =>
   cases r' with
   | tup t' q' =>
    have:=I.tuple_inj (sqt t) (sqt t')
    subst this;exact lst q q' h
   | fl t' q'=>cases h
   | ob t'=>cases h
  | fl t q =>
   cases r' with
   | tup t' q'=>cases h
   | fl t' q'=>cases h
   | ob t'=>cases h
  | ob t =>
   rename_i i a;cases r' with
   | tup t' q'=>cases h
   | fl t' q'=>cases h
   | ob t' =>
    rename_i j
    have:=S.inj i j a t t'
    subst this;unfold eqO at h;dsimp only at h;split at h
    ·rename_i xs ys h1 h2
     rw[h1]at h2;cases h2;rw[if_pos rfl]at h;obtain⟨vs,_,q⟩:=S.obj i a _ t h1;exact lst q q h
    ·cases h
theorem items_at {A:Around}{n:Nat}(ih:∀ {dx dy:D} {vx vy:V} {u v:Value} {b:Bool},Rep X.K ι H dx vx->Rep X.K ι H dy vy->RelV vx u->RelV vy v->eqO M n dx dy=some b->SeqAt.EqAt A s u v b)
  {xs ys:List D} {vs ws:List V} {its its2:List Value} {b:Bool} (r1:Reps X.K ι H xs vs) (r2:Reps X.K ι H ys ws) (q1:Vals vs its) (q2:Vals ws its2) (h:eqL (eqO M n) xs ys=some b) :
  ∃ e:Nat->Bool,(∀ j (h1:j < its.toArray.size) (h2:j < its2.toArray.size),SeqAt.EqAt A s its.toArray[j] its2.toArray[j] (e j))/\b=((List.range (min its.toArray.size its2.toArray.size)).all e&&its.toArray.size==its2.toArray.size):=by
 obtain⟨h1,h2⟩:=eqL_some h;have l1:xs.length=its.toArray.size:=by rw[r1.length,q1.length];simp
 have l2:ys.length=its2.toArray.size:=by rw[r2.length,q2.length];simp
 refine⟨fun j=>(eqO M n (xs.getD j .non) (ys.getD j .non)).getD false,fun j g1 g2=>?_,by rw[<- l1,<- l2];exact h2⟩;have j1:j < xs.length:=by rw[l1];exact g1
 have j2:j < ys.length:=by rw[l2];exact g2
 obtain⟨c,hc⟩:=h1 j _ _ (List.getElem?_eq_getElem j1) (List.getElem?_eq_getElem j2);obtain⟨v1,e1,p1⟩:=r1.get (List.getElem?_eq_getElem j1);obtain⟨v2,e2,p2⟩:=r2.get (List.getElem?_eq_getElem j2);obtain⟨u1,f1,g1'⟩:=q1.get e1;obtain⟨u2,f2,g2'⟩:=q2.get e2;have k1:its.toArray[j]=u1:=by
  have:=(List.getElem?_eq_some_iff.mp f1).2
  simpa using this
 have k2:its2.toArray[j]=u2:=by
  have:=(List.getElem?_eq_some_iff.mp f2).2
  simpa using this
 rw[k1,k2];have k3:(eqO M n (xs.getD j .non) (ys.getD j .non)).getD false=c:=by
  rw[List.getD_eq_getElem?_getD,List.getD_eq_getElem?_getD,List.getElem?_eq_getElem j1,List.getElem?_eq_getElem j2];simp only[Option.getD_some];rw[hc];rfl
 show SeqAt.EqAt A s u1 u2 ((eqO M n (xs.getD j .non) (ys.getD j .non)).getD false);rw[k3];exact ih p1 p2 g1' g2' hc
theorem len_ne {its its2:List Value}(h:its.length≠its2.length):(its.toArray.size != its2.toArray.size)=true:=by simpa using h
theorem rc_tup (I:Inv X pins σ H s){A:Around}(hu:A.units < cLine){n:Nat}(ih:∀ {dx dy:D} {vx vy:V} {u v:Value} {b:Bool},Rep X.K ι H dx vx->Rep X.K ι H dy vy->RelV vx u->RelV vy v->eqO M n dx dy=some b->SeqAt.EqAt A.in1 s u v b)
  {xs ys:List D} {vs ws:List V} {a c:Addr} {b:Bool} (t1:SqT X.K H a vs) (t2:SqT X.K H c ws) (r1:Reps X.K ι H xs vs) (r2:Reps X.K ι H ys ws) (h:eqL (eqO M n) xs ys=some b):SeqAt.RcAt A s (.ref a) (.ref c) b/\SeqAt.RcNeAt A s (.ref a) (.ref c) (!b):=by
 obtain⟨its,q1,p1,_⟩:=I.tuple t1;obtain⟨its2,q2,p2,_⟩:=I.tuple t2;obtain⟨e,he,rfl⟩:=items_at ih r1 r2 q1 q2 h;exact⟨SeqAt.RcAt.tuples p1 p2 hu he,SeqAt.RcNeAt.tuples p1 p2 hu he⟩
theorem rc_lst (I:Inv X pins σ H s){A:Around}(hu:A.units < cLine){n:Nat}(ih:∀ {dx dy:D} {vx vy:V} {u v:Value} {b:Bool},Rep X.K ι H dx vx->Rep X.K ι H dy vy->RelV vx u->RelV vy v->eqO M n dx dy=some b->SeqAt.EqAt A.in1 s u v b)
  {xs ys:List D} {vs ws:List V} {a c:Addr} {b:Bool} (t1:SqL X.K H a vs) (t2:SqL X.K H c ws) (r1:Reps X.K ι H xs vs) (r2:Reps X.K ι H ys ws) (h:(if xs.length=ys.length then eqL (eqO M n) xs ys else some false)=some b):SeqAt.RcAt A s (.ref a) (.ref c) b/\SeqAt.RcNeAt A s (.ref a) (.ref c) (!b):=by
 obtain⟨its,q1,p1,_⟩:=I.list t1;obtain⟨its2,q2,p2,_⟩:=I.list t2;have l1:xs.length=its.length:=by rw[r1.length,q1.length]
 have l2:ys.length=its2.length:=by rw[r2.length,q2.length]
 split at h
 ·rename_i hl
  obtain⟨e,he,rfl⟩:=items_at ih r1 r2 q1 q2 h;have hs:its.toArray.size=its2.toArray.size:=by simp;omega
  have e1:((List.range (min its.toArray.size its2.toArray.size)).all e&&its.toArray.size==its2.toArray.size)=(List.range its.toArray.size).all e:=by
   rw[hs,Nat.min_self];simp
  rw[e1];exact⟨SeqAt.RcAt.lists p1.isList p2.isList hs hu he,SeqAt.RcNeAt.lists p1.isList p2.isList hs hu he⟩
 ·rename_i hl
  cases h;exact⟨SeqAt.RcAt.lists_lengths p1.isList p2.isList (len_ne (by first | lia | omega)) hu,SeqAt.RcNeAt.lists_lengths p1.isList p2.isList (len_ne (by first | lia | omega)) hu⟩
theorem rc_flat {A:Around}{dx dy:D}{vx vy:V}{u v:Value}(r1:Rep X.K ι H dx vx)(r2:Rep X.K ι H dy vy)(g1:RelV vx u)(g2:RelV vy v)(f1:flatD dx=true)(f2:flatD dy=true):SeqAt.RcAt A s u v (eqF dx dy)/\SeqAt.RcNeAt A s u v (!eqF dx dy):=by
 cases r1 with
 | non =>
  cases g1;cases r2 with
  | non=>cases g2;exact⟨SeqAt.RcAt.none_none,SeqAt.RcNeAt.none_none⟩
  | bl b=>cases g2;exact⟨SeqAt.RcAt.none_bool b,SeqAt.RcNeAt.none_bool b⟩
  | int b=>obtain⟨t,rfl⟩:=g2;exact⟨SeqAt.RcAt.none_int b t,SeqAt.RcNeAt.none_int b t⟩
  | str b=>obtain⟨t,rfl⟩:=g2;exact⟨SeqAt.RcAt.none_str b t,SeqAt.RcNeAt.none_str b t⟩
  | _=>exact absurd f2 Bool.false_ne_true
 | bl a =>
  cases g1;cases r2 with
  | non=>cases g2;exact⟨SeqAt.RcAt.bool_none a,SeqAt.RcNeAt.bool_none a⟩
  | bl b=>cases g2;exact⟨SeqAt.RcAt.bool_bool a b,SeqAt.RcNeAt.bool_bool a b⟩
  | int b=>obtain⟨t,rfl⟩:=g2;exact⟨SeqAt.RcAt.bool_int a b t,SeqAt.RcNeAt.bool_int a b t⟩
  | str b=>obtain⟨t,rfl⟩:=g2;exact⟨SeqAt.RcAt.bool_str a b t,SeqAt.RcNeAt.bool_str a b t⟩
  | _=>exact absurd f2 Bool.false_ne_true
 | int a =>
  obtain⟨t',rfl⟩:=g1;cases r2 with
  | non=>cases g2;exact⟨SeqAt.RcAt.int_none a t',SeqAt.RcNeAt.int_none a t'⟩
  | bl b=>cases g2;exact⟨SeqAt.RcAt.int_bool a t' b,SeqAt.RcNeAt.int_bool a t' b⟩
  | int b=>obtain⟨t,rfl⟩:=g2;exact⟨SeqAt.RcAt.int_int a t' b t,SeqAt.RcNeAt.int_int a t' b t⟩
  | str b=>obtain⟨t,rfl⟩:=g2;exact⟨SeqAt.RcAt.int_str a t' b t,SeqAt.RcNeAt.int_str a t' b t⟩
  | _=>exact absurd f2 Bool.false_ne_true
 | str a =>
  obtain⟨t',rfl⟩:=g1;cases r2 with
  | non=>cases g2;exact⟨SeqAt.RcAt.str_none a t',SeqAt.RcNeAt.str_none a t'⟩
  | bl b=>cases g2;exact⟨SeqAt.RcAt.str_bool a t' b,SeqAt.RcNeAt.str_bool a t' b⟩
  | int b=>obtain⟨t,rfl⟩:=g2;exact⟨SeqAt.RcAt.str_int a t' b t,SeqAt.RcNeAt.str_int a t' b t⟩
  | str b=>obtain⟨t,rfl⟩:=g2;exact⟨SeqAt.RcAt.str_str a t' b t,SeqAt.RcNeAt.str_str a t' b t⟩
  | _=>exact absurd f2 Bool.false_ne_true
 | _=>exact absurd f1 Bool.false_ne_true
theorem at_tup_flat (I:Inv X pins σ H s){A:Around}(hu:A.units < cLine){dy:D}{vs:List V}{a:Addr}{vy:V}{v:Value}(t1:SqT X.K H a vs)(r2:Rep X.K ι H dy vy)(g2:RelV vy v)(f2:flatD dy=true) :
  (SeqAt.RcAt A s (.ref a) v false/\SeqAt.RcNeAt A s (.ref a) v true/\SeqAt.EqAt A s (.ref a) v false)/\(SeqAt.RcAt A s v (.ref a) false/\SeqAt.RcNeAt A s v (.ref a) true/\SeqAt.EqAt A s v (.ref a) false):=by
 obtain⟨its,q1,p1,_⟩:=I.tuple t1;cases r2 with
 | non=>cases g2;exact⟨⟨.tuple_none p1 hu,.tuple_none p1 hu,.tuple_none p1 hu⟩,⟨.none_tuple p1 hu,.none_tuple p1 hu,.none_tuple p1 hu⟩⟩
 | bl b=>cases g2;exact⟨⟨.tuple_bool b p1 hu,.tuple_bool b p1 hu,.tuple_bool b p1 hu⟩,⟨.bool_tuple b p1 hu,.bool_tuple b p1 hu,.bool_tuple b p1 hu⟩⟩
 | int b=>obtain⟨t,rfl⟩:=g2;exact⟨⟨.tuple_int b t p1 hu,.tuple_int b t p1 hu,.tuple_int b t p1 hu⟩,⟨.int_tuple b t p1 hu,.int_tuple b t p1 hu,.int_tuple b t p1 hu⟩⟩
 | str b=>obtain⟨t,rfl⟩:=g2;exact⟨⟨.tuple_str b t p1 hu,.tuple_str b t p1 hu,.tuple_str b t p1 hu⟩,⟨.str_tuple b t p1 hu,.str_tuple b t p1 hu,.str_tuple b t p1 hu⟩⟩
 | _=>exact absurd f2 Bool.false_ne_true
theorem eq_all (I:Inv X pins σ H s)(S:Sim X.K ι M H):∀ (n:Nat) {A:Around} {dx dy:D} {vx vy:V} {u v:Value} {b:Bool},A.units + n < cLine->Rep X.K ι H dx vx->Rep X.K ι H dy vy->RelV vx u->RelV vy v->eqO M n dx dy=some b ->
  SeqAt.RcAt A s u v b/\SeqAt.RcNeAt A s u v (!b)/\SeqAt.EqAt A s u v b
 | 0,_,_,_,_,_,_,_,_,_,_,_,_,_,h=>by cases h
 | n + 1,A,dx,dy,vx,vy,u,v,b,hA,r1,r2,g1,g2,h=>by
  have hu:A.units < cLine:=by first | lia | omega
  have ih:∀ {dx dy:D} {vx vy:V} {u v:Value} {b:Bool},Rep X.K ι H dx vx->Rep X.K ι H dy vy->RelV vx u->RelV vy v->eqO M n dx dy=some b->SeqAt.EqAt A.in1 s u v b :=
   fun r1 r2 g1 g2 h=>(eq_all I S n (A:=A.in1) (by show A.units + 1 + n < cLine;omega) r1 r2 g1 g2 h).2.2
  have refs:∀ {a c:Addr},vx=.ref a->vy=.ref c->SeqAt.RcAt A s (.ref a) (.ref c) b->SeqAt.EqAt A s (.ref a) (.ref c) b:=fun {a c} e1 e2 hr=>by
   by_cases hac:a=c
   ·subst hac
    subst e1;subst e2;rw[same_true I S (n + 1) r1 r2 h];exact SeqAt.EqAt.same _
   ·exact SeqAt.EqAt.of_refs hac hr
  by_cases hf:flatD dx=true/\flatD dy=true
  ·have hb:eqO M (n + 1) dx dy=some (eqF dx dy):=by
    cases dx <;> cases dy <;> first | exact absurd hf.1 Bool.false_ne_true | exact absurd hf.2 Bool.false_ne_true | rfl
   rw[hb]at h;cases h;obtain⟨q1,q2⟩:=rc_flat (X:=X) (H:=H) (s:=s) (ι:=ι) (A:=A) r1 r2 g1 g2 hf.1 hf.2;refine⟨q1,q2,?_⟩;rw[<- eq_rep r1 r2 hf.1 hf.2];exact eqAt_V g1 g2 (flat_rep r1 hf.1) (flat_rep r2 hf.2)
  ·cases r1 with
   | tup t q =>
    cases g1;cases r2 with
    | tup t' q' =>
     cases g2;obtain⟨h1,h2⟩:=rc_tup I hu ih (sqt t) (sqt t') q q' h;exact⟨h1,h2,refs rfl rfl h1⟩
    | fl t' q'=>cases h
    | ob t'=>cases h
    | non=>cases h;obtain⟨⟨h1,h2,h3⟩,_⟩:=at_tup_flat (ι:=ι) I hu (sqt t) .non g2 rfl;exact⟨h1,h2,h3⟩
    | bl b=>cases h;obtain⟨⟨h1,h2,h3⟩,_⟩:=at_tup_flat (ι:=ι) I hu (sqt t) (.bl b) g2 rfl;exact⟨h1,h2,h3⟩
    | int b=>cases h;obtain⟨⟨h1,h2,h3⟩,_⟩:=at_tup_flat (ι:=ι) I hu (sqt t) (.int b) g2 rfl;exact⟨h1,h2,h3⟩
    | str b=>cases h;obtain⟨⟨h1,h2,h3⟩,_⟩:=at_tup_flat (ι:=ι) I hu (sqt t) (.str b) g2 rfl;exact⟨h1,h2,h3⟩
   | ob t =>
    cases g1;cases r2 with
    | ob t' =>
     cases g2;unfold eqO at h;dsimp only at h;split at h
     ·rename_i i a j c xs ys h1 h2
      obtain⟨vs,e1,q1⟩:=S.obj _ _ _ t h1;obtain⟨ws,e2,q2⟩:=S.obj _ _ _ t' h2;obtain⟨k1,k2⟩:=rc_lst I hu ih (SqL.of e1) (SqL.of e2) q1 q2 h;refine⟨k1,k2,refs rfl rfl k1⟩
     ·cases h
    | tup t' q'=>cases h
    | _=>cases h
   | fl t q=>cases r2 <;> cases h
   | non =>
    cases r2 with
    | tup t' q'=>cases h;cases g2;obtain⟨_,h1,h2,h3⟩:=at_tup_flat (ι:=ι) I hu (sqt t') .non g1 rfl;exact⟨h1,h2,h3⟩
    | fl t' q'=>cases h
    | ob t'=>cases h
    | _=>exact absurd ⟨rfl,rfl⟩ hf
   | bl x =>
    cases r2 with
    | tup t' q'=>cases h;cases g2;obtain⟨_,h1,h2,h3⟩:=at_tup_flat (ι:=ι) I hu (sqt t') (.bl x) g1 rfl;exact⟨h1,h2,h3⟩
    | fl t' q'=>cases h
    | ob t'=>cases h
    | _=>exact absurd ⟨rfl,rfl⟩ hf
   | int x =>
    cases r2 with
    | tup t' q'=>cases h;cases g2;obtain⟨_,h1,h2,h3⟩:=at_tup_flat (ι:=ι) I hu (sqt t') (.int x) g1 rfl;exact⟨h1,h2,h3⟩
    | fl t' q'=>cases h
    | ob t'=>cases h
    | _=>exact absurd ⟨rfl,rfl⟩ hf
   | str x =>
    cases r2 with
    | tup t' q'=>cases h;cases g2;obtain⟨_,h1,h2,h3⟩:=at_tup_flat (ι:=ι) I hu (sqt t') (.str x) g1 rfl;exact⟨h1,h2,h3⟩
    | fl t' q'=>cases h
    | ob t'=>cases h
    | _=>exact absurd ⟨rfl,rfl⟩ hf
open Classical in
theorem in_all (I:Inv X pins σ H s)(S:Sim X.K ι M H){A:Around}(hu:A.units + 9 < cLine){x:D}{vx:V}{v:Value}(rx:Rep X.K ι H x vx)(gx:RelV vx v):∀ {ds:List D} {vs:List V} {its:List Value} {b:Bool},Reps X.K ι H ds vs->Vals vs its->inL M x ds=some b ->
  ∃ ans:List Bool,ans.length=its.length/\(∀ (j:Nat) (u:Value) (c:Bool),its[j]?=some u->ans[j]?=some c->SeqAt.EqAt A.in1 s u v c)/\b=ans.any id
 | _,_,_,b,.nil,.nil,h=>by cases h;exact⟨[],rfl,fun j u c h=>by simp at h,rfl⟩
 | d::ds,_,_,b,.cons r t,.cons q k,h=>by
  unfold inL at h;cases e1:eqO M 8 d x with
  | none=>rw[e1]at h;cases h
  | some c =>
   rw[e1]at h;cases e2:inL M x ds with
   | none=>rw[e2]at h;cases h
   | some c2 =>
    rw[e2]at h;cases h;obtain⟨ans,a1,a2,a3⟩:=in_all I S hu rx gx t k e2;refine⟨c::ans,by rw[List.length_cons,List.length_cons,a1],fun j u c' h1 h2=>?_,by rw[a3];rfl⟩;cases j with
    | zero =>
     simp at h1 h2;subst h1 h2;exact(eq_all I S 8 (A:=A.in1) (by show A.units + 1 + 8 < cLine;omega) r rx q gx e1).2.2
    | succ j=>exact a2 j u c' (by simpa using h1) (by simpa using h2)
open Classical in
theorem in_fun {A:Around}{its:List Value}{ans:List Bool}{v:Value}(hl:ans.length=its.length)(h:∀ (j:Nat) (u:Value) (c:Bool),its[j]?=some u->ans[j]?=some c->SeqAt.EqAt A s u v c) :
  ∃ e:Value->Bool,(∀ y,y∈its.toArray->SeqAt.EqAt A s y v (e y))/\its.toArray.any e=ans.any id:=by
 refine⟨fun y=>decide (∃ j:Nat,its[j]?=some y/\ans[j]?=some true),fun y hy=>?_,?_⟩
 ·by_cases hex:∃ j:Nat,its[j]?=some y/\ans[j]?=some true
  ·dsimp only
   rw[decide_eq_true hex];obtain⟨j,h1,h2⟩:=hex;exact h j y true h1 h2
  ·dsimp only
   rw[decide_eq_false hex];have hy':y∈its:=by simpa using hy
   obtain⟨j,hj⟩:=List.mem_iff_getElem?.mp hy';have hj2:j < ans.length:=by rw[hl];exact(List.getElem?_eq_some_iff.mp hj).1
   have e:=List.getElem?_eq_getElem hj2;cases hb:ans[j] with
   | true=>rw[hb]at e;exact absurd ⟨j,hj,e⟩ hex
   | false=>rw[hb]at e;exact h j y false hj e
 ·rw[Bool.eq_iff_iff,Array.any_eq_true]
  simp only[decide_eq_true_eq,List.any_eq_true,id];constructor
  ·rintro ⟨i,hi,j,h1,h2⟩
   exact⟨true,List.mem_of_getElem? h2,rfl⟩
  ·rintro ⟨c,hc,rfl⟩
   obtain⟨j,hj⟩:=List.mem_iff_getElem?.mp hc;have hj2:j < its.length:=by rw[<- hl];exact(List.getElem?_eq_some_iff.mp hj).1
   exact⟨j,by simpa using hj2,j,by simp[hj2],hj⟩
end
section
variable {X:Cx}
noncomputable def gCmp (op:CmpOp)(x y:D):Mo D:=do let k <- cmpD op x y;pure (.bl k)
theorem inMo_ok {x:D}{ds:List D}{M M':MH}{b:Bool}(h:inMo x ds M=some (.ok b,M')):inL M x ds=some b/\M'=M:=by
 unfold inMo at h;cases e:inL M x ds with
 | none=>rw[e]at h;cases h
 | some c=>rw[e]at h;cases h;exact⟨rfl,rfl⟩
theorem eqMo_ok {x y:D}{M M':MH}{b:Bool}(h:eqMo x y M=some (.ok b,M')):eqO M 20 x y=some b/\M'=M:=by
 unfold eqMo at h;cases e:eqO M 20 x y with
 | none=>rw[e]at h;cases h
 | some c=>rw[e]at h;cases h;exact⟨rfl,rfl⟩
theorem inD_M {x y:D}{M M':MH}{b:Bool}(h:inD x y M=some (.ok b,M')):M'=M:=by
 unfold inD at h;split at h
 ·split at h
  ·exact(pure_ok h).2
  ·exact(stop_ok h).elim
 ·exact(inMo_ok h).2
 ·exact(inMo_ok h).2
 ·have h0:=bind_ok h;clear h;obtain⟨o,M1,e,h2⟩:=h0
  have hM:=(getM_ok e).2;cases o with
  | lst ds=>rw[(inMo_ok h2).2,hM]
  | dic kvs =>
   have h20:=bind_ok h2;clear h2;obtain⟨_,_,e3,h3⟩:=h20;rw[(pure_ok h3).2,(lift_ok e3).2,hM]
  | dtt kvs=>exact(stop_ok h2).elim
 ·exact(stop_ok h).elim
theorem in_ok (hu:X.A.units + 100 < cLine)(neg:Bool){pins:List (Addr×Obj)}{s:Shared}{σ:St}{H:Hp}{x y:V}{v u:Value}{Q:VK}(I:Inv X pins σ H s)(rx:RelV x v)(ry:RelV y u){ι:List Addr}{M M':MH}{dx dy:D}{b:Bool}
  (S:Sim X.K ι M H) (r1:Rep X.K ι H dx x) (r2:Rep X.K ι H dy y) (e:inD dx dy M=some (.ok b,M')) (q:Q (.bl (if neg then !b else b)) H) :
  wpAny (model X.prog X.w) X.A (compareOp (if neg then .NotIn else .In) v u) (EP X pins σ Q) X.xe s:=by
 have seq:∀ {a:Addr} {vs:List V} {ds:List D},y=.ref a->(SqL X.K H a vs\/SqT X.K H a vs)->Reps X.K ι H ds vs->inL M dx ds=some b ->
   wpAny (model X.prog X.w) X.A (compareOp (if neg then .NotIn else .In) v u) (EP X pins σ Q) X.xe s:=fun {a vs ds} ey hs hr hb=>by
  subst ey;cases ry;rcases hs with hs | hs
  ·obtain⟨its,q1,p1,_⟩:=I.list hs
   obtain⟨ans,a1,a2,rfl⟩:=in_all I S (A:=X.A) (by first | lia | omega) r1 rx hr q1 hb
   obtain⟨e,e1,e2⟩:=in_fun a1 a2;cases neg with
   | false=>exact SeqAt.in_listAt e p1.isList e1 ⟨.bl _,H,I,rfl,by rw[e2];exact q⟩
   | true=>exact SeqAt.notIn_listAt e p1.isList e1 ⟨.bl _,H,I,rfl,by rw[e2];exact q⟩
  ·obtain⟨its,q1,p1,_⟩:=I.tuple hs
   obtain⟨ans,a1,a2,rfl⟩:=in_all I S (A:=X.A) (by first | lia | omega) r1 rx hr q1 hb
   obtain⟨e,e1,e2⟩:=in_fun a1 a2;cases neg with
   | false=>exact SeqAt.in_tupleAt e p1 e1 ⟨.bl _,H,I,rfl,by rw[e2];exact q⟩
   | true=>exact SeqAt.notIn_tupleAt e p1 e1 ⟨.bl _,H,I,rfl,by rw[e2];exact q⟩
 cases r2 with
 | str j =>
  cases r1 with
  | str i =>
   have e0:=pure_ok e;clear e;obtain⟨rfl,rfl⟩:=e0;cases neg with
   | false=>exact op_in_str pins s σ H _ _ v u Q I rx ry ⟨i,j,rfl,rfl,q⟩
   | true=>exact op_notin_str pins s σ H _ _ v u Q I rx ry ⟨i,j,rfl,rfl,q⟩
  | _=>exact(stop_ok e).elim
 | tup t r=>exact seq rfl (.inr (sqt t)) r (inMo_ok e).1
 | fl t r=>exact seq rfl (.inl t.seq) r (inMo_ok e).1
 | ob t =>
  have e0:=bind_ok e;clear e;obtain⟨o,M1,e1,e⟩:=e0;have e10:=getM_ok e1;clear e1;obtain⟨g,rfl⟩:=e10;cases o with
  | lst ds =>
   obtain⟨a,vs,h1,_,h3,h4⟩:=sim_list S (.ob t) g;exact seq h1 (.inl (SqL.of h3)) h4 (inMo_ok e).1
  | dtt kvs=>exact(stop_ok e).elim
  | dic kvs =>
   obtain⟨a,ws,h1,_,h3,h4⟩:=sim_dict S (.ob t) g;have e0:=bind_ok e;clear e;obtain⟨k,_,e5,e6⟩:=e0;have e50:=lift_ok e5;clear e5;obtain⟨hk,hM⟩:=e50;have e60:=pure_ok e6;clear e6;obtain⟨rfl,_⟩:=e60;have hx:=key_rep r1 hk;subst hx;cases h1;obtain rfl:u=Value.ref _:=ry;have hs:(valV ws k).isSome=(kvGet kvs k).isSome:=by
    rcases h4.find k with ⟨z1,z2⟩|⟨_,_,z1,z2,_⟩ <;> rw[z1,z2]
    ·rfl
    ·rfl
   rw[<- hs]at q;cases neg with
   | false=>exact d_in (by first | lia | omega) I (DGet.k (k:=k) h3) rx fun s3 I3=>⟨.bl _,H,I3,rfl,q⟩
   | true=>exact d_notIn (by first | lia | omega) I (DGet.k (k:=k) h3) rx fun s3 I3=>⟨.bl _,H,I3,rfl,q⟩
 | _=>exact(stop_ok e).elim
theorem op_cmp (hu:X.A.units + 100 < cLine)(op:CmpOp):OpR X (compareOp op) (R2S X.K (gCmp op)):=by
 intro pins s σ H x y v u Q I rx ry h;obtain⟨ι,M,M',dx,dy,d,S,r1,r2,e,k⟩:=h;have e0:=bind_ok e;clear e;obtain⟨b,M1,e1,e2⟩:=e0;have e20:=pure_ok e2;clear e2;obtain⟨rfl,rfl⟩:=e20;have fin:M'=M->Q (.bl b) H:=fun z=>by subst z;exact k (.bl b) H ι (.bl b) S Ext.refl
 cases op with
 | Eq =>
  have e10:=eqMo_ok e1;clear e1;obtain⟨hs,rfl⟩:=e10;exact(eq_all I S 20 (A:=X.A) (by first | lia | omega) r1 r2 rx ry hs).1 X.prog X.w X.xe _ ⟨.bl b,H,I,rfl,fin rfl⟩
 | NotEq =>
  have e10:=bind_ok e1;clear e1;obtain⟨c,_,e3,e4⟩:=e10;have e30:=eqMo_ok e3;clear e3;obtain⟨hs,rfl⟩:=e30;have e40:=pure_ok e4;clear e4;obtain⟨rfl,rfl⟩:=e40;exact(eq_all I S 20 (A:=X.A) (by first | lia | omega) r1 r2 rx ry hs).2.1 X.prog X.w X.xe _ ⟨.bl (!c),H,I,rfl,fin rfl⟩
 | Lt =>
  have e10:=lift_ok e1;clear e1;obtain⟨e3,rfl⟩:=e10;cases r1 <;> cases r2 <;> simp only[ltD,Option.some.injEq,reduceCtorEq]at e3
  ·exact op_lt pins s σ H _ _ v u Q I rx ry ⟨_,_,rfl,rfl,by show Q (.bl (decide _)) H;rw[e3];exact fin rfl⟩
  ·exact op_lt_str pins s σ H _ _ v u Q I rx ry ⟨_,_,rfl,rfl,by rw[e3];exact fin rfl⟩
 | LtE =>
  have e10:=lift_ok e1;clear e1;obtain⟨e3,rfl⟩:=e10;cases r1 <;> cases r2 <;> simp only[leD,Option.some.injEq,reduceCtorEq]at e3
  ·exact op_le pins s σ H _ _ v u Q I rx ry ⟨_,_,rfl,rfl,by show Q (.bl (decide _)) H;rw[e3];exact fin rfl⟩
  ·obtain⟨t,rfl⟩:=rx
   obtain⟨t',rfl⟩:=ry;exact PySem.P.le_str (fin_bl I (fin rfl) e3.symm)
 | Gt =>
  cases r1 <;> cases r2 <;> first
   | exact(stop_ok e1).elim
   | (have e10:=pure_ok e1;clear e1;obtain⟨rfl,rfl⟩:=e10;exact op_gt pins s σ H _ _ v u Q I rx ry ⟨_,_,rfl,rfl,fin rfl⟩)
 | GtE =>
  cases r1 <;> cases r2 <;> first
   | exact(stop_ok e1).elim
   | (have e10:=pure_ok e1;clear e1;obtain⟨rfl,rfl⟩:=e10;exact op_ge pins s σ H _ _ v u Q I rx ry ⟨_,_,rfl,rfl,fin rfl⟩)
 | In=>exact in_ok hu false I rx ry S r1 r2 e1 (fin (inD_M e1))
 | NotIn =>
  have e10:=bind_ok e1;clear e1;obtain⟨b',M2,e3,e4⟩:=e10;have e40:=pure_ok e4;clear e4;obtain⟨rfl,rfl⟩:=e40;exact in_ok hu true I rx ry S r1 r2 e3 (fin (inD_M e3))
 | Is =>
  have e10:=bind_ok e1;clear e1;obtain⟨_,_,e3,e4⟩:=e10;have e30:=need_ok e3;clear e3;obtain⟨hs,rfl⟩:=e30;have e40:=pure_ok e4;clear e4;obtain⟨rfl,rfl⟩:=e40;cases r2 <;> simp[isN]at hs;refine op_isN pins s σ H _ _ v u Q I rx ry ⟨rfl,?_⟩
  have:decide (x=V.non)=isN dx:=by cases r1 <;> simp[isN]
  rw[this];exact fin rfl
 | IsNot =>
  have e10:=bind_ok e1;clear e1;obtain⟨_,_,e3,e4⟩:=e10;have e30:=need_ok e3;clear e3;obtain⟨hs,rfl⟩:=e30;have e40:=pure_ok e4;clear e4;obtain⟨rfl,rfl⟩:=e40;cases r2 <;> simp[isN]at hs;refine op_notN pins s σ H _ _ v u Q I rx ry ⟨rfl,?_⟩
  have:decide (x=V.non)=isN dx:=by cases r1 <;> simp[isN]
  rw[this];exact fin rfl
theorem cat_nil {pins:List (Addr×Obj)}{s:Shared}{σ:St}{H:Hp}{a b:Addr}{us:List V}{Q:Value->Shared->Prop}{E:Value->Shared->Prop}(I:Inv X pins σ H s)(t1:SqT X.K H a [])(t2:SqT X.K H b us)(q:Q (.ref b) s):wpAny (model X.prog X.w) X.A (binaryOp .Add (.ref a) (.ref b)) Q E s:=by
 obtain⟨its,q1,p1,_⟩:=I.tuple t1;obtain⟨its2,q2,p2,_⟩:=I.tuple t2;cases q1;obtain⟨⟨cls,dd,data,sl⟩,ho,hc,n,hd⟩:=id p1;obtain⟨⟨cls2,dd2,data2,sl2⟩,ho2,hc2,n2,hd2⟩:=id p2;simp only at hc hd hc2 hd2;subst hc hd hc2 hd2;exact concat_meets ⟨_,ho,rfl⟩ ⟨_,ho2,rfl⟩ noFill_tuple_add seq_tuple_add PySem.F.slot_tuple_add PySem.F.entry_tuple_add (PySem.F.args_tuple_add_2 _ _)
  (tuple_addW0 a b _ its2.toArray n n2 dd dd2 sl sl2 (by simp)) ⟨ho,ho2,q⟩
theorem mul_str {pins:List (Addr×Obj)}{s:Shared}{σ:St}{H:Hp}{x:Str}{j:Int}{t t':Tok}{Q:VK}(I:Inv X pins σ H s)(n1:2<=j)(n2:j < 1000)(n3:0 < x.length)(n4:x.length < 1000)(q:Q (.str (repS x j.toNat)) H) :
  wpAny (model X.prog X.w) X.A (binaryOp .Mult (.str x t) (.int j t')) (EP X pins σ Q) X.xe s:=by
 have hb:x.length * j.toNat < 1000000:=by
  have h1:x.length * j.toNat<=999 * j.toNat:=Nat.mul_le_mul_right _ (by first | lia | omega)
  first | lia | omega
 have e:PySem.Txt.mul x j=repS x j.toNat:=by
  unfold PySem.Txt.mul repS;rw[if_neg (by first | lia | omega),if_neg (by simp;omega)]
 have ok:PySem.MulOk x j:=by
  refine⟨by simp;omega,fun _ _=>?_,fun _ _=>?_⟩
  ·have:(1000:Int)<=(2 ^ 63 - 1:Int) / j:=Int.le_ediv_of_mul_le (by first | lia | omega) (by first | lia | omega)
   first | lia | omega
  ·unfold Builtin.Str.tooLong sizeLine
   exact decide_eq_false (by first | lia | omega)
 refine PySem.SB.mul ok fun t2 k2=>?_;rw[e];exact⟨.str _,H,I.tok _,⟨t2,rfl⟩,q⟩
theorem op_bin (op:Operator):OpR X (binaryOp op) (R2S X.K (opD op)):=by
 intro pins s σ H x y v u Q I rx ry h;obtain⟨ι,M,M',dx,dy,d,S,r1,r2,e,k⟩:=h;have fin:∀ {w':V},M'=M->Rep X.K ι H d w'->Q w' H:=fun {w'} z r=>by subst z;exact k w' H ι r S Ext.refl
 cases op
 case Add =>
  cases dx <;> first | exact(stop_ok e).elim | (cases dy <;> first | exact(stop_ok e).elim | skip)
  ·delta opD at e
   dsimp only at e;have e0:=pure_ok e;clear e;obtain⟨rfl,rfl⟩:=e0;cases r1;cases r2;exact op_add pins s σ H _ _ v u Q I rx ry ⟨_,_,rfl,rfl,fin rfl (.int _)⟩
  ·delta opD at e
   dsimp only at e;have e0:=bind_ok e;clear e;obtain⟨_,_,e1,e⟩:=e0;have e10:=need_ok e1;clear e1;obtain⟨hn,rfl⟩:=e10;have e0:=pure_ok e;clear e;obtain⟨rfl,rfl⟩:=e0;cases r1;cases r2;exact op_add_str pins s σ H _ _ v u Q I rx ry ⟨_,_,rfl,rfl,hn,fin rfl (.str _)⟩
  ·delta opD at e
   dsimp only at e;have e0:=bind_ok e;clear e;obtain⟨_,_,e1,e⟩:=e0;have e10:=need_ok e1;clear e1;obtain⟨hz,rfl⟩:=e10;have e0:=pure_ok e;clear e;obtain⟨rfl,rfl⟩:=e0;cases r1 with
   | tup t1 q1 =>
    cases r2 with
    | tup t2 q2 =>
     rename_i a vs b us;by_cases hn:vs=[]
     ·subst hn
      cases q1;cases rx;cases ry;exact cat_nil I (sqt t1) (sqt t2) ⟨.ref _,H,I,rfl,k _ H ι (.tup t2 q2) S Ext.refl⟩
     ·refine op_catT pins s σ H _ _ v u Q I rx ry ⟨_,_,_,_,rfl,rfl,sqt t1,sqt t2,hn,by rw[<- q1.length,<- q2.length];exact hz,fun z=>?_,fun z=>new_tup S (q1.append q2) k⟩
      subst z;cases q2;rw[List.append_nil]at k;exact k _ H ι (.tup t1 q1) S Ext.refl
  ·delta opD at e
   dsimp only at e;have e0:=bind_ok e;clear e;obtain⟨xs,_,e1,e⟩:=e0;have e10:=getL_ok e1;clear e1;obtain⟨g1,rfl⟩:=e10;have e0:=bind_ok e;clear e;obtain⟨ys,_,e1,e⟩:=e0;have e10:=getL_ok e1;clear e1;obtain⟨g2,rfl⟩:=e10;have e0:=bind_ok e;clear e;obtain⟨_,_,e1,e⟩:=e0;have e10:=need_ok e1;clear e1;obtain⟨hn,rfl⟩:=e10;obtain⟨a,vs,rfl,_,h3,h4⟩:=sim_list S r1 g1;obtain⟨b,us,rfl,_,h5,h6⟩:=sim_list S r2 g2;exact op_cat pins s σ H _ _ v u Q I rx ry ⟨a,b,vs,us,rfl,rfl,h3,h5,by rw[<- h4.length,<- h6.length];exact hn,new_list S (h4.append h6) e k⟩
 case Sub =>
  cases dx <;> first | exact(stop_ok e).elim | (cases dy <;> first | exact(stop_ok e).elim | skip)
  ·delta opD at e
   dsimp only at e;have e0:=pure_ok e;clear e;obtain⟨rfl,rfl⟩:=e0;cases r1;cases r2;exact op_sub pins s σ H _ _ v u Q I rx ry ⟨_,_,rfl,rfl,fin rfl (.int _)⟩
 case Mult =>
  cases dx <;> first | exact(stop_ok e).elim | (cases dy <;> first | exact(stop_ok e).elim | skip)
  ·delta opD at e
   dsimp only at e;have e0:=bind_ok e;clear e;obtain⟨_,_,e1,e⟩:=e0;have e10:=need_ok e1;clear e1;obtain⟨hn,rfl⟩:=e10;have e0:=pure_ok e;clear e;obtain⟨rfl,rfl⟩:=e0;cases r1;cases r2;exact op_mul pins s σ H _ _ v u Q I rx ry ⟨_,_,rfl,rfl,hn,fin rfl (.int _)⟩
  ·delta opD at e
   dsimp only at e;have e0:=bind_ok e;clear e;obtain⟨_,_,e1,e⟩:=e0;have e10:=need_ok e1;clear e1;obtain⟨⟨n1,n2,n3,n4⟩,rfl⟩:=e10;have e0:=pure_ok e;clear e;obtain⟨rfl,rfl⟩:=e0;cases r1;cases r2;obtain⟨t,rfl⟩:=rx;obtain⟨t',rfl⟩:=ry;exact mul_str I n1 n2 n3 n4 (fin rfl (.str _))
 case FloorDiv =>
  cases dx <;> first | exact(stop_ok e).elim | (cases dy <;> first | exact(stop_ok e).elim | skip)
  ·delta opD at e
   dsimp only at e;have e0:=bind_ok e;clear e;obtain⟨_,_,e1,e⟩:=e0;have e10:=need_ok e1;clear e1;obtain⟨hn,rfl⟩:=e10;have e0:=pure_ok e;clear e;obtain⟨rfl,rfl⟩:=e0;cases r1;cases r2;exact op_fdiv pins s σ H _ _ v u Q I rx ry ⟨_,_,rfl,rfl,hn,fin rfl (.int _)⟩
 case Mod =>
  cases dx <;> first | exact(stop_ok e).elim | (cases dy <;> first | exact(stop_ok e).elim | skip)
  ·delta opD at e
   dsimp only at e;have e0:=bind_ok e;clear e;obtain⟨_,_,e1,e⟩:=e0;have e10:=need_ok e1;clear e1;obtain⟨hn,rfl⟩:=e10;have e0:=pure_ok e;clear e;obtain⟨rfl,rfl⟩:=e0;cases r1;cases r2;exact op_mod pins s σ H _ _ v u Q I rx ry ⟨_,_,rfl,rfl,hn,fin rfl (.int _)⟩
 case Pow =>
  cases dx <;> first | exact(stop_ok e).elim | (cases dy <;> first | exact(stop_ok e).elim | skip)
  ·delta opD at e
   dsimp only at e;have e0:=bind_ok e;clear e;obtain⟨_,_,e1,e⟩:=e0;have e10:=need_ok e1;clear e1;obtain⟨hn,rfl⟩:=e10;have e0:=pure_ok e;clear e;obtain⟨rfl,rfl⟩:=e0;cases r1;cases r2;exact op_pow pins s σ H _ _ v u Q I rx ry ⟨_,_,rfl,rfl,hn,fin rfl (.int _)⟩
 all_goals exact(stop_ok e).elim
theorem ix_dict (hu:X.A.units + 100 < cLine):IxR X (fun x y H Q=>∃ a v,x=.ref a/\DGet H a y (some v)/\Q v H):=by
 intro value slice pins s σ H x y v u Q I rx ry h hs;obtain⟨a,w',rfl,g,q⟩:=h;obtain rfl:v=Value.ref a:=rx;exact tail_any (dict_typeIs I g) PySem.F.slot_dict_getitem.lookup (d_getItem (by first | lia | omega) I g ry fun w2 s3 I3 rw'=>⟨w',H,I3,rw',q⟩) hs
theorem ix_get (hu:X.A.units + 100 < cLine):IxR X (R2S X.K getIx):=by
 intro value slice pins s σ H x y v u Q I rx ry h hs;obtain⟨ι,M,M',dx,dy,d,S,r1,r2,e,k⟩:=h;have fin:∀ {w':V},M'=M->Rep X.K ι H d w'->Q w' H:=fun {w'} z r=>by subst z;exact k w' H ι r S Ext.refl
 unfold getIx at e;split at e
 ·have e0:=lift_ok e;clear e;obtain⟨e1,rfl⟩:=e0
  cases r2;cases r1 with
  | tup t q =>
   obtain⟨w',h1,h2⟩:=reps_at q e1;exact ix_tup value slice pins s σ H _ _ v u Q I rx ry ⟨_,_,_,w',rfl,rfl,sqt t,h1,fin rfl h2⟩ hs
 ·have e0:=lift_ok e;clear e;obtain⟨e1,rfl⟩:=e0
  cases r2;cases r1 with
  | fl t q =>
   obtain⟨w',h1,h2⟩:=reps_at q e1;exact ix_list value slice pins s σ H _ _ v u Q I rx ry ⟨_,_,_,w',rfl,rfl,t.seq,h1,fin rfl h2⟩ hs
 ·have e0:=bind_ok e;clear e;obtain⟨_,_,e1,e⟩:=e0
  have e10:=need_ok e1;clear e1;obtain⟨hn,rfl⟩:=e10;have e0:=bind_ok e;clear e;obtain⟨c,_,e1,e⟩:=e0;have e10:=lift_ok e1;clear e1;obtain⟨hc,rfl⟩:=e10;have e0:=pure_ok e;clear e;obtain⟨rfl,rfl⟩:=e0;cases r2;cases r1;exact ix_str value slice pins s σ H _ _ v u Q I rx ry ⟨_,_,c,rfl,rfl,hn,hc,fin rfl (.str _)⟩ hs
 ·have e0:=bind_ok e;clear e;obtain⟨o,_,e1,e⟩:=e0
  have e10:=getM_ok e1;clear e1;obtain⟨g,rfl⟩:=e10;cases o with
  | lst ds =>
   dsimp only at e;split at e
   ·have e0:=lift_ok e;clear e;obtain⟨e1,rfl⟩:=e0
    obtain⟨a,vs,rfl,_,h3,h4⟩:=sim_list S r1 g;cases r2;obtain⟨w',h1,h2⟩:=reps_at h4 e1;exact ix_list value slice pins s σ H _ _ v u Q I rx ry ⟨_,_,_,w',rfl,rfl,SqL.of h3,h1,fin rfl h2⟩ hs
   ·exact(stop_ok e).elim
  | dic kvs =>
   have e0:=bind_ok e;clear e;obtain⟨q,_,e1,e⟩:=e0;have e10:=lift_ok e1;clear e1;obtain⟨hk,rfl⟩:=e10;have e0:=lift_ok e;clear e;obtain⟨e1,rfl⟩:=e0;obtain⟨a,ws,rfl,_,h3,h4⟩:=sim_dict S r1 g;have hy:=key_rep r2 hk;subst hy;rcases h4.find q with ⟨z1,z2⟩|⟨d',w',z1,z2,z3⟩
   ·rw[z1]at e1;cases e1
   ·rw[z1]at e1;cases e1
    have g2:DGet H a (kV q) (some w'):=z2 ▸ DGet.k (k:=q) h3;exact ix_dict hu value slice pins s σ H _ _ v u Q I rx ry ⟨a,w',rfl,g2,fin rfl z3⟩ hs
  | dtt kvs=>exact tt_ix hu S r1 r2 g e I rx ry hs fun w' z hM=>fin hM z
 ·exact(stop_ok e).elim
noncomputable def RSet (K:PySem.W.Frag):TSet:=fun o i v H Q=>∃ ι M M' x y z u,Sim K ι M H/\Rep K ι H x o/\Rep K ι H y i/\Rep K ι H z v/\setIx x y z M=some (.ok u,M') /\
 ∀ H',Sim K ι M' H'->Ext K ι H ι H'->Q H'
theorem set_ix (hu:X.A.units + 100 < cLine):PSet X (RSet X.K):=by
 intro pins s σ H o i v ov iv u Q I ro ri rv h;obtain⟨ι,M,M',x,y,z,w',S,r1,r2,r3,e,k⟩:=h;unfold setIx at e;split at e
 ·have e0:=bind_ok e;clear e;obtain⟨ob,_,e1,e⟩:=e0
  have e10:=getM_ok e1;clear e1;obtain⟨g,rfl⟩:=e10;cases ob with
  | lst ds =>
   dsimp only at e;split at e
   ·have e0:=bind_ok e;clear e;obtain⟨j,_,e1,e⟩:=e0
    have e10:=lift_ok e1;clear e1;obtain⟨hj,rfl⟩:=e10;have e0:=putM_ok e;clear e;obtain⟨_,rfl⟩:=e0;obtain⟨a,vs,rfl,hi,h3,h4⟩:=sim_list S r1 g;cases r2;refine set_list pins s σ H _ _ v ov iv u Q I ro ri rv ⟨a,vs,_,j,rfl,rfl,h3,by rw[<- h4.length];exact hj,?_⟩;have x:Ext X.K ι H ι (upd H a (.lst (vs.set j v))):=Ext.write h3 (mut_l _);exact k _ (S.put hi ⟨_,rfl,(h4.mono x).set (r3.mono x) j⟩) x
   ·exact(stop_ok e).elim
  | dic kvs =>
   have e0:=bind_ok e;clear e;obtain⟨q,_,e1,e⟩:=e0;have e10:=lift_ok e1;clear e1;obtain⟨hk,rfl⟩:=e10;have e0:=bind_ok e;clear e;obtain⟨_,_,e1,e⟩:=e0;have e10:=need_ok e1;clear e1;obtain⟨hn,rfl⟩:=e10;have e0:=putM_ok e;clear e;obtain⟨_,rfl⟩:=e0;obtain⟨a,ws,rfl,hi,h3,h4⟩:=sim_dict S r1 g;have hy:=key_rep r2 hk;subst hy;obtain rfl:ov=Value.ref a:=ro;have x:Ext X.K ι H ι (upd H a (.dK (putK ws q v))):=Ext.write h3 (mut_d _);refine d_setItem (by first | lia | omega) I (DPut.k (k:=q) h3 (by rw[<- h4.len];exact hn)) ri rv fun s4 I4=>⟨_,I4,?_⟩
   exact k _ (S.put hi ⟨_,rfl,(h4.mono x).put q (r3.mono x)⟩) x
  | dtt kvs=>exact tt_set hu S r1 r2 r3 g e I ro ri rv k
 ·exact(stop_ok e).elim
end
end L3
namespace L3
open PySem PySem.Spec PyProof.Rows L2
end L3
namespace L3
open PySem PySem.Spec PyProof.Rows L2
section
variable {prog:Program}{w:World}{K:Type}[DecidableEq K]{knd:PySem.KeyKind prog w K}{A:Around}{E:Value->Shared->Prop}
end
end L3
namespace L3
open PySem PySem.Spec PyProof.Rows L2
section
variable {prog:Program}{w:World}{A:Around}{E:Value->Shared->Prop}{s:Shared}
theorem getItem_tuple_whole {t sl:Addr}{items:Array Value}{vl vu:Value}{lo hi:Option Int}{Q:Value->Shared->Prop}(ht:IsTup s.heap t items)(hs:s.heap.IsSliceOf sl vl vu .none)(pl:IsPart vl lo)(pu:IsPart vu hi)
  (hw:HT.sIx items.size 0 lo=0/\HT.sIx items.size items.size hi=items.size) (h:Q (.ref t) s):wpAny (model prog w) A (getItem (.ref t) (.ref sl)) Q E s:=by
 obtain⟨os,hos,hcs,hds⟩:=id hs;have hTs:s.TypeIs (.ref sl) "slice":=⟨os,hos,hcs⟩;unfold getItem
 try with_reducible refine wpAny_holding ?_
 first | refine wpAny_bind (wpAny_pure ?_) | skip
 refine wpAny_bind (wpAny_sequenceKey ht.typeIs (by decide) ?_);refine wpAny_bind (wpAny_callSpecial?_slot (name:=Str.ofString "__getitem__") ht.typeIs PyProof.Rows.slot_tuple_getitem
  (wpAny_call_entry PyProof.Rows.slot_tuple_getitem ht.typeIs entry_tuple_getitem ?_ (args_tuple_getitem _ _)))
 show wpAny _ _ (Builtin.Tuple.tupleItemsOf (.ref t) >>= _) _ _ s;refine wpAny_bind (tupleItemsOf_ ht ?_);refine wpAny_bind (wpAny_typeOf hTs ?_);rw[if_pos (by decide)];refine wpAny_bind (HT.sliceApplied_gen hs pl pu ?_);have hyes:(((HT.sIx items.size 0 lo:Nat):Int)==0&&(1:Int)==1&&(HT.sIx items.size items.size hi - HT.sIx items.size 0 lo)==items.size)=true:=by
  rw[hw.1,hw.2];simp
 show wpAny _ _ (if (((HT.sIx items.size 0 lo:Nat):Int)==0&&(1:Int)==1&&(HT.sIx items.size items.size hi - HT.sIx items.size 0 lo)==items.size)=true then _ else _) _ _ s;rw[if_pos hyes];refine wpAny_bind ?_;refine wpAny_bind (wpAny_typeOf ht.typeIs ?_);refine wpAny_pure ?_;rw[if_pos (by decide)];refine wpAny_bind (wpAny_rule ?_)
 first
  | exact wpAny_bind (wpAny_pure (wpAny_pure ⟨_,rfl,wpAny_pure h⟩))
  | exact wpAny_pure ⟨_,rfl,wpAny_pure h⟩
  | exact wpAny_bind (wpAny_pure ⟨_,rfl,wpAny_pure h⟩)
end
section
variable {X:Cx}
noncomputable def MFact (T:String)(name:Str)(id:String):Prop:=PlainAttrs T/\Slot T name id/\typeOf (.builtin id)=pure (.type "method_descriptor")
noncomputable def RcvIs (X:Cx)(T:String)(x:V)(H:Hp):Prop:=∀ (pins:List (Addr×Obj)) (σ:St) (s:Shared) (v:Value),Inv X pins σ H s->RelV x v->s.TypeIs v T/\∀ a,v=.ref a->∃ ob,s.heap.get? a=some ob/\ob.dict=none
noncomputable def tBMx (X:Cx)(name:Str)(r:String->V->List V->Hp->VK->Prop)(to:TE)(t:TA):TE:=fun σ H Q=>to σ H fun x H1=>∃ T id,MFact T name id/\RcvIs X T x H1/\t σ H1 fun xs H2=>r id x xs H2 Q
theorem pe_bmx {name:Str}{r:String->V->List V->Hp->VK->Prop}{o e:Expr}{es:List Expr}{to:TE}{t:TA}{apos cpos:Pos}(hm:∀ id,MtR X id (r id))(ho:PE X o to)(ha:PA X (e::es) t)
  (hbase:attributeBase o name X.env (eval o X.env)=eval o X.env)
  (hfew:((backTo cpos (starEach (e::es) X.env)).all (fun x=>!x.1)&&(backToKw cpos (keywordEach [] X.env)).all (fun x=>x.1.isSome)
  &&decide ((e::es).length + ([]:List Keyword).length + (if ([]:List Keyword).isEmpty then 0 else 1) < 30))=true)
  (hline:(apos.endLine==cpos.line)=true) (hs:starEach (e::es) X.env=(false,eval e X.env)::starEach es X.env) (hplain:(backTo cpos (starEach es X.env)).any (·.1)=false) :
  PE X (.Call (.Attribute o name apos) (e::es) [] cpos) (tBMx X name r to t):=by
 intro pins s σ H Q I h;refine wpAny_Call_method_late hbase hfew hline rfl (thn (ho pins s σ H _ I h) fun v s1 ⟨x,H1,I1,r1,T,id,⟨pa,slot,hty⟩,ty,q1⟩=>?_);obtain⟨h1,h2⟩:=ty pins σ s1 v I1 r1;refine⟨T,id,pa,slot,hty,h1,h2,?_⟩;have hA:=ha cpos pins s1 σ H1 _ I1 q1;rw[hs]at hA ⊢;refine Calls.callWith_builtin (by show (false||(backTo cpos (starEach es X.env)).any (·.1))=false;rw[hplain] <;> rfl) (Calls.evalArgs_plain ?_);exact thn hA fun us s2 ⟨vs,H2,I2,r2,q2⟩=>hm id pins s2 σ H2 x vs v us Q I2 r1 r2 q2
theorem rcv_list {a:Addr}{xs:List V}{H:Hp}(h:SqL X.K H a xs):RcvIs X "list" (.ref a) H:=fun pins σ s v I r=>tyV_is I r (.inl ⟨rfl,xs,h⟩)
theorem rcv_str {y:Str}{H:Hp}:RcvIs X "str" (.str y) H:=fun pins σ s v I r=>tyV_is (X:=X) I r rfl
theorem reps1 {K:PySem.W.Frag}{ι:List Addr}{H:Hp}{d:D}{vs:List V}(r:Reps K ι H [d] vs):∃ v,vs=[v]/\Rep K ι H d v:=by
 cases r with | cons r1 r2=>cases r2;exact⟨_,rfl,r1⟩
theorem reps2 {K:PySem.W.Frag}{ι:List Addr}{H:Hp}{d e:D}{vs:List V}(r:Reps K ι H [d,e] vs):∃ v u,vs=[v,u]/\Rep K ι H d v/\Rep K ι H e u:=by
 cases r with | cons r1 r2=>cases r2 with | cons r2 r3=>cases r3;exact⟨_,_,rfl,r1,r2⟩
theorem put_list {K:PySem.W.Frag}{ι:List Addr}{M M':MH}{H:Hp}{k:Nat}{a:Addr}{ds es:List D}{vs ws:List V}{u:Unit}(S:Sim K ι M H)(hi:ι[k]?=some a)(ha:H a=some (.lst vs))(r:Reps K ι H es ws)(e:putM k (.lst es) M=some (.ok u,M')) :
  Sim K ι M' (upd H a (.lst ws))/\Ext K ι H ι (upd H a (.lst ws)):=by
 have e0:=putM_ok e;clear e;obtain⟨_,rfl⟩:=e0;have x:Ext K ι H ι (upd H a (.lst ws)):=Ext.write ha (mut_l _);exact⟨S.put hi ⟨_,rfl,r.mono x⟩,x⟩
theorem Vals.ins {x:V}{u:Value}(r:RelV x u){xs:List V}{us:List Value}(i:Int)(h:Vals xs us):Vals (insD xs i x) (insD us i u):=by
 unfold insD;rw[h.length];exact(h.take _).append (.cons r (h.drop _))
theorem Reps.ins {K:PySem.W.Frag}{ι:List Addr}{H:Hp}{d:D}{v:V}(r:Rep K ι H d v){ds:List D}{vs:List V}(i:Int)(h:Reps K ι H ds vs):Reps K ι H (insD ds i d) (insD vs i v):=by
 unfold insD;rw[h.length];exact(h.take _).append (.cons r (h.drop _))
theorem insD_len {α:Type}(xs:List α)(i:Int)(v:α):(insD xs i v).length=xs.length + 1:=by
 unfold insD insIx;rw[List.length_append,List.length_cons,List.length_take,List.length_drop];split <;> omega
noncomputable def rInsert:V->List V->Hp->VK->Prop:=fun x vs H Q=>∃ l xs i y,x=.ref l/\vs=[.int i,y]/\H l=some (.lst xs)/\xs.length < sizeLine/\(-(2 ^ 62)<=i/\i < 2 ^ 62)/\Q .non (upd H l (.lst (insD xs i y)))
theorem mt_insert:MtR X "list.insert" rInsert:=by
 intro pins s σ H x vs v us Q I rx rv h;obtain⟨l,xs,i,y,rfl,rfl,hH,hz,hi,q⟩:=h;cases rx;obtain⟨u1,u2,rfl,⟨t,rfl⟩,ru⟩:=rv.two;obtain⟨z,its,n,r,hl,e⟩:=I.lstM hH;have hf:Builtin.List.listFitsIndex i=true:=by unfold Builtin.List.listFitsIndex;simp;omega
 refine call_meets PySem.F.slot_list_insert ⟨_,e,rfl⟩ PySem.F.entry_list_insert (PySem.F.args_list_insert_3 _ _ _) (PySem.AutoSeq1.list_insert_list_int_val_1 l its.toArray n i t u2 (by simp[hf]) (by rw[List.size_toArray];omega)) ⟨e,?_⟩;refine⟨.non,_,I.lset (its':=insD its i u2) hH e ?_ (Vals.ins ru i r) (by rw[insD_len];omega),rfl,q⟩;show (its.toArray.extract 0 (if i < 0 then (i + (its.toArray.size:Int)).toNat else min i.toNat its.toArray.size)).push u2++its.toArray.extract (if i < 0 then (i + (its.toArray.size:Int)).toNat else min i.toNat its.toArray.size)=_;rw[PySem.W.kl_ins_eq,List.size_toArray];rfl
theorem mt_extendT:MtR X "list.extend" (fun x vs H Q=>∃ l b xs zs,x=.ref l/\vs=[.ref b]/\H l=some (.lst xs)/\SqT X.K H b zs/\xs.length + zs.length<=sizeLine/\Q .non (upd H l (.lst (xs++zs)))):=by
 intro pins s σ H x vs v us Q I rx rv h;obtain⟨l,b,xs,zs,rfl,rfl,hH,hB,hz,q⟩:=h;cases rx;obtain⟨u,rfl,ru⟩:=rv.one;cases ru;obtain⟨z,its,n,r,hl,e⟩:=I.lstM hH;obtain⟨its2,r2,⟨⟨cls,dd,data,sl⟩,ho,hc,n2,hd⟩,z2⟩:=I.tuple hB;obtain⟨o2,e2,d2,d3⟩:=I.tupNoDict hB;rw[ho]at e2;cases e2;simp only at hc hd d2 d3;subst hc hd d2 d3;have hl2:=r2.length;have hsz:its.toArray.size + its2.toArray.size<=sizeLine:=by rw[List.size_toArray,List.size_toArray];omega
 have hlong:¬ (!its.toArray.isEmpty&&Builtin.List.listTooLong (its.toArray.size + its2.toArray.size))=true:=by
  rw[notLongL hsz,Bool.and_false];exact Bool.false_ne_true
 refine call_meets F.slot_list_extend ⟨_,e,rfl⟩ F.entry_list_extend (F.args_list_extend_2 _ _)
  (AutoSeq1.list_extend_list_tuple_0 l its.toArray n b its2.toArray n2 hlong (by rw[List.size_toArray];omega) (by first | lia | omega)) ⟨e,ho,?_⟩
 refine⟨.non,_,I.lset (its':=its++its2) hH e (by simp) (r.append r2) ?_,rfl,q⟩;rw[List.length_append];first | lia | omega
theorem glued_eq (t:Str)(ys:List Str):Builtin.Str.glued t ys=joinS t ys:=by
 have gen:∀ (ys:List Str) (acc:Array Nat),(ys.foldl (fun acc p=>acc++t.cps++p.cps) acc).toList=acc.toList++(ys.map fun p=>t.cps.toList++p.cps.toList).flatten:=by
  intro ys;induction ys with
  | nil=>intro acc;simp
  | cons y r ih =>
   intro acc;rw[List.foldl_cons,ih];simp
 have gl:∀ (y:Str) (r:List Str),glue t.cps.toList ((y::r).map (·.cps.toList))=y.cps.toList++(r.map fun p=>t.cps.toList++p.cps.toList).flatten:=by
  intro y r;induction r generalizing y with
  | nil=>simp[glue]
  | cons z r ih =>
   show y.cps.toList++t.cps.toList++glue t.cps.toList ((z::r).map (·.cps.toList))=_;rw[ih];simp
 unfold Builtin.Str.glued joinS;congr 1;apply Array.toList_inj.mp;cases ys with
 | nil=>rfl
 | cons y r =>
  rw[gl];simp only[List.drop_succ_cons,List.drop_zero,List.headD_cons];rw[gen]
noncomputable def rJoin (K:PySem.W.Frag):V->List V->Hp->VK->Prop:=fun x vs H Q=>∃ t l ys,x=.str t/\vs=[.ref l]/\SqL K H l (ys.map V.str)/\(ys.map (·.length)).sum + ys.length * t.length<=16777216/\Q (.str (joinS t ys)) H
theorem strs_are:∀ {ys:List Str} {us:List Value},Vals (ys.map V.str) us->StrsAre us ys
 | [],_,.nil=>.nil
 | y::ys,_,.cons ⟨t,e⟩ r=>by subst e;exact .cons y t (strs_are r)
theorem mt_join:MtR X "str.join" (rJoin X.K):=by
 intro pins s σ H x vs v us Q I rx rv h;obtain⟨t,l,ys,rfl,rfl,hs,hz,q⟩:=h;obtain⟨tk,rfl⟩:=rx;obtain⟨u,rfl,ru⟩:=rv.one;cases ru;obtain⟨its,r,p,_⟩:=I.list hs;refine PyProof.Rows.join_list p.isList (strs_are (by simpa using r)) hz fun t' k=>?_;have e:PySem.Txt.join t ys=joinS t ys:=glued_eq t ys;rw[e];exact⟨.str _,H,I.tok _,⟨t',rfl⟩,q⟩
end
end L3
namespace L3
open PySem PySem.Spec PyProof.Rows L2
theorem cutV_eq (xs:List V)(lo hi:Option Int):cutV xs lo hi=cutD xs lo hi:=rfl
theorem reps_cut {K:PySem.W.Frag}{ι:List Addr}{H:Hp}{ds:List D}{vs:List V}(r:Reps K ι H ds vs)(lo hi:Option Int):Reps K ι H (cutD ds lo hi) (cutD vs lo hi):=by
 unfold cutD;rw[<- r.length];exact(r.drop _).take _
theorem cut_whole {α:Type}{xs:List α}{lo hi:Option Int}(h:(cutD xs lo hi).length=xs.length):cutD xs lo hi=xs:=by
 unfold cutD at h ⊢;rw[List.length_take,List.length_drop]at h;have h1:cutIx xs.length 0 lo=0\/xs.length=0:=by first | lia | omega
 rcases h1 with h1 | h1
 ·rw[h1]at h ⊢
  rw[List.drop_zero,List.take_of_length_le (by first | lia | omega)]
 ·have e:xs=[]:=List.length_eq_zero_iff.mp h1
  subst e;simp
section
variable {X:Cx}
theorem slice_txt (x:Str)(lo hi:Option Int):Txt.slice x lo hi=⟨(cutD x.cps.toList lo hi).toArray⟩:=by
 have ext:∀ (a b:Str),a.cps.toList=b.cps.toList->a=b:=fun a b h=>by
  cases a;cases b;simp only at h;congr 1;exact Array.toList_inj.mp h
 have lenx:x.length=x.cps.toList.length:=by simp[Str.length]
 have key:∀ (i j n:Nat),i<=n->j<=n->Builtin.Str.strSliceIndices lo hi 1 n=sliceRange (i:Int) (j:Int) 1->((Builtin.Str.strSliceIndices lo hi 1 n).filterMap (x.cps[·]?))=((x.cps.toList.drop i).take (j - i))\/n≠x.length:=by
  intro i j n hi' hj e;by_cases hn:n=x.length
  ·left
   rw[e];unfold sliceRange;simp only[show (1:Int) > 0 by decide,if_true];have hc:(if (i:Int) < (j:Int) then ((j:Int) - (i:Int) + 1 - 1) / 1 else 0).toNat=j - i:=by split <;> omega
   rw[hc,List.filterMap_map];have hf:((fun k=>x.cps[k]?) ∘ fun (k:Nat)=>((i:Int) + 1 * (k:Int)).toNat)=fun k:Nat=>x.cps.toList[i + k]?:=by
    funext k;simp only[Function.comp]
    have:((i:Int) + 1 * (k:Int)).toNat=i + k:=by first | lia | omega
    rw[this];simp
   rw[hf];have hlen:j<=x.cps.toList.length:=by rw[<- lenx,<- hn];exact hj
   clear e hc hf;have gen:∀ (m:Nat) (l:List Nat),m<=l.length->(List.range m).filterMap (fun k=>l[k]?)=l.take m:=by
    intro m;induction m with
    | zero=>intro l _;rfl
    | succ m ih =>
     intro l hl;cases l with
     | nil=>simp at hl
     | cons a r =>
      rw[List.range_succ_eq_map,List.filterMap_cons];simp only[List.getElem?_cons_zero,List.take_succ_cons,List.filterMap_map];congr 1;rw[<- ih r (by simpa using hl)];rfl
   have hdrop:∀ k:Nat,x.cps.toList[i + k]?=(x.cps.toList.drop i)[k]?:=fun k=>by rw[List.getElem?_drop]
   simp only[hdrop];exact gen (j - i) (x.cps.toList.drop i) (by rw[List.length_drop];omega)
  ·exact .inr hn
 have hbnd:∀ (o:Option Int) (d n:Nat),d<=n->cutIx n d o<=n:=fun o d n hd=>by
  cases o with
  | none=>exact hd
  | some v=>simp only[cutIx];split <;> omega
 have hidx:Builtin.Str.strSliceIndices lo hi 1 x.length=sliceRange ((cutIx x.length 0 lo:Nat):Int) ((cutIx x.length x.length hi:Nat):Int) 1:=by
  unfold Builtin.Str.strSliceIndices;have c:∀ (o:Option Int) (d:Nat),(match o with
    | none=>(d:Int)
    | some i=>max 0 (min (if i < 0 then i + (x.length:Int) else i) (x.length:Int)))=((cutIx x.length d o:Nat):Int):=fun o d=>by
   cases o with
   | none=>rfl
   | some v=>simp only[cutIx];split <;> omega
  have c1:=c lo 0;have c2:=c hi x.length;simp only[show (1:Int) > 0 by decide,if_true]at c1 c2 ⊢;rw[<- c1,<- c2];cases lo <;> cases hi <;> rfl
 have hk:=key _ _ _ (hbnd lo 0 x.length (Nat.zero_le _)) (hbnd hi x.length x.length (Nat.le_refl _)) hidx;rcases hk with hk | hk
 ·have hcut:((Builtin.Str.strSliceIndices lo hi 1 x.length).filterMap (x.cps[·]?))=cutD x.cps.toList lo hi:=by
   rw[hk];unfold cutD;rw[<- lenx]
  have hlen:(Builtin.Str.strSliceIndices lo hi 1 x.length).length=(cutD x.cps.toList lo hi).length:=by
   rw[hidx];unfold sliceRange cutD;rw[<- lenx,List.length_take,List.length_drop,<- lenx];simp only[show (1:Int) > 0 by decide,if_true,List.length_map,List.length_range];have b1:=hbnd lo 0 x.length (Nat.zero_le _);have b2:=hbnd hi x.length x.length (Nat.le_refl _);split <;> omega
  unfold Txt.slice;split
  ·rename_i hw
   apply ext;show x.cps.toList=cutD x.cps.toList lo hi;symm;apply cut_whole;rw[<- hlen];simp at hw;rw[hw,lenx]
  ·rw[hcut]
 ·exact absurd rfl hk
theorem sl_str:SlR X (fun x lo hi H Q=>∃ y,x=.str y/\y.length<=sizeLine/\Q (.str ⟨(cutD y.cps.toList lo hi).toArray⟩) H):=by
 intro pins s σ H x v vl vu lo hi sl Q I rx hs pl pu h;obtain⟨y,rfl,hy,q⟩:=h;obtain⟨t,rfl⟩:=rx;refine⟨"str",_,PySem.F.slot_str_getitem.lookup,typeIs_str _ _ _,?_⟩;have part:∀ {u:Value} {o:Option Int},IsPart u o->∃ p:Option (Int×Tok),partValue p=u/\p.map (·.1)=o:=fun {u o} z=>by
  cases z
  ·exact⟨none,rfl,rfl⟩
  ·exact⟨some (_,_),rfl,rfl⟩
 obtain⟨l,e1,e2⟩:=part pl;obtain⟨r,e3,e4⟩:=part pu;have hs':s.heap.IsSlice sl l r none:=by
  obtain⟨o,h1,h2,h3⟩:=hs;exact⟨o,h1,h2,by rw[h3,<- e1,<- e3];rfl⟩
 refine wpAny_getItem_str_slice hs' rfl ?_;have e:(if (((none:Option (Int×Tok)).map (·.1)).getD 1==1&&(slicePicked y l r none).length==y.length)=true then y else ⟨((slicePicked y l r none).filterMap (y.cps[·]?)).toArray⟩)=Txt.slice y lo hi:=by
  unfold slicePicked Txt.slice;rw[e2,e4];rfl
 refine post_val_or_str ?_;rw[e];refine⟨Nat.le_trans (Txt.slice_le y _ _) hy,fun t' k=>?_⟩;rw[slice_txt];exact⟨.str _,H,I.tok _,⟨t',rfl⟩,q⟩
noncomputable def RSl (K:PySem.W.Frag):V->Option Int->Option Int->Hp->VK->Prop:=fun x lo hi H Q=>∃ ι M M' dx d,Sim K ι M H/\Rep K ι H dx x/\sliceD dx lo hi M=some (.ok d,M') /\
 ∀ v H' ι',Rep K ι' H' d v->Sim K ι' M' H'->Ext K ι H ι' H'->Q v H'
theorem sl_all:SlR X (RSl X.K):=by
 intro pins s σ H x v vl vu lo hi sl Q I rx hs pl pu h;obtain⟨ι,M,M',dx,d,S,r,e,k⟩:=h;cases r with
 | str y =>
  have e0:=bind_ok e;clear e;obtain⟨_,_,e1,e⟩:=e0;have e10:=need_ok e1;clear e1;obtain⟨hn,rfl⟩:=e10;have e0:=pure_ok e;clear e;obtain⟨rfl,rfl⟩:=e0;exact sl_str pins s σ H _ v vl vu lo hi sl Q I rx hs pl pu ⟨y,rfl,hn,k _ H ι (.str _) S Ext.refl⟩
 | ob t =>
  have e0:=bind_ok e;clear e;obtain⟨ds,_,e1,e⟩:=e0;have e10:=getL_ok e1;clear e1;obtain⟨g,rfl⟩:=e10;obtain⟨a,vs,h1,_,h3,h4⟩:=sim_list S (.ob t) g;cases h1;exact sl_list pins s σ H _ v vl vu lo hi sl Q I rx hs pl pu ⟨_,vs,rfl,SqL.of h3,new_list S (reps_cut h4 lo hi) e k⟩
 | fl t q=>exact sl_list pins s σ H _ v vl vu lo hi sl Q I rx hs pl pu ⟨_,_,rfl,t.seq,new_list S (reps_cut q lo hi) e k⟩
 | tup t q =>
  have e0:=pure_ok e;clear e;obtain⟨rfl,rfl⟩:=e0;rename_i a vs ds;by_cases hn:cutIx ds.length 0 lo=0/\cutIx ds.length ds.length hi=ds.length
  ·cases rx
   obtain⟨its,r,ht,hz⟩:=I.tuple (sqt t);have hlen:its.toArray.size=ds.length:=by rw[List.size_toArray,<- r.length,q.length]
   refine⟨"tuple",_,PyProof.Rows.slot_tuple_getitem.lookup,ht.typeIs,getItem_tuple_whole ht hs pl pu (by rw[hlen];exact hn) ⟨.ref a,H,I,rfl,?_⟩⟩;have e:cutD ds lo hi=ds:=cut_whole (by
    unfold cutD;rw[hn.1,hn.2,List.drop_zero,Nat.sub_zero,List.take_length])
   rw[e]at k;exact k _ H ι (.tup t q) S Ext.refl
  ·exact sl_tup pins s σ H _ v vl vu lo hi sl Q I rx hs pl pu ⟨_,_,rfl,sqt t,by rw[<- q.length];exact hn,new_tup S (reps_cut q lo hi) k⟩
 | _=>exact(stop_ok e).elim
theorem tru_all:TruR X (fun x H Q=>∃ ι M M' d b,Sim X.K ι M H/\Rep X.K ι H d x/\truD d M=some (.ok b,M')/\(M'=M->Q b H)):=by
 intro pins s σ H x v Q I rx h;obtain⟨ι,M,M',d,b,S,r,e,k⟩:=h;refine tru_ok pins s σ H x v Q I rx ?_;cases r with
 | non=>have e0:=pure_ok e;clear e;obtain⟨rfl,rfl⟩:=e0;exact⟨_,rfl,k rfl⟩
 | bl c=>have e0:=pure_ok e;clear e;obtain⟨rfl,rfl⟩:=e0;exact⟨_,rfl,k rfl⟩
 | int i=>have e0:=pure_ok e;clear e;obtain⟨rfl,rfl⟩:=e0;exact⟨_,rfl,k rfl⟩
 | str y =>
  have e0:=bind_ok e;clear e;obtain⟨_,_,e1,e⟩:=e0;have e10:=need_ok e1;clear e1;obtain⟨hn,rfl⟩:=e10;have e0:=pure_ok e;clear e;obtain⟨rfl,rfl⟩:=e0;exact⟨_,⟨hn,rfl⟩,k rfl⟩
 | tup t q =>
  have e0:=pure_ok e;clear e;obtain⟨rfl,rfl⟩:=e0;refine⟨_,.inr (.inl ⟨_,sqt t,rfl⟩),?_⟩;cases q <;> exact k rfl
 | fl t q =>
  have e0:=pure_ok e;clear e;obtain⟨rfl,rfl⟩:=e0;refine⟨_,.inl ⟨_,t.seq,rfl⟩,?_⟩;cases q <;> exact k rfl
 | ob t =>
  have e0:=bind_ok e;clear e;obtain⟨o,_,e1,e⟩:=e0;have e10:=getM_ok e1;clear e1;obtain⟨g,rfl⟩:=e10;cases o with
  | lst ds =>
   have e0:=pure_ok e;clear e;obtain⟨rfl,rfl⟩:=e0;obtain⟨a,vs,h1,_,h3,h4⟩:=sim_list S (.ob t) g;cases h1;refine⟨_,.inl ⟨_,SqL.of h3,rfl⟩,?_⟩;cases h4 <;> exact k rfl
  | dtt kvs=>exact(stop_ok e).elim
  | dic kvs =>
   have e0:=pure_ok e;clear e;obtain⟨rfl,rfl⟩:=e0;obtain⟨a,vs,h1,_,h3,h4⟩:=sim_dict S (.ob t) g;cases h1;refine⟨_,.inr (.inr ⟨_,h3,rfl⟩),?_⟩;cases h4 <;> exact k rfl
noncomputable def RLS (K:PySem.W.Frag)(g:List D->Mo D):List V->Hp->VK->Prop:=fun xs H Q=>∃ ι M M' ds d,Sim K ι M H/\Reps K ι H ds xs/\g ds M=some (.ok d,M') /\
 ∀ v H' ι',Rep K ι' H' d v->Sim K ι' M' H'->Ext K ι H ι' H'->Q v H'
theorem bools_of {K:PySem.W.Frag}{ι:List Addr}{H:Hp}:∀ {ds:List D} {vs:List V} {bs:List Bool},Reps K ι H ds vs->ds.mapM boolD=some bs->vs=bs.map V.bl
 | _,_,_,.nil,h=>by simp at h;subst h;rfl
 | _,_,_,.cons (d:=d) r t,h=>by
  rw[List.mapM_cons]at h;simp only[Option.bind_eq_bind,Option.bind_eq_some_iff,Option.pure_def,Option.some.injEq]at h;obtain⟨b,hb,bs',hbs,rfl⟩:=h;rw[bools_of t hbs];cases r <;> simp[boolD]at hb;subst hb;rfl
theorem all_range (bs:List Bool):((List.range bs.length).all fun i=>bs.getD i false)=bs.all id:=by
 rw[Bool.eq_iff_iff];simp only[List.all_eq_true,List.mem_range];constructor
 ·intro h b hb
  obtain⟨i,hi,rfl⟩:=List.getElem_of_mem hb
  have:=h i hi
  rw[List.getD_eq_getElem?_getD,List.getElem?_eq_getElem hi]at this;exact this
 ·intro h i hi
  rw[List.getD_eq_getElem?_getD,List.getElem?_eq_getElem hi];exact h _ (List.getElem_mem hi)
theorem any_range (bs:List Bool):((List.range bs.length).any fun i=>bs.getD i false)=bs.any id:=by
 rw[Bool.eq_iff_iff];simp only[List.any_eq_true,List.mem_range];constructor
 ·rintro ⟨i,hi,h⟩
  rw[List.getD_eq_getElem?_getD,List.getElem?_eq_getElem hi]at h;exact⟨_,List.getElem_mem hi,h⟩
 ·rintro ⟨b,hb,h⟩
  obtain⟨i,hi,rfl⟩:=List.getElem_of_mem hb;refine⟨i,hi,?_⟩;rw[List.getD_eq_getElem?_getD,List.getElem?_eq_getElem hi];exact h
theorem bools_walk (hc:X.calm=true){pins:List (Addr×Obj)}{s:Shared}{σ:St}{H:Hp}{a:Addr}{bs:List Bool}{Q:Value->Shared->Prop}(f:Nat->(Nat->Bool)->Bool)(I:Inv X pins σ H s)(h:H a=some (.lst (bs.map V.bl)))
  (q:∀ s',Inv X pins σ H s'->Q (.bool (f bs.length fun i=>bs.getD i false)) s') :
  wpAny (model X.prog X.w) X.A.in1 (pyIter (.ref a)) (fun it s₂=>∃ I fp wr n P St tr,it=.ref I/\Walks X.prog X.w X.A.in1 I fp wr n P St/\St 0 s₂.heap/\TruthOf X.prog X.w X.A.in1 P tr /\
   ∀ h' tk,(∀ b o,b ∉ wr->s₂.heap.get? b=some o->h'.get? b=some o)->Q (.bool (f n tr)) { s₂ with heap:=h',toks:=tk }) X.xe s:=by
 obtain⟨its,rv,p,hz⟩:=I.list (SqL.of h);have hlt:a < s.heap.objs.size:=by obtain⟨_,_,e,_⟩:=p;exact Heap.lt_size e
 have hlen:its.toArray.size=bs.length:=by have:=rv.length;simp at this ⊢;omega
 refine wpAny_pyIter_list p.isList ?_;have hh:X.A.in1.handled=none:=I.ok.hd hc;refine⟨s.heap.objs.size,_,_,_,_,_,fun i=>bs.getD i false,rfl,Walks.list hh s.heap.objs.size a (Nat.ne_of_lt hlt) its.toArray,⟨⟨_,Heap.get?_push_size _ rfl,rfl,rfl⟩,p.isList.push _⟩,?_,fun h' tk kk=>?_⟩
 ·intro i v s' Q' E' hv hq
  have hv':its[i]?=some v:=by simpa using hv
  have hi:i < bs.length:=by
   have:=(List.getElem?_eq_some_iff.mp hv').1
   rw[<- hlen];simpa using this
  have hb:(bs.map V.bl)[i]?=some (V.bl bs[i]):=by rw[List.getElem?_map,List.getElem?_eq_getElem hi];rfl
  obtain⟨u,hu,ru⟩:=rv.get hb;rw[hv']at hu;cases hu;cases ru;refine wpAny_truthy_bool ?_;have hq':Q' (bs.getD i false) s':=hq;rw[List.getD_eq_getElem?_getD,List.getElem?_eq_getElem hi]at hq';exact hq'
 ·rw[hlen]
  have I1:Inv X pins σ H { s with heap:=s.heap.push { cls:=.type "list_iterator",data:=.fields #[.ref a,.int 0 0] } }:=I.kept (t':=s.toks) fun b o e=>Heap.get?_push_of_some _ e;refine q _ (I1.turned (it:=s.heap.objs.size) (fun b o hb e=>kk b o (by simpa using hb) e) (I.hok.fresh (Nat.le_refl _)) (Nat.ne_of_gt I.lt) (.inr I.sz) (fun y c e z=>?_) fun p hp z=>?_)
  ·obtain⟨v,o,ho,_⟩:=I.cell y c e
   exact absurd (Heap.lt_size ho) (by rw[z];exact Nat.lt_irrefl _)
  ·exact absurd (Heap.lt_size (I.pin p hp).1) (by rw[z];exact Nat.lt_irrefl _)
theorem intsA {K:PySem.W.Frag}{ι:List Addr}{H:Hp}:∀ {xs:List Int} {vs:List V} {us:List Value},Reps K ι H (xs.map .int) vs->Vals vs us->IntsAre us xs
 | [],_,_,.nil,.nil=>.nil
 | x::xs,_,_,.cons r t,.cons g k=>by
  cases r;obtain⟨t',rfl⟩:=g;exact .cons x t' (intsA t k)
theorem min_ints {prog:Program}{w:World}{A:Around}{E:Value->Shared->Prop}{s:Shared}{l:Addr}{vs:List Value}{ns:List Int}{Q:Value->Shared->Prop}(hh:A.handled=none)(hl:s.heap.IsList l vs.toArray)(hi:IntsAre vs ns)(hne:0 < ns.length)
  (h:∀ h' M (t:Tok) tk,(∀ b o,s.heap.get? b=some o->h'.get? b=some o)->M∈ns->(∀ a,a∈ns->M<=a)->Q (.int M t) { s with heap:=h',toks:=tk }):wpAny (model prog w) A (call (.builtin "min") [.ref l]) Q E s:=by
 obtain⟨xs,e⟩:=hi.allInts.items;have hns:ns=xs.toList.map (·.1):=by rw[<- hi.numsOf,<- nums_intItems,<- e]
 have hsz:0 < xs.size:=by
  have h3:=hne;rw[hns,List.length_map,Array.length_toList]at h3;exact h3
 rw[e]at hl;refine min_intList hh hl hsz fun v h' tk hv hk=>?_;obtain⟨t,rfl⟩:=intItems_at hv;obtain⟨h1,h2⟩:=argBest_lt (numAt xs) (xs.size - 1);refine h _ _ t tk hk ?_ fun a ha=>?_
 ·rw[hns,numAt_eq];exact getD_mem (by rw[List.length_map,Array.length_toList];omega)
 ·rw[hns]at ha
  obtain⟨j,hj,rfl⟩:=mem_getD ha;rw[List.length_map,Array.length_toList]at hj;rw[<- numAt_eq];exact h2 j (by first | lia | omega)
noncomputable def blName:Bl->String
 | .len=>"len" | .tuple=>"tuple" | .list=>"list" | .repr=>"repr" | .all=>"all" | .any=>"any" | .min2=>"min" | .max2=>"max" | .abs=>"abs" | .dict1=>"dict" | .minL=>"min"
noncomputable def blTy:Bl->Bool
 | .tuple=>true | .list=>true | .dict1=>true | _=>false
noncomputable def blVal (b:Bl):Value:=if blTy b then .type (blName b) else .builtin (blName b)
theorem call_bl (hc:X.calm=true)(hu:X.A.units + 100 < cLine)(b:Bl):CallR X (blVal b) (RLS X.K (blD b)):=by
 intro pins s σ H xs us Q I rv h;obtain⟨ι,M,M',ds,d,S,r,e,k⟩:=h;have fin:∀ {w':V},M'=M->Rep X.K ι H d w'->Q w' H:=fun {w'} z r=>by subst z;exact k w' H ι r S Ext.refl
 cases b
 ·rcases ds with _ | ⟨x,t⟩
  ·exact(stop_ok e).elim
  cases x <;> first | exact(stop_ok e).elim | (cases t <;> first | exact(stop_ok e).elim | skip)
  ·delta blD at e
   dsimp only at e;have e0:=bind_ok e;clear e;obtain⟨_,_,e1,e⟩:=e0;have e10:=need_ok e1;clear e1;obtain⟨hn,rfl⟩:=e10;have e0:=pure_ok e;clear e;obtain⟨rfl,rfl⟩:=e0;cases r with | cons r1 r2=>cases r2;cases r1;exact call_len_str pins s σ H _ us Q I rv ⟨_,rfl,hn,fin rfl (.int _)⟩
  ·delta blD at e
   dsimp only at e;have e0:=pure_ok e;clear e;obtain⟨rfl,rfl⟩:=e0;cases r with | cons r1 r2 =>
   cases r2;cases r1 with | tup t q=>exact call_len_seq pins s σ H _ us Q I rv ⟨_,_,rfl,.inr (sqt t),by rw[<- q.length];exact fin rfl (.int _)⟩
  ·delta blD at e
   dsimp only at e;have e0:=pure_ok e;clear e;obtain⟨rfl,rfl⟩:=e0;cases r with | cons r1 r2 =>
   cases r2;cases r1 with | fl t q=>exact call_len_seq pins s σ H _ us Q I rv ⟨_,_,rfl,.inl t.seq,by rw[<- q.length];exact fin rfl (.int _)⟩
  ·delta blD at e
   dsimp only at e;have e0:=bind_ok e;clear e;obtain⟨o,_,e1,e⟩:=e0;have e10:=getM_ok e1;clear e1;obtain⟨g,rfl⟩:=e10;cases r with | cons r1 r2 =>
   cases r2;cases o with
   | lst ds =>
    have e0:=pure_ok e;clear e;obtain⟨rfl,rfl⟩:=e0;obtain⟨a,vs,rfl,_,h3,h4⟩:=sim_list S r1 g;exact call_len_seq pins s σ H _ us Q I rv ⟨a,vs,rfl,.inl (SqL.of h3),by rw[<- h4.length];exact fin rfl (.int _)⟩
   | dtt kvs=>exact(stop_ok e).elim
   | dic kvs =>
    have e0:=pure_ok e;clear e;obtain⟨rfl,rfl⟩:=e0;obtain⟨a,ws,rfl,_,h3,h4⟩:=sim_dict S r1 g;obtain⟨u,rfl,ru⟩:=vals1 rv;cases ru;exact d_len I (.inl h3) fun t s' I'=>⟨.int ws.length,H,I',⟨t,rfl⟩,by rw[<- h4.len];exact fin rfl (.int _)⟩
 ·rcases ds with _ | ⟨x,t⟩
  ·exact(stop_ok e).elim
  cases x <;> first | exact(stop_ok e).elim | (cases t <;> first | exact(stop_ok e).elim | skip)
  ·delta blD at e
   dsimp only at e;have e0:=pure_ok e;clear e;obtain⟨rfl,rfl⟩:=e0;cases r with | cons r1 r2 =>
   cases r2;cases r1 with | tup t q=>exact call_tuple_of pins s σ H _ us Q I rv ⟨_,_,rfl,.inr ⟨sqt t,fin rfl (.tup t q)⟩⟩
  ·delta blD at e
   dsimp only at e;have e0:=pure_ok e;clear e;obtain⟨rfl,rfl⟩:=e0;cases r with | cons r1 r2 =>
   cases r2;cases r1 with | fl t q=>exact call_tuple_of pins s σ H _ us Q I rv ⟨_,_,rfl,.inl ⟨t.seq,new_tup S q k⟩⟩
  ·delta blD at e
   dsimp only at e;have e0:=bind_ok e;clear e;obtain⟨ds,_,e1,e⟩:=e0;have e10:=getL_ok e1;clear e1;obtain⟨g,rfl⟩:=e10;have e0:=pure_ok e;clear e;obtain⟨rfl,rfl⟩:=e0;cases r with | cons r1 r2 =>
   cases r2;obtain⟨a,vs,rfl,_,h3,h4⟩:=sim_list S r1 g;exact call_tuple_of pins s σ H _ us Q I rv ⟨_,_,rfl,.inl ⟨SqL.of h3,new_tup S h4 k⟩⟩
 ·rcases ds with _ | ⟨x,t⟩
  ·exact(stop_ok e).elim
  cases t <;> first | exact(stop_ok e).elim | skip
  ·delta blD at e
   dsimp only at e;have e0:=bind_ok e;clear e;obtain⟨ds,M1,e1,e⟩:=e0;cases r with | cons r1 r2 =>
   cases r2;obtain⟨rfl,a,vs,rfl,hs,hr⟩:=seq_of S r1 e1;exact call_list_of pins s σ H _ us Q I rv ⟨a,vs,rfl,hs,new_list S hr e k⟩
 ·exact(stop_ok e).elim
 ·rcases ds with _ | ⟨x,t⟩
  ·exact(stop_ok e).elim
  cases x <;> first | exact(stop_ok e).elim | (cases t <;> first | exact(stop_ok e).elim | skip)
  ·delta blD at e
   dsimp only at e;have e0:=bind_ok e;clear e;obtain⟨ds,_,e1,e⟩:=e0;have e10:=getL_ok e1;clear e1;obtain⟨g,rfl⟩:=e10;have e0:=bind_ok e;clear e;obtain⟨bs,_,e1,e⟩:=e0;have e10:=lift_ok e1;clear e1;obtain⟨hb,rfl⟩:=e10;have e0:=pure_ok e;clear e;obtain⟨rfl,rfl⟩:=e0;cases r with | cons r1 r2 =>
   cases r2;obtain⟨a,vs,rfl,_,h3,h4⟩:=sim_list S r1 g;obtain⟨u,rfl,ru⟩:=vals1 rv;cases ru;rw[bools_of h4 hb]at h3;exact call_all_walk (bools_walk hc (fun n tr=>(List.range n).all tr) I h3 fun s' I'=>⟨.bl (bs.all id),H,I',by rw[all_range];rfl,fin rfl (.bl _)⟩)
 ·rcases ds with _ | ⟨x,t⟩
  ·exact(stop_ok e).elim
  cases x <;> first | exact(stop_ok e).elim | (cases t <;> first | exact(stop_ok e).elim | skip)
  ·delta blD at e
   dsimp only at e;have e0:=bind_ok e;clear e;obtain⟨ds,_,e1,e⟩:=e0;have e10:=getL_ok e1;clear e1;obtain⟨g,rfl⟩:=e10;have e0:=bind_ok e;clear e;obtain⟨bs,_,e1,e⟩:=e0;have e10:=lift_ok e1;clear e1;obtain⟨hb,rfl⟩:=e10;have e0:=pure_ok e;clear e;obtain⟨rfl,rfl⟩:=e0;cases r with | cons r1 r2 =>
   cases r2;obtain⟨a,vs,rfl,_,h3,h4⟩:=sim_list S r1 g;obtain⟨u,rfl,ru⟩:=vals1 rv;cases ru;rw[bools_of h4 hb]at h3;exact call_any_walk (bools_walk hc (fun n tr=>(List.range n).any tr) I h3 fun s' I'=>⟨.bl (bs.any id),H,I',by rw[any_range];rfl,fin rfl (.bl _)⟩)
 ·exact(stop_ok e).elim
 ·rcases ds with _ | ⟨x,t⟩
  ·exact(stop_ok e).elim
  rcases t with _ | ⟨y,t⟩
  ·cases x <;> exact(stop_ok e).elim
  cases x <;> first | exact(stop_ok e).elim | (cases y <;> first | exact(stop_ok e).elim | (cases t <;> first | exact(stop_ok e).elim | skip))
  ·delta blD at e
   dsimp only at e;have e0:=pure_ok e;clear e;obtain⟨rfl,rfl⟩:=e0;cases r with | cons r1 r2 =>
   cases r2 with | cons r2 r3 =>
   cases r3;cases r1;cases r2;exact call_max2 hc pins s σ H _ us Q I rv ⟨_,_,rfl,fin rfl (.int _)⟩
 ·exact(stop_ok e).elim
 ·exact(stop_ok e).elim
 ·rcases ds with _ | ⟨x,t⟩
  ·exact(stop_ok e).elim
  cases x <;> first | exact(stop_ok e).elim | (cases t <;> first | exact(stop_ok e).elim | skip)
  ·delta blD at e
   dsimp only at e;have e0:=bind_ok e;clear e;obtain⟨ds,_,e1,e⟩:=e0;have e10:=getL_ok e1;clear e1;obtain⟨g,rfl⟩:=e10;have e0:=bind_ok e;clear e;obtain⟨ns,_,e1,e⟩:=e0;have e10:=lift_ok e1;clear e1;obtain⟨hb,rfl⟩:=e10;have e0:=bind_ok e;clear e;obtain⟨_,_,e1,e⟩:=e0;have e10:=need_ok e1;clear e1;obtain⟨hne,rfl⟩:=e10;have e0:=pure_ok e;clear e;obtain⟨rfl,rfl⟩:=e0;cases r with | cons r1 r2 =>
   cases r2;obtain⟨a,vs,rfl,_,h3,h4⟩:=sim_list S r1 g;obtain⟨u,rfl,ru⟩:=vals1 rv;cases ru;obtain⟨its,rel,pl,hz⟩:=I.list (SqL.of h3);have hds:=allI_eq hb;subst hds;refine min_ints (I.ok.hd hc) pl.isList (intsA h4 rel) (List.length_pos_iff.mpr hne) fun h' M t tk kk m1 m2=>?_;have e:M=minI ns:=Int.le_antisymm (m2 _ (minI_mem hne).1) ((minI_mem hne).2 _ m1);subst e;exact⟨.int (minI ns),H,I.kept kk,⟨t,rfl⟩,fin rfl (.int _)⟩
end
end L3
namespace L3
open PySem PySem.Spec PyProof.Rows L2
section
variable {X:Cx}
noncomputable def mtId (m:Mt)(x:D):String:=match m,x with
 | .append,_=>"list.append"
 | .insert,_=>"list.insert"
 | .extend,_=>"list.extend"
 | .join,_=>"str.join"
 | .get,_=>"dict.get"
 | .get1,_=>"dict.get"
 | .sdf,_=>"dict.setdefault"
noncomputable def mtName:Mt->Str
 | .append=>"append" | .insert=>"insert" | .join=>"join" | .get=>"get"
 | .extend=>"extend"
 | .get1=>"get"
 | .sdf=>"setdefault"
theorem mt_name {m:Str}{n:Nat}{k:Mt}(h:mtOf m n=some k):m=mtName k:=by
 unfold mtOf at h;have key:∀ (y:String) (k:Nat),(m==(Str.ofString y)&&n==k)=true->m=Str.ofString y:=fun y k e=>by
  simp only[Bool.and_eq_true,beq_iff_eq]at e;exact e.1
 split at h
 ·rename_i e;cases h;exact key _ _ e
 split at h
 ·rename_i e;cases h;exact key _ _ e
 split at h
 ·rename_i e;cases h;exact key _ _ e
 split at h
 ·rename_i e;cases h;exact key _ _ e
 split at h
 ·rename_i e;cases h;exact key _ _ e
 split at h
 ·rename_i e;cases h;exact key _ _ e
 split at h
 ·rename_i e;cases h;exact key _ _ e
 ·cases h
noncomputable def RM (K:PySem.W.Frag)(m:Mt)(id:String):V->List V->Hp->VK->Prop:=fun x xs H Q=>∃ ι M M' dx ds d,Sim K ι M H/\Rep K ι H dx x/\Reps K ι H ds xs/\mtId m dx=id/\mtD m dx ds M=some (.ok d,M') /\
 ∀ v H' ι',Rep K ι' H' d v->Sim K ι' M' H'->Ext K ι H ι' H'->Q v H'
theorem strs_of_reps {K:PySem.W.Frag}{ι:List Addr}{H:Hp}:∀ {ds:List D} {vs:List V} {ys:List Str},Reps K ι H ds vs->ds.mapM strD=some ys->vs=ys.map V.str
 | _,_,_,.nil,h=>by simp at h;subst h;rfl
 | _,_,_,.cons (d:=d) r t,h=>by
  rw[List.mapM_cons]at h;simp only[Option.bind_eq_bind,Option.bind_eq_some_iff,Option.pure_def,Option.some.injEq]at h;obtain⟨b,hb,bs',hbs,rfl⟩:=h;rw[strs_of_reps t hbs];cases r <;> simp[strD]at hb;subst hb;rfl
theorem mt_all (hu:X.A.units + 100 < cLine)(m:Mt)(id:String):MtR X id (RM X.K m id):=by
 intro pins s σ H x vs v us Q I rx rv h;obtain⟨ι,M,M',dx,ds,d,S,r,rs,rfl,e,k⟩:=h;have fin:∀ {w':V},M'=M->Rep X.K ι H d w'->Q w' H:=fun {w'} z r=>by subst z;exact k w' H ι r S Ext.refl
 cases m
 case append =>
  cases dx <;> first | exact(stop_ok e).elim | (rcases ds with _ | ⟨_,_ | ⟨_,_⟩⟩ <;> first | exact(stop_ok e).elim | skip)
  ·delta mtD at e
   dsimp only at e;rename_i a y;obtain⟨vy,rfl,ry⟩:=reps1 rs;have e0:=bind_ok e;clear e;obtain⟨xs,_,e1,e⟩:=e0;have e10:=getL_ok e1;clear e1;obtain⟨g,rfl⟩:=e10;have e0:=bind_ok e;clear e;obtain⟨_,_,e1,e⟩:=e0;have e10:=need_ok e1;clear e1;obtain⟨hn,rfl⟩:=e10;have e0:=bind_ok e;clear e;obtain⟨u,M2,e1,e⟩:=e0;have e0:=pure_ok e;clear e;obtain⟨rfl,rfl⟩:=e0;obtain⟨p,ws,rfl,hi,h3,h4⟩:=sim_list S r g;obtain⟨S2,X2⟩:=put_list (ds:=xs) S hi h3 (h4.append (.cons ry .nil)) e1;exact mt_append pins s σ H _ _ v us Q I rx rv ⟨p,ws,vy,rfl,rfl,h3,by rw[<- h4.length];exact hn,k .non _ ι .non S2 X2⟩
 case insert =>
  cases dx <;> first | exact(stop_ok e).elim | (rcases ds with _ | ⟨x,_ | ⟨_,_ | ⟨_,_⟩⟩⟩ <;> first | exact(stop_ok e).elim | (cases x <;> first | exact(stop_ok e).elim | skip))
  ·delta mtD at e
   dsimp only at e;rename_i a i y;obtain⟨vi,vy,rfl,ri,ry⟩:=reps2 rs;cases ri;have e0:=bind_ok e;clear e;obtain⟨xs,_,e1,e⟩:=e0;have e10:=getL_ok e1;clear e1;obtain⟨g,rfl⟩:=e10;have e0:=bind_ok e;clear e;obtain⟨_,_,e1,e⟩:=e0;have e10:=need_ok e1;clear e1;obtain⟨hn,rfl⟩:=e10;have e0:=bind_ok e;clear e;obtain⟨u,M2,e1,e⟩:=e0;have e0:=pure_ok e;clear e;obtain⟨rfl,rfl⟩:=e0;obtain⟨p,ws,rfl,hi,h3,h4⟩:=sim_list S r g;obtain⟨S2,X2⟩:=put_list (ds:=xs) S hi h3 (Reps.ins ry _ h4) e1;exact mt_insert pins s σ H _ _ v us Q I rx rv ⟨p,ws,_,vy,rfl,rfl,h3,by rw[<- h4.length];exact hn.1,hn.2,k .non _ ι .non S2 X2⟩
 case join =>
  cases dx <;> first | exact(stop_ok e).elim | (rcases ds with _ | ⟨x,_ | ⟨_,_⟩⟩ <;> first | exact(stop_ok e).elim | (cases x <;> first | exact(stop_ok e).elim | skip))
  ·delta mtD at e
   dsimp only at e;obtain⟨vy,rfl,ry⟩:=reps1 rs;have e0:=bind_ok e;clear e;obtain⟨xs,_,e1,e⟩:=e0;have e10:=getL_ok e1;clear e1;obtain⟨g,rfl⟩:=e10;have e0:=bind_ok e;clear e;obtain⟨ys,_,e1,e⟩:=e0;have e10:=lift_ok e1;clear e1;obtain⟨hj,rfl⟩:=e10;have e0:=bind_ok e;clear e;obtain⟨_,_,e1,e⟩:=e0;have e10:=need_ok e1;clear e1;obtain⟨hn,rfl⟩:=e10;have e0:=pure_ok e;clear e;obtain⟨rfl,rfl⟩:=e0;obtain⟨p,ws,rfl,hi,h3,h4⟩:=sim_list S ry g;cases r;have hw:=strs_of_reps h4 hj;subst hw;exact mt_join pins s σ H _ _ v us Q I rx rv ⟨_,p,ys,rfl,rfl,SqL.of h3,hn,fin rfl (.str _)⟩
 case extend =>
  cases dx <;> first | exact(stop_ok e).elim | (rcases ds with _ | ⟨_,_ | ⟨_,_⟩⟩ <;> first | exact(stop_ok e).elim | skip)
  ·delta mtD at e
   dsimp only at e;rename_i kk y;obtain⟨vy,rfl,ry⟩:=reps1 rs;have e0:=bind_ok e;clear e;obtain⟨es,_,e1,e⟩:=e0;have e0:=bind_ok e;clear e;obtain⟨xs,_,e2,e⟩:=e0;have e20:=getL_ok e2;clear e2;obtain⟨g,rfl⟩:=e20;have e0:=bind_ok e;clear e;obtain⟨_,_,e3,e⟩:=e0;have e30:=need_ok e3;clear e3;obtain⟨⟨hn,_⟩,rfl⟩:=e30;have e0:=bind_ok e;clear e;obtain⟨u,M2,e4,e⟩:=e0;have e0:=pure_ok e;clear e;obtain⟨rfl,rfl⟩:=e0;cases ry with
   | tup t q =>
    have e10:=pure_ok e1;clear e1;obtain⟨rfl,rfl⟩:=e10;obtain⟨p,ws,rfl,hi,h3,h4⟩:=sim_list S r g;obtain⟨S2,X2⟩:=put_list (ds:=xs) S hi h3 (h4.append q) e4;exact mt_extendT pins s σ H _ _ v us Q I rx rv ⟨p,_,ws,_,rfl,rfl,h3,sqt t,by rw[<- h4.length,<- q.length];exact hn,k .non _ ι .non S2 X2⟩
   | ob t =>
    have e10:=getL_ok e1;clear e1;obtain⟨g2,rfl⟩:=e10;obtain⟨p,ws,rfl,hi,h3,h4⟩:=sim_list S r g;obtain⟨p2,ws2,e5,hi2,h5,h6⟩:=sim_list S (.ob t) g2;cases e5;obtain⟨S2,X2⟩:=put_list (ds:=xs) S hi h3 (h4.append h6) e4;exact mt_extend pins s σ H _ _ v us Q I rx rv ⟨p,_,ws,ws2,rfl,rfl,h3,h5,by rw[<- h4.length,<- h6.length];exact hn,k .non _ ι .non S2 X2⟩
   | _=>exact(stop_ok e1).elim
 case get1 =>
  cases dx <;> first | exact(stop_ok e).elim | (rcases ds with _ | ⟨_,_ | ⟨_,_⟩⟩ <;> first | exact(stop_ok e).elim | skip)
  ·delta mtD at e
   dsimp only at e;rename_i kk y;obtain⟨vy,rfl,ry⟩:=reps1 rs;have e0:=bind_ok e;clear e;obtain⟨kvs,_,e1,e⟩:=e0;have e10:=getT_ok e1;clear e1;obtain⟨g,rfl⟩:=e10;have e0:=bind_ok e;clear e;obtain⟨q,_,e1,e⟩:=e0;have e10:=lift_ok e1;clear e1;obtain⟨hq,rfl⟩:=e10;have e0:=pure_ok e;clear e;obtain⟨rfl,rfl⟩:=e0;obtain⟨a,ws,rfl,hi,h3,h4⟩:=sim_tt S r g;cases rx;obtain⟨u1,rfl,ru1⟩:=vals1 rv;obtain⟨b,rfl,kb⟩:=key_at ry hq;cases ru1;obtain⟨z,hd,xs,rel,dd⟩:=dtt_of I.hok h3;show wpAny _ _ (call (.builtin "dict.get") [.ref a,.ref b]) _ _ _;refine call_meetsIn PySem.F.slot_dict_get dd.typeIs PySem.F.entry_dict_get (PySem.F.args_dict_get_2 _ _) (meetsH_dict_get (kind2 (mixKind X.prog X.w)) a b hd) ⟨k2room hu,q,xs,key2_of I.hok kb,dd,?_⟩;have w3:Rep X.K ι H ((tkGet kvs q).getD .non) ((valV ws q).getD .non):=by
    rcases h4.find q with ⟨z1,z2⟩|⟨d',v',z1,z2,z3⟩
    ·rw[z1,z2];exact .non
    ·rw[z1,z2];exact z3
   have rn:RelV .non .none:=rfl;exact⟨_,H,I.tok _,(rel.val q).getD rn,fin rfl w3⟩
 case sdf =>
  cases dx <;> first | exact(stop_ok e).elim | (rcases ds with _ | ⟨_,_ | ⟨_,_ | ⟨_,_⟩⟩⟩ <;> first | exact(stop_ok e).elim | skip)
  ·delta mtD at e
   dsimp only at e;rename_i kk y dv;obtain⟨vy,vd,rfl,ry,rd⟩:=reps2 rs;have e0:=bind_ok e;clear e;obtain⟨kvs,_,e1,e⟩:=e0;have e10:=getT_ok e1;clear e1;obtain⟨g,rfl⟩:=e10;have e0:=bind_ok e;clear e;obtain⟨q,_,e1,e⟩:=e0;have e10:=lift_ok e1;clear e1;obtain⟨hq,rfl⟩:=e10;have e0:=bind_ok e;clear e;obtain⟨_,_,e1,e⟩:=e0;have e10:=need_ok e1;clear e1;obtain⟨hn,rfl⟩:=e10;obtain⟨a,ws,rfl,hi,h3,h4⟩:=sim_tt S r g;cases rx;obtain⟨u1,u2,rfl,ru1,ru2⟩:=vals2 rv;obtain⟨b,rfl,kb⟩:=key_at ry hq;cases ru1;obtain⟨z,hd,xs,rel,dd⟩:=dtt_of I.hok h3;have hz:xs.length<=sizeLine:=by rw[<- Paired.length rel];exact z
   have rl:=rel.val q;show wpAny _ _ (call (.builtin "dict.setdefault") [.ref a,.ref b,u2]) _ _ _;refine call_meetsIn PySem.F.slot_dict_setdefault dd.typeIs PySem.F.entry_dict_setdefault (PySem.F.args_dict_setdefault_3 _ _ _) (meetsH_sdf (kind2 (mixKind X.prog X.w)) a b hd u2) ⟨k2room hu,q,xs,key2_of I.hok kb,dd,hz,fun p hp=>?_,fun hp h' dd' hs=>?_⟩
   ·rcases h4.find q with ⟨z1,z2⟩|⟨d',v',z1,z2,z3⟩
    ·rw[z2,hp]at rl;exact rl.elim
    ·rw[z2,hp]at rl
     unfold sdfD at e;rw[z1]at e;have e0:=pure_ok e;clear e;obtain⟨rfl,rfl⟩:=e0;exact⟨_,H,I.tok _,rl,fin rfl z3⟩
   ·rcases h4.find q with ⟨z1,z2⟩|⟨d',v',z1,z2,z3⟩
    ·unfold sdfD at e
     rw[z1]at e;have e0:=bind_ok e;clear e;obtain⟨_,_,e1,e⟩:=e0;have e10:=putM_ok e1;clear e1;obtain⟨_,rfl⟩:=e10;have e0:=pure_ok e;clear e;obtain⟨rfl,rfl⟩:=e0;have hn2:ws.length < sizeLine:=by rw[<- Paired.length h4];exact hn
     have x:Ext X.K ι H ι (upd H a (.dTT (putK ws q vd))):=Ext.write h3 (mut_t _);have hl:(putK ws q vd).length<=sizeLine:=by have:=length_putK ws q vd;omega
     obtain⟨q',es,ep,hq',h2,h3',h4',_,h5⟩:=dd';refine⟨vd,upd H a (.dTT (putK ws q vd)),d_write I (by rw[h3];exact True.intro) hs ⟨q',hq'⟩ ⟨hl,hd,_,(rel.put q kb ru2).keeps fun c ys ec=>?_,q',es,ep,hq',h2,h3',h4',h5⟩,ru2,k vd _ ι (rd.mono x) (S.put hi ⟨_,rfl,(h4.mono x).put q (rd.mono x)⟩) x⟩;rw[upd_ne (ne_of ec h3 (fun z=>nomatch z))];exact ec
    ·rw[z2,hp]at rl;exact rl.elim
 case get=>exact(stop_ok e).elim
theorem LE.mth {m:Mt}{fo:DE}{fa:Ev->Mo (List D)}(σ:St)(H:Hp)(Q:VK)(h:LE X.K (fun ρ=>do let x <- fo ρ;rcvD m x;let xs <- fa ρ;mtD m x xs) σ H Q):tBMx X (mtName m) (RM X.K m) (LE X.K fo) (LA X.K fa) σ H Q:=by
 obtain⟨ι,ρ,M,d,M',S,R,e,k⟩:=h;have e0:=bind_ok e;clear e;obtain⟨x,M1,e1,e⟩:=e0;have e0:=bind_ok e;clear e;obtain⟨u,M2,e2,e⟩:=e0;have e0:=bind_ok e;clear e;obtain⟨xs,M3,e3,e⟩:=e0;refine⟨ι,ρ,M,x,M1,S,R,e1,fun v H1 ι1 r1 S1 X1=>?_⟩;have fact:M2=M1/\∃ T,MFact T (mtName m) (mtId m x)/\RcvIs X T v H1:=by
  unfold rcvD at e2;split at e2
  ·have e0:=bind_ok e2;clear e2;obtain⟨ds,_,e4,e5⟩:=e0
   have e40:=getL_ok e4;clear e4;obtain⟨g,rfl⟩:=e40;obtain⟨p,ws,rfl,hi,h3,h4⟩:=sim_list S1 r1 g;exact⟨(pure_ok e5).2,"list",⟨PySem.F.plainAttrs_list,PySem.F.slot_list_append,PySem.F.type_list_append⟩,rcv_list (SqL.of h3)⟩
  ·have e0:=bind_ok e2;clear e2;obtain⟨ds,_,e4,e5⟩:=e0
   have e40:=getL_ok e4;clear e4;obtain⟨g,rfl⟩:=e40;obtain⟨p,ws,rfl,hi,h3,h4⟩:=sim_list S1 r1 g;exact⟨(pure_ok e5).2,"list",⟨PySem.F.plainAttrs_list,PySem.F.slot_list_insert,PySem.F.type_list_insert⟩,rcv_list (SqL.of h3)⟩
  ·have e0:=bind_ok e2;clear e2;obtain⟨ds,_,e4,e5⟩:=e0
   have e40:=getL_ok e4;clear e4;obtain⟨g,rfl⟩:=e40;obtain⟨p,ws,rfl,hi,h3,h4⟩:=sim_list S1 r1 g;exact⟨(pure_ok e5).2,"list",⟨PySem.F.plainAttrs_list,PySem.F.slot_list_extend,PySem.F.type_list_extend⟩,rcv_list (SqL.of h3)⟩
  ·cases r1 with
   | str y=>exact⟨(pure_ok e2).2,"str",⟨PySem.F.plainAttrs_str,PySem.F.slot_str_join,PySem.F.type_str_join⟩,rcv_str⟩
  ·have e0:=bind_ok e2;clear e2;obtain⟨ds,_,e4,e5⟩:=e0
   have e40:=getD_ok e4;clear e4;obtain⟨g,rfl⟩:=e40;obtain⟨p,ws,rfl,hi,h3,h4⟩:=sim_dict S1 r1 g;exact⟨(pure_ok e5).2,"dict",⟨PySem.F.plainAttrs_dict,PySem.F.slot_dict_get,PySem.F.type_dict_get⟩,fun pins σ s v I r=>tyV_is I r (.inr (.inr (.inl ⟨rfl,.inl ⟨ws,h3⟩⟩)))⟩
  ·have e0:=bind_ok e2;clear e2;obtain⟨ds,_,e4,e5⟩:=e0
   have e40:=getT_ok e4;clear e4;obtain⟨g,rfl⟩:=e40;obtain⟨p,ws,rfl,hi,h3,h4⟩:=sim_tt S1 r1 g;exact⟨(pure_ok e5).2,"dict",⟨PySem.F.plainAttrs_dict,PySem.F.slot_dict_get,PySem.F.type_dict_get⟩,fun pins σ s v I r=>rcv_tt I r h3⟩
  ·have e0:=bind_ok e2;clear e2;obtain⟨ds,_,e4,e5⟩:=e0
   have e40:=getT_ok e4;clear e4;obtain⟨g,rfl⟩:=e40;obtain⟨p,ws,rfl,hi,h3,h4⟩:=sim_tt S1 r1 g;exact⟨(pure_ok e5).2,"dict",⟨PySem.F.plainAttrs_dict,PySem.F.slot_dict_setdefault,PySem.F.type_dict_setdefault⟩,fun pins σ s v I r=>rcv_tt I r h3⟩
  ·exact(stop_ok e2).elim
 obtain⟨rfl,T,f1,f2⟩:=fact;refine⟨T,mtId m x,f1,f2,?_⟩;refine⟨ι1,ρ,_,xs,M3,S1,R.mono X1,e3,fun vs H2 ι2 r2 S2 X2=>?_⟩;exact⟨ι2,M3,M',x,xs,d,S2,r1.mono X2,r2,rfl,e,fun v' H' ι' r' S' X'=>k v' H' ι' r' S' ((X1.trans X2).trans X')⟩
noncomputable def tyName:Ty->String
 | .int=>"int" | .str=>"str" | .bool=>"bool" | .list=>"list" | .tuple=>"tuple" | .dict=>"dict"
theorem ty_boot {t:Str}{k:Ty}(h:tyOf t=some k):bootBuiltins t=some (.type (tyName k)):=by
 unfold tyOf at h;have key:∀ (y:String),(t==(Str.ofString y))=true->t=Str.ofString y:=fun y e=>by simpa using e
 split at h
 ·rename_i e;cases h;rw[key _ e];decide +kernel
 split at h
 ·rename_i e;cases h;rw[key _ e];decide +kernel
 split at h
 ·rename_i e;cases h;rw[key _ e];decide +kernel
 split at h
 ·rename_i e;cases h;rw[key _ e];decide +kernel
 split at h
 ·rename_i e;cases h;rw[key _ e];decide +kernel
 split at h
 ·rename_i e;cases h;rw[key _ e];decide +kernel
 ·cases h
noncomputable def RIsI (K:PySem.W.Frag)(k:Ty):List V->Hp->VK->Prop:=fun xs H Q=>∃ ι M M' dx x b,xs=[x,.ty (tyName k)]/\Sim K ι M H/\Rep K ι H dx x/\tyD k dx M=some (.ok b,M')/\(M'=M->Q (.bl b) H)
theorem call_isi (k:Ty):CallR X (.builtin "isinstance") (RIsI X.K k):=by
 intro pins s σ H xs us Q I rv h;obtain⟨ι,M,M',dx,x,b,rfl,S,r,e,q⟩:=h;obtain⟨u,w',rfl,ru,rw'⟩:=vals2 rv;cases rw';have yes:∀ {c:Bool},Q (.bl c) H->EP X pins σ Q (.bool c) s:=fun h=>⟨.bl _,H,I,rfl,h⟩;have no:∀ {c:Bool},Q (.bl c) H->EP X pins σ Q (.bool c) { s with toks:=s.toks + 1 }:=fun h=>⟨.bl _,H,I.tok _,rfl,h⟩;have lst:∀ {a:Addr} {vs:List V},SqL X.K H a vs->Q (.bl (k==.list)) H->wpAny (model X.prog X.w) X.A (call (.builtin "isinstance") [.ref a,.type (tyName k)]) (EP X pins σ Q) X.xe s:=fun {a vs} hs q=>by
  obtain⟨its,_,⟨o,n,ho,hc,_⟩,_⟩:=I.list hs;cases k
  ·exact IsiPair.list_int ho hc (no q)
  ·exact IsiPair.list_str ho hc (no q)
  ·exact IsiPair.list_bool ho hc (no q)
  ·exact IsiPair.list_list ho hc (yes q)
  ·exact IsiPair.list_tuple ho hc (no q)
  ·exact IsiPair.list_dict ho hc (no q)
 cases r with
 | non =>
  cases ru;have e0:=pure_ok e;clear e;obtain⟨rfl,rfl⟩:=e0;have q:=q rfl;cases k
  ·exact IsiPair.NoneType_int (no q)
  ·exact IsiPair.NoneType_str (no q)
  ·exact IsiPair.NoneType_bool (no q)
  ·exact IsiPair.NoneType_list (no q)
  ·exact IsiPair.NoneType_tuple (no q)
  ·exact IsiPair.NoneType_dict (no q)
 | bl c =>
  cases ru;have e0:=pure_ok e;clear e;obtain⟨rfl,rfl⟩:=e0;have q:=q rfl;cases k
  ·exact IsiPair.bool_int (yes q)
  ·exact IsiPair.bool_str (no q)
  ·exact IsiPair.bool_bool (yes q)
  ·exact IsiPair.bool_list (no q)
  ·exact IsiPair.bool_tuple (no q)
  ·exact IsiPair.bool_dict (no q)
 | int c =>
  obtain⟨t,rfl⟩:=ru;have e0:=pure_ok e;clear e;obtain⟨rfl,rfl⟩:=e0;have q:=q rfl;cases k
  ·exact IsiPair.int_int (yes q)
  ·exact IsiPair.int_str (no q)
  ·exact IsiPair.int_bool (no q)
  ·exact IsiPair.int_list (no q)
  ·exact IsiPair.int_tuple (no q)
  ·exact IsiPair.int_dict (no q)
 | str c =>
  obtain⟨t,rfl⟩:=ru;have e0:=pure_ok e;clear e;obtain⟨rfl,rfl⟩:=e0;have q:=q rfl;cases k
  ·exact IsiPair.str_int (no q)
  ·exact IsiPair.str_str (yes q)
  ·exact IsiPair.str_bool (no q)
  ·exact IsiPair.str_list (no q)
  ·exact IsiPair.str_tuple (no q)
  ·exact IsiPair.str_dict (no q)
 | tup t qq =>
  cases ru;have e0:=pure_ok e;clear e;obtain⟨rfl,rfl⟩:=e0;have q:=q rfl;obtain⟨its,_,⟨o,ho,hc,_⟩,_⟩:=I.tuple (sqt t);cases k
  ·exact IsiPair.tuple_int ho hc (no q)
  ·exact IsiPair.tuple_str ho hc (no q)
  ·exact IsiPair.tuple_bool ho hc (no q)
  ·exact IsiPair.tuple_list ho hc (no q)
  ·exact IsiPair.tuple_tuple ho hc (yes q)
  ·exact IsiPair.tuple_dict ho hc (no q)
 | fl t qq =>
  cases ru;have e0:=pure_ok e;clear e;obtain⟨rfl,rfl⟩:=e0;exact lst t.seq (q rfl)
 | ob t =>
  cases ru;have e0:=bind_ok e;clear e;obtain⟨o,_,e1,e⟩:=e0;have e10:=getM_ok e1;clear e1;obtain⟨g,rfl⟩:=e10;cases o with
  | lst ds =>
   have e0:=pure_ok e;clear e;obtain⟨rfl,rfl⟩:=e0;obtain⟨p,ws,e1,hi,h3,h4⟩:=sim_list S (.ob t) g;cases e1;exact lst (SqL.of h3) (q rfl)
  | dtt kvs=>exact(stop_ok e).elim
  | dic kvs =>
   have e0:=pure_ok e;clear e;obtain⟨rfl,rfl⟩:=e0;obtain⟨p,ws,e1,hi,h3,h4⟩:=sim_dict S (.ob t) g;cases e1;have q:=q rfl;obtain⟨z,hd,rs,rel,o,es,ep,ho,⟨hc,_⟩,_⟩:=dk_rd I.hok (.inl h3);cases k
   ·exact IsiPair.dict_int ho hc (no q)
   ·exact IsiPair.dict_str ho hc (no q)
   ·exact IsiPair.dict_bool ho hc (no q)
   ·exact IsiPair.dict_list ho hc (no q)
   ·exact IsiPair.dict_tuple ho hc (no q)
   ·exact IsiPair.dict_dict ho hc (yes q)
theorem LE.isI {k:Ty}{fa:DE}(σ:St)(H:Hp)(Q:VK)(h:LE X.K (fun ρ=>do let x <- fa ρ;let b <- tyD k x;pure (.bl b)) σ H Q):tCB (RIsI X.K k) (tCons (LE X.K fa) (tCons (tC (.ty (tyName k))) tNil)) σ H Q:=by
 obtain⟨ι,ρ,M,d,M',S,R,e,q⟩:=h;have e0:=bind_ok e;clear e;obtain⟨x,M1,e1,e⟩:=e0;have e0:=bind_ok e;clear e;obtain⟨b,M2,e2,e⟩:=e0;have e0:=pure_ok e;clear e;obtain⟨rfl,rfl⟩:=e0;refine⟨ι,ρ,M,x,M1,S,R,e1,fun v H1 ι1 r1 S1 X1=>?_⟩;exact⟨ι1,M1,_,x,v,b,rfl,S1,r1,e2,fun z=>by subst z;exact q _ H1 ι1 (.bl b) S1 X1⟩
end
end L3
namespace L3
open PySem PySem.Spec PyProof.Rows L2
section
variable {X:Cx}
end
end L3
namespace L3
open PySem PySem.Spec PyProof.Rows L2
noncomputable def spOf (K:PySem.W.Frag)(n:Nat)(g:List D->Mo D):Sp:=fun vs H Q _=>vs.length=n/\∃ ι M M' ds d,Sim K ι M H/\Reps K ι H ds vs/\g ds M=some (.ok d,M') /\
 ∀ v H' ι',Rep K ι' H' d v->Sim K ι' M' H'->Ext K ι H ι' H'->Q v H'
noncomputable def FnR (X:Cx)(g:List D->Mo D)(f:Str):Prop:=∃ (k:Nat) (fa:Addr) (fd:FuncData) (ps:List Str),X.mg f=some (.ref fa)/\PySem.W.keepIn X.K (.ref fa)=true/\Binds X.K fd ps [] /\
 FnOk X.prog X.w X.K X.mg X.base CX0 k fa fd ps (spOf X.K ps.length g)/\Room k X.A/\∀ ds M d M',g ds M=some (.ok d,M')->ds.length=ps.length
structure CxOk (Γ:Ctx) (S:Sc) (X:Cx):Prop where
 n:X.N=S.N
 sc:∀ x k,S.sc.names.lookup x=some k->∃ k',X.env.scope.names.lookup x=some k'/\(k'=k\/(k=.free/\k'=.cell))
 calm:X.calm=true
 hu:X.A.units + 100 < cLine
 nox:X.xe=fun _ _=>False
 fns:∀ f∈S.fns,FnR X (Γ.fn f) f
 gls:∀ x∈S.gls,∃ d u v,Γ.gl x=some d/\X.mg x=some u/\RelV v u/\∀ ι H,Rep X.K ι H d v
 bls:∀ x∈S.bls,X.mg x=none
 nd:X.N.Nodup
section
variable {Γ:Ctx}{S:Sc}{X:Cx}
theorem CxOk.vis (C:CxOk Γ S X){x:Str}(h:S.vis x=true):Vis X.env.scope x:=by
 unfold Sc.vis Sc.kind at h;simp only[Bool.or_eq_true,beq_iff_eq]at h;rcases h with (h | h) | h
 ·obtain⟨k',h1,rfl | ⟨h2,_⟩⟩:=C.sc _ _ h
  ·exact .inl h1
  ·cases h2
 ·obtain⟨k',h1,rfl | ⟨h2,_⟩⟩:=C.sc _ _ h
  ·exact .inr (.inl h1)
  ·cases h2
 ·obtain⟨k',h1,rfl | ⟨_,rfl⟩⟩:=C.sc _ _ h
  ·exact .inr (.inr h1)
  ·exact .inr (.inl h1)
theorem CxOk.loc (C:CxOk Γ S X){x:Str}(h:S.loc x=true):Loc X.env.scope x:=by
 unfold Sc.loc Sc.kind at h;simp only[Bool.or_eq_true,beq_iff_eq]at h;rcases h with h | h
 ·obtain⟨k',h1,rfl | ⟨h2,_⟩⟩:=C.sc _ _ h
  ·exact .inl h1
  ·cases h2
 ·obtain⟨k',h1,rfl | ⟨h2,_⟩⟩:=C.sc _ _ h
  ·exact .inr h1
  ·cases h2
theorem CxOk.glo (C:CxOk Γ S X){x:Str}(h:S.glo x=true):Gl X x:=by
 unfold Sc.glo Sc.kind at h;simp only[beq_iff_eq]at h;obtain⟨k',h1,rfl | ⟨h2,_⟩⟩:=C.sc _ _ h
 ·exact h1
 ·cases h2
theorem slot_get {N:List Str}{x:Str}{i:Nat}(h:slot N x=some i):N[i]?=some x:=by
 unfold slot at h;obtain⟨hi,h1,_⟩:=List.findIdx?_eq_some_iff_getElem.mp h;rw[List.getElem?_eq_getElem hi];simpa using h1
theorem okName_debug {x:Str}(h:okName x=true):(x==("__debug__" : Str))=false/\(x==("__classdict__" : Str))=false/\x≠"__name__":=by
 unfold okName at h;simp only[Bool.and_eq_true,bne_iff_ne,ne_eq]at h;exact⟨beq_eq_false_iff_ne.mpr h.1.1,beq_eq_false_iff_ne.mpr h.1.2,h.2⟩
theorem star_plain {e:Expr}{es:List Expr}{env:Env}(h:plainE e=true):starEach (e::es) env=(false,eval e env)::starEach es env:=by
 cases e <;> first | rfl | cases h
theorem back_plain {pos:Pos}{env:Env}:∀ {es:List Expr},es.all plainE=true->(backTo pos (starEach es env)).any (·.1)=false
 | [],_=>rfl
 | e::es,h=>by
  rw[List.all_cons,Bool.and_eq_true]at h;rw[star_plain h.1];show (false||(backTo pos (starEach es env)).any (·.1))=false;rw[back_plain h.2];rfl
noncomputable def Its (y:Str):It:=⟨fun i _=>i < y.cps.size,fun i H x H'=>H'=H/\∃ c,y.cps[i]?=some c/\x=.str ⟨#[c]⟩,fun i _=>i=y.cps.size⟩
theorem turn_str {P:Program}{w:World}{K:PySem.W.Frag}{tg:Expr}{it:Addr}{y:Str}{t:Tok}{ty:String}(hW:∀ A':Around,A'.handled=none->Walks P w A' it [it] [it] y.cps.size (SignAt y) (fun i h=>h.IsStrIter it ty y t i))
  (hn:["enumerate","zip","dict_itemiterator","dict_reverseitemiterator","odict_iterator","itertools.zip_longest","itertools.pairwise"].contains ty=false)
  (hself:∀ (A:Around) (i:Nat) (s:Shared) (Q:Value->Shared->Prop) (E:Value->Shared->Prop),s.heap.IsStrIter it ty y t i->Q (.ref it) s->wpAny (model P w) A (pyIter (.ref it)) Q E s) :
  Turn P w K tg (Its y) [it] it (fun i h=>h.IsStrIter it ty y t i) where
 mem:=by simp
 obj:=fun i h st b hb=>by
  have e:b=it:=by simpa using hb
  subst e;obtain⟨o,h1,h2,h3⟩:=st;exact⟨o,h1,fun v z=>by rw[h3]at z;cases z⟩
 keep:=fun i h h' st k=>by
  obtain⟨o,h1,h2⟩:=st;exact⟨o,k it (by simp) o h1,h2⟩
 item:=by
  intro X hP hw hK hc i pins s σ H E I hf st hg;subst hP hw hK;obtain⟨f0,f1,f2,f3,f4,f5⟩:=hf it (by simp);refine(hW X.A (I.ok.hd hc)).item i s _ _ hg st fun v h' tk hv st' kk=>?_;obtain⟨c,t',hc',rfl⟩:=hv;have I1:Inv X pins σ H { s with heap:=h',toks:=tk }:=I.turned (fun b o hb e=>kk b o (by simpa using hb) e) f0 f1 f3 f4 f5;obtain⟨o,h1,h2,h3⟩:=id st';exact⟨_,rfl,go_of (s:={ s with heap:=h',toks:=tk }) h1 h2 h3 hn ⟨.str ⟨#[c]⟩,H,I1,⟨t',rfl⟩,⟨rfl,c,hc',rfl⟩,st',fun b hb=>(hf b hb).1⟩⟩
 done:=by
  intro X hP hw hK hc i pins s σ H E I hf st hg;subst hP hw hK;obtain⟨f0,f1,f2,f3,f4,f5⟩:=hf it (by simp);have hg':i=y.cps.size:=hg;subst hg';exact(hW X.A (I.ok.hd hc)).done s _ _ st fun h' tk kk=>⟨rfl,I.turned (fun b o hb e=>kk b o (by simpa using hb) e) f0 f1 f3 f4 f5⟩
 self:=hself
noncomputable def iAny (K:PySem.W.Frag)(tl:TE):TI:=fun σ H R=>tl σ H fun x H1=>(∃ a xs,x=.ref a/\SqL K H1 a xs/\R (Itl K a) H1)\/(∃ a xs,x=.ref a/\SqT K H1 a xs/\R (Itt K a) H1)\/∃ y,x=.str y/\R (Its y) H1
theorem pi_any {X:Cx}{tg l:Expr}{tl:TE}(hl:PE X l tl):PI X tg l (iAny X.K tl):=by
 intro pins s σ H R I h;refine thn (hl pins s σ H _ I h) fun v s1 ⟨x,H1,I1,r1,q1⟩=>?_;rcases q1 with ⟨a,xs,e,hq,q⟩|⟨a,xs,e,hq,q⟩|⟨y,e,q⟩
 ·subst e
  cases r1;obtain⟨its,rv,p,hz⟩:=I1.list hq;refine wpAny_pyIter_list p.isList ?_;refine⟨s1.heap.objs.size,[s1.heap.objs.size],_,_,H1,rfl,I1.kept (t':=s1.toks) fun b o e=>Heap.get?_push_of_some _ e,turn_list a _,⟨_,Heap.get?_push_size _ rfl,rfl,rfl⟩,fun b hb=>?_,q⟩;have e:b=s1.heap.objs.size:=by simpa using hb
  subst e;exact I1.fpOk (Nat.le_refl _) (I1.hok.fresh (Nat.le_refl _))
 ·subst e
  cases r1;obtain⟨its,rv,p,hz⟩:=I1.tuple hq;refine wpAny_pyIter_tuple (show s1.heap.IsTuple a its.toArray from p) ?_;refine⟨s1.heap.objs.size,[s1.heap.objs.size],_,_,H1,rfl,I1.kept (t':=s1.toks) fun b o e=>Heap.get?_push_of_some _ e,turn_tuple a _,⟨_,Heap.get?_push_size _ rfl,rfl,rfl⟩,fun b hb=>?_,q⟩;have e:b=s1.heap.objs.size:=by simpa using hb
  subst e;exact I1.fpOk (Nat.le_refl _) (I1.hok.fresh (Nat.le_refl _))
 ·subst e
  obtain⟨t,rfl⟩:=r1;cases ha:y.cps.all (· < 128)
  ·refine wpAny_pyIter_wide ha ?_
   refine⟨s1.heap.objs.size,[s1.heap.objs.size],_,_,H1,rfl,I1.kept (t':=s1.toks) fun b o e=>Heap.get?_push_of_some _ e,turn_str (t:=t) (fun A' hA=>Walks.strWide hA _ y t) (by decide) (fun _ _ _ _ _ st hQ=>wpAny_pyIter_striter_wide st hQ),⟨_,Heap.get?_push_size _ rfl,rfl,rfl⟩,fun b hb=>?_,q⟩;have e:b=s1.heap.objs.size:=by simpa using hb
   subst e;exact I1.fpOk (Nat.le_refl _) (I1.hok.fresh (Nat.le_refl _))
  ·refine wpAny_pyIter_ascii ha ?_
   refine⟨s1.heap.objs.size,[s1.heap.objs.size],_,_,H1,rfl,I1.kept (t':=s1.toks) fun b o e=>Heap.get?_push_of_some _ e,turn_str (t:=t) (fun A' hA=>Walks.strAscii hA _ y t) (by decide) (fun _ _ _ _ _ st hQ=>wpAny_pyIter_striter_ascii st hQ),⟨_,Heap.get?_push_size _ rfl,rfl,rfl⟩,fun b hb=>?_,q⟩;have e:b=s1.heap.objs.size:=by simpa using hb
   subst e;exact I1.fpOk (Nat.le_refl _) (I1.hok.fresh (Nat.le_refl _))
noncomputable def ItOk (K:PySem.W.Frag)(ι:List Addr)(H:Hp)(src:Src)(J:It):Prop:=∀ (ι2:List Addr) (H2:Hp) (M2:MH),Ext K ι H ι2 H2->Sim K ι2 M2 H2->okM src.ck M2 ->
 (∀ (i:Nat) (d:D),src.ds[i]?=some d->J.go i H2/\∀ x H',J.yld i H2 x H'->H'=H2/\Rep K ι2 H2 d x)/\J.stop src.ds.length H2
noncomputable def LI (K:PySem.W.Frag)(f:Ev->Mo Src):TI:=fun σ H R=>∃ ι ρ M src M',Sim K ι M H/\EnvR K ι H ρ σ/\f ρ M=some (.ok src,M') /\
 ∀ J H' ι',Sim K ι' M' H'->Ext K ι H ι' H'->ItOk K ι' H' src J->R J H'
theorem PI.imp {X:Cx}{tg e:Expr}{t t':TI}(h:PI X tg e t)(k:∀ σ H R,t' σ H R->t σ H R):PI X tg e t':=fun pins s σ H R I q=>h pins s σ H R I (k σ H R q)
theorem LI.seq {K:PySem.W.Frag}{f:DE}(σ:St)(H:Hp)(R:It->Hp->Prop)(h:LI K (fun ρ=>do let x <- f ρ;srcD x) σ H R):iAny K (LE K f) σ H R:=by
 obtain⟨ι,ρ,M,src,M',S,Rr,e,k⟩:=h;have e0:=bind_ok e;clear e;obtain⟨x,M1,e1,e⟩:=e0;refine⟨ι,ρ,M,x,M1,S,Rr,e1,fun v H1 ι1 r1 S1 X1=>?_⟩;cases r1 with
 | tup t q =>
  have e0:=pure_ok e;clear e;obtain⟨rfl,rfl⟩:=e0;refine .inr (.inl ⟨_,_,rfl,sqt t,k _ H1 ι1 S1 X1 fun ι2 H2 M2 x2 S2 ok=>⟨fun i d hd=>?_,⟨_,sqt (x2.tup _ _ t),Nat.le_of_eq (q.length.symm)⟩⟩⟩);obtain⟨v,hv,rv⟩:=(q.mono x2).get hd;exact⟨⟨_,v,sqt (x2.tup _ _ t),hv⟩,fun x' H' y=>⟨y.1,by have:=y.2 _ (sqt (x2.tup _ _ t));rw[hv]at this;cases this;exact rv⟩⟩
 | fl t q =>
  have e0:=pure_ok e;clear e;obtain⟨rfl,rfl⟩:=e0;refine .inl ⟨_,_,rfl,t.seq,k _ H1 ι1 S1 X1 fun ι2 H2 M2 x2 S2 ok=>⟨fun i d hd=>?_,⟨_,(x2.fz _ _ t).seq,Nat.le_of_eq (q.length.symm)⟩⟩⟩;obtain⟨v,hv,rv⟩:=(q.mono x2).get hd;exact⟨⟨_,v,(x2.fz _ _ t).seq,hv⟩,fun x' H' y=>⟨y.1,by have:=y.2 _ (x2.fz _ _ t).seq;rw[hv]at this;cases this;exact rv⟩⟩
 | str y =>
  have e0:=bind_ok e;clear e;obtain⟨_,_,e2,e⟩:=e0;have e20:=need_ok e2;clear e2;obtain⟨hn,rfl⟩:=e20;have e0:=pure_ok e;clear e;obtain⟨rfl,rfl⟩:=e0;refine .inr (.inr ⟨y,rfl,k _ H1 ι1 S1 X1 fun ι2 H2 M2 x2 S2 ok=>⟨fun i d hd=>?_,?_⟩⟩)
  ·rw[List.getElem?_map]at hd
   cases hc:y.cps.toList[i]? with
   | none=>rw[hc]at hd;cases hd
   | some c =>
    rw[hc]at hd;cases hd;have hc':y.cps[i]?=some c:=by simpa using hc
    refine⟨?_,fun x' H' yy=>?_⟩
    ·exact(Array.getElem?_eq_some_iff.mp hc').1
    ·obtain⟨h1,c',h2,rfl⟩:=yy
     rw[hc']at h2;cases h2;exact⟨h1,.str _⟩
  ·show (y.cps.toList.map sgn).length=y.cps.size
   simp
 | ob t =>
  have e0:=bind_ok e;clear e;obtain⟨ds,_,e2,e⟩:=e0;have e20:=getL_ok e2;clear e2;obtain⟨g,rfl⟩:=e20;have e0:=pure_ok e;clear e;obtain⟨rfl,rfl⟩:=e0;obtain⟨a,vs,h1,h2,h3,h4⟩:=sim_list S1 (.ob t) g;cases h1;refine .inl ⟨_,vs,rfl,SqL.of h3,k _ H1 ι1 S1 X1 fun ι2 H2 M2 x2 S2 ok=>?_⟩;have ok':M2[_]?=some (MO.lst ds):=ok;obtain⟨a2,vs2,g1,g2,g3,g4⟩:=sim_list S2 (.ob (x2.pre _ _ h2)) ok';cases g1;refine⟨fun i d hd=>?_,⟨vs2,SqL.of g3,Nat.le_of_eq (g4.length.symm)⟩⟩;obtain⟨v,hv,rv⟩:=g4.get hd;exact⟨⟨_,v,SqL.of g3,hv⟩,fun x' H' y=>⟨y.1,by have:=y.2 _ (SqL.of g3);rw[hv]at this;cases this;exact rv⟩⟩
 | _=>exact(stop_ok e).elim
theorem itr_ok {K:PySem.W.Frag}{ι:List Addr}{H:Hp}{lo hi:Int}:ItOk K ι H ⟨none,rngD lo hi⟩ (Itr lo (hi - lo).toNat):=fun ι2 H2 M2 x2 S2 _=>by
 refine⟨fun i d hd=>?_,?_⟩
 ·unfold rngD at hd
  rw[List.getElem?_map]at hd;cases hc:(List.range (hi - lo).toNat)[i]? with
  | none=>rw[hc]at hd;cases hd
  | some c =>
   rw[hc]at hd;cases hd;obtain⟨h1,h2⟩:=List.getElem?_eq_some_iff.mp hc;rw[List.length_range]at h1;rw[List.getElem_range]at h2;subst h2;refine⟨h1,fun x' H' y=>?_⟩;obtain⟨y1,rfl⟩:=y;exact⟨y1,.int _⟩
 ·show (hi - lo).toNat<=(rngD lo hi).length
  unfold rngD;rw[List.length_map,List.length_range];exact Nat.le_refl _
theorem LI.rng1 {K:PySem.W.Frag}{f:DE}(σ:St)(H:Hp)(R:It->Hp->Prop)(h:LI K (fun ρ=>do
  let x <- f ρ
  (match x with
  | .int i=>do need (small i);pure ⟨none,rngD 0 i⟩
  | _=>Mo.stop)) σ H R):iRng1 (tCons (LE K f) tNil) σ H R:=by
 obtain⟨ι,ρ,M,src,M',S,Rr,e,k⟩:=h;have e0:=bind_ok e;clear e;obtain⟨x,M1,e1,e⟩:=e0;refine⟨ι,ρ,M,x,M1,S,Rr,e1,fun v H1 ι1 r1 S1 X1=>?_⟩;cases r1 with
 | int i =>
  have e0:=bind_ok e;clear e;obtain⟨_,_,e2,e⟩:=e0;have e20:=need_ok e2;clear e2;obtain⟨hn,rfl⟩:=e20;have e0:=pure_ok e;clear e;obtain⟨rfl,rfl⟩:=e0;refine⟨i,rfl,hn.1,hn.2,k _ H1 ι1 S1 X1 ?_⟩
  have:=@itr_ok K ι1 H1 0 i
  rw[Int.sub_zero]at this;exact this
 | _=>exact(stop_ok e).elim
theorem LI.rng2 {K:PySem.W.Frag}{f g:DE}(σ:St)(H:Hp)(R:It->Hp->Prop)(h:LI K (fun ρ=>do
  let x <- f ρ
  let y <- g ρ
  (match x,y with
  | .int i,.int j=>do need (small i/\small j);pure ⟨none,rngD i j⟩
  | _,_=>Mo.stop)) σ H R):iRng2 (tCons (LE K f) (tCons (LE K g) tNil)) σ H R:=by
 obtain⟨ι,ρ,M,src,M',S,Rr,e,k⟩:=h;have e0:=bind_ok e;clear e;obtain⟨x,M1,e1,e⟩:=e0;have e0:=bind_ok e;clear e;obtain⟨y,M2,e2,e⟩:=e0;refine⟨ι,ρ,M,x,M1,S,Rr,e1,fun v H1 ι1 r1 S1 X1=>?_⟩;refine⟨ι1,ρ,M1,y,M2,S1,Rr.mono X1,e2,fun u H2 ι2 r2 S2 X2=>?_⟩;cases r1 with
 | int i =>
  cases r2 with
  | int j =>
   have e0:=bind_ok e;clear e;obtain⟨_,_,e2,e⟩:=e0;have e20:=need_ok e2;clear e2;obtain⟨hn,rfl⟩:=e20;have e0:=pure_ok e;clear e;obtain⟨rfl,rfl⟩:=e0;exact⟨i,j,rfl,⟨hn.1.1,hn.1.2,hn.2.1,hn.2.2⟩,k _ H2 ι2 S2 (X1.trans X2) itr_ok⟩
  | _=>exact(stop_ok e).elim
 | _=>exact(stop_ok e).elim
theorem stand_ok {ck:Option (Nat×List D)}{M M':MH}{u:Unit}(h:stand ck M=some (.ok u,M')):okM ck M/\M'=M:=by
 unfold stand at h;split at h
 ·rename_i hp;cases h;exact⟨hp,rfl⟩
 ·cases h
theorem LS.loop {K:PySem.W.Frag}{i:Nat}{fs:Ev->Mo Src}{fb:Ev->Mo Fl}(D:Ends)(σ:St)(H:Hp)(h:LS K (fun ρ=>do let s <- fs ρ;loopD s.ck i fb s.ds ρ) D σ H):tFor (LI K fs) (gName i) (LS K fb) D σ H:=by
 obtain⟨ι,ρ,M,fl,M',S,R,e,k⟩:=h;have e0:=bind_ok e;clear e;obtain⟨src,M1,e1,e⟩:=e0;refine⟨ι,ρ,M,src,M1,S,R,e1,fun J H1 ι1 S1 X1 hJ=>?_⟩;refine⟨fun j m σ' H'=>m=src.ds.length - j/\j<=src.ds.length/\∃ ι' ρ' M2,Sim K ι' M2 H'/\EnvR K ι' H' ρ' σ'/\Ext K ι1 H1 ι' H'/\loopD src.ck i fb (src.ds.drop j) ρ' M2=some (.ok fl,M'),
  ⟨_,rfl,Nat.zero_le _,ι1,ρ,M1,S1,R.mono X1,Ext.refl,e⟩,?_⟩
 rintro j m σ' H' ⟨rfl,hj,ι',ρ',M2,S2,R2,X2,e2⟩;by_cases hlt:j < src.ds.length
 ·right
  rw[List.drop_eq_getElem_cons hlt]at e2;have e20:=bind_ok e2;clear e2;obtain⟨_,_,e3,e2⟩:=e20;have e30:=stand_ok e3;clear e3;obtain⟨ok,rfl⟩:=e30;have e20:=bind_ok e2;clear e2;obtain⟨f,M3,e3,e2⟩:=e20;obtain⟨go,yld⟩:=(hJ ι' H' _ X2 S2 ok).1 j _ (List.getElem?_eq_getElem hlt);refine⟨go,fun σ3 H3=>∃ ι3 ρ3 M4,Sim K ι3 M4 H3/\EnvR K ι3 H3 ρ3 σ3/\Ext K ι1 H1 ι3 H3/\loopD src.ck i fb (src.ds.drop (j + 1)) ρ3 M4=some (.ok fl,M'),
   fun σ3 H3 ⟨ι3,ρ3,M4,h1,h2,h3,h4⟩=>⟨src.ds.length - (j + 1),by omega,rfl,hlt,ι3,ρ3,M4,h1,h2,h3,h4⟩,fun x H'' y=>?_⟩
  obtain⟨rfl,rx⟩:=yld x H'' y;refine⟨ι',_,_,f,M3,S2,R2.set rx i,e3,fun H3 ι3 S3 X3=>?_⟩;cases f with
  | nx ρ3=>exact fun σ3 R3=>⟨ι3,ρ3,M3,S3,R3,X2.trans X3,e2⟩
  | ct ρ3=>exact fun σ3 R3=>⟨ι3,ρ3,M3,S3,R3,X2.trans X3,e2⟩
  | bk ρ3 =>
   have e20:=pure_ok e2;clear e2;obtain⟨rfl,rfl⟩:=e20;exact fun σ3 R3=>k H3 ι3 S3 ((X1.trans X2).trans X3) σ3 R3
  | rt v =>
   have e20:=pure_ok e2;clear e2;obtain⟨rfl,rfl⟩:=e20;exact fun v' r'=>k H3 ι3 S3 ((X1.trans X2).trans X3) v' r'
 ·left
  have ej:j=src.ds.length:=by first | lia | omega
  subst ej;rw[List.drop_length]at e2;have e20:=bind_ok e2;clear e2;obtain⟨_,_,e3,e2⟩:=e20;have e30:=stand_ok e3;clear e3;obtain⟨ok,rfl⟩:=e30;have e20:=pure_ok e2;clear e2;obtain⟨rfl,rfl⟩:=e20;exact⟨(hJ ι' H' _ X2 S2 ok).2,k H' ι' S2 (X1.trans X2) σ' R2⟩
theorem LE.comp {K:PySem.W.Frag}{j:Nat}{fs:Ev->Mo Src}{fc:Ev->Mo Bool}{fe:DE}(σ:St)(H:Hp)(Q:VK)(h:LE K (fun ρ=>do
  let s <- fs ρ
  need (s.ds.length<=sizeLine)
  let ys <- compD s.ck fc fe (ρ.set j none) s.ds
  newM (.lst ys)) σ H Q):tComp (LI K fs) (gName 0) 1 (LT K fc) (LE K fe) σ H Q:=by
 obtain⟨ι,ρ,M,d,M',S,R,e,k⟩:=h;have e0:=bind_ok e;clear e;obtain⟨src,M1,e1,e⟩:=e0;have e0:=bind_ok e;clear e;obtain⟨_,_,e2,e⟩:=e0;have e20:=need_ok e2;clear e2;obtain⟨hn,rfl⟩:=e20;have e0:=bind_ok e;clear e;obtain⟨all,M2,e2,e⟩:=e0;refine⟨ι,ρ,M,src,_,S,R,e1,fun J H1 ι1 S1 X1 hJ=>?_⟩;refine⟨fun i m ys H'=>m=src.ds.length - i/\i<=src.ds.length/\ys.length<=i/\∃ ι' ds rest M3,Sim K ι' M3 H'/\Ext K ι1 H1 ι' H'/\Reps K ι' H' ds ys/\compD src.ck fc fe (ρ.set j none) (src.ds.drop i) M3=some (.ok rest,M2)/\all=ds++rest,
  ⟨_,rfl,Nat.zero_le _,Nat.le_refl _,ι1,[],all,_,S1,Ext.refl,.nil,e2,rfl⟩,?_⟩
 rintro i m ys H' ⟨rfl,hi,hy,ι',ds,rest,M3,S3,X3,r3,e3,ea⟩;by_cases hlt:i < src.ds.length
 ·right
  rw[List.drop_eq_getElem_cons hlt]at e3;have e30:=bind_ok e3;clear e3;obtain⟨_,_,e4,e3⟩:=e30;have e40:=stand_ok e4;clear e4;obtain⟨ok,rfl⟩:=e40;have e30:=bind_ok e3;clear e3;obtain⟨b,M4,e4,e3⟩:=e30;obtain⟨go,yld⟩:=(hJ ι' H' _ X3 S3 ok).1 i _ (List.getElem?_eq_getElem hlt);refine⟨go,by omega,fun v H'' os ho y=>?_⟩;obtain⟨rfl,rx⟩:=yld v H'' y;obtain⟨o1,rfl⟩:=List.length_eq_one_iff.mp ho;refine⟨[some v],rfl,rfl,?_⟩;have RR:EnvR K ι' H'' (some src.ds[i]::ρ.set j none) (some v::σ):=((R.mono X1).mono X3).comp rx j;refine⟨ι',_,_,b,M4,S3,RR,e4,fun H4 ι4 S4 X4=>?_⟩;cases b with
  | true =>
   rw[if_pos rfl]at e3 ⊢;have e30:=bind_ok e3;clear e3;obtain⟨y',M5,e5,e3⟩:=e30;have e30:=bind_ok e3;clear e3;obtain⟨ys',M6,e6,e3⟩:=e30;have e30:=pure_ok e3;clear e3;obtain⟨rfl,rfl⟩:=e30;refine⟨ι4,_,_,y',M5,S4,RR.mono X4,e5,fun v5 H5 ι5 r5 S5 X5=>?_⟩;exact⟨src.ds.length - (i + 1),by omega,rfl,hlt,by rw[List.length_append];exact Nat.succ_le_succ hy,ι5,ds++[y'],ys',M5,S5,(X3.trans X4).trans X5,((r3.mono X4).mono X5).append (.cons r5 .nil),e6,by rw[ea,List.append_assoc];rfl⟩
  | false =>
   rw[if_neg Bool.false_ne_true]at e3 ⊢;exact⟨src.ds.length - (i + 1),by omega,rfl,hlt,Nat.le_succ_of_le hy,ι4,ds,rest,M4,S4,X3.trans X4,r3.mono X4,e3,ea⟩
 ·left
  have ei:i=src.ds.length:=by first | lia | omega
  subst ei;rw[List.drop_length]at e3;have e30:=bind_ok e3;clear e3;obtain⟨_,_,e4,e3⟩:=e30;have e40:=stand_ok e4;clear e4;obtain⟨ok,rfl⟩:=e40;have e30:=pure_ok e3;clear e3;obtain⟨rfl,rfl⟩:=e30;rw[List.append_nil]at ea;subst ea;refine⟨(hJ ι' H' _ X3 S3 ok).2,by omega,new_list S3 r3 e fun v H5 ι5 r5 S5 X5=>k v H5 ι5 r5 S5 ((X1.trans X3).trans X5)⟩
end
end L3
namespace L3
open PySem PySem.Spec PyProof.Rows L2
section
variable {X:Cx}{pins:List (Addr×Obj)}{σ:St}{H:Hp}{s:Shared}{h':Heap}
structure Young (X:Cx) (pins:List (Addr×Obj)) (a:Addr):Prop where
 lo:X.s₀.heap.objs.size<=a
 fr:a≠X.env.locals
 cl:∀ y c,X.env.cells.lookup y=some c->c≠a
 pn:∀ p∈X.pn++pins,p.1≠a
theorem young_of (I:Inv X pins σ H s){a:Addr}(h:s.heap.objs.size<=a):Young X pins a:=by
 refine⟨Nat.le_trans I.sz h,Nat.ne_of_gt (Nat.lt_of_lt_of_le I.lt h),fun y c e z=>?_,fun p hp z=>?_⟩
 ·obtain⟨v,o,ho,_⟩:=I.cell y c e
  exact absurd (Nat.lt_of_lt_of_le (Heap.lt_size ho) (by rw[z];exact h)) (Nat.lt_irrefl _)
 ·exact absurd (Nat.lt_of_lt_of_le (Heap.lt_size (I.pin p hp).1) (by rw[z];exact h)) (Nat.lt_irrefl _)
theorem inv_adopt (I:Inv X pins σ H s){a:Addr}{o:HO}(hn:H a=none)(y:Young X pins a)(new:ObjOk X.prog X.w (upd H a o) s.heap a o):Inv X pins σ (upd H a o) s where
 ok:=I.ok
 os:=I.os
 bare:=I.bare
 base:=Un.adopt I.base (Heap.get?_none_of_le y.lo) hn
 loc:=I.loc
 cell:=I.cell
 free:=by rw[upd_ne (Ne.symm y.fr)];exact I.free
 freeC:=fun x c e=>by rw[upd_ne (y.cl x c e)];exact I.freeC x c e
 pin:=fun p hp=>by
  obtain⟨h1,h2,h3⟩:=I.pin p hp;exact⟨h1,by rw[upd_ne (y.pn p hp)];exact h2,h3⟩
 hok:=HOk.adopt I.hok hn new
 len:=I.len
theorem turned2 {t':Nat}{a b:Addr}(I:Inv X pins σ H s)(k:∀ c o,c≠a->c≠b->s.heap.get? c=some o->h'.get? c=some o)(fa:FpOk X pins H a)(fb:FpOk X pins H b):Inv X pins σ H { s with heap:=h',toks:=t' }:=by
 obtain⟨a0,a1,_,a3,a4,a5⟩:=fa;obtain⟨b0,b1,_,b3,b4,b5⟩:=fb;have na:∀ c u,H c=some u->c≠a:=fun c u e z=>by rw[z,a0]at e;cases e
 have nb:∀ c u,H c=some u->c≠b:=fun c u e z=>by rw[z,b0]at e;cases e
 have k':∀ c o,c ∉ [a,b]->s.heap.get? c=some o->h'.get? c=some o:=fun c o hc e=>k c o (fun z=>hc (by simp[z])) (fun z=>hc (by simp[z])) e;refine I.step (g':=s.gens) (d':=s.drawn) (ch:=[a,b]) (fun c hc=>?_) (fun c o _ _ hc e _=>k' c o hc e) (fun c o _ _ hc e _=>⟨o.slots,k' c o hc e⟩) (fun _ _ _ _ n=>n)
  (fun c o hc e=>⟨o,k' c o hc e⟩) (fun _ _ e=>e) (fun _ _ _ e=>e) (fun c ps e=>⟨#[],by rw[e];simp⟩) (fun m hm=>?_) (fun c u e=>?_) I.bare
 ·rcases List.mem_cons.mp hc with rfl | hc
  ·exact⟨a3,a1,a4,a5⟩
  ·rw[List.mem_singleton.mp hc]
   exact⟨b3,b1,b4,b5⟩
 ·obtain⟨o,es,ep,ho,r⟩:=hm
  exact⟨o,es,ep,k _ o (Ne.symm a1) (Ne.symm b1) ho,r⟩
 ·refine(I.hok c u e).stay (fun d v hd q=>?_) (fun _ q=>q) fun _ _ q=>q
  rcases hd with z | z
  ·exact k d v (by rw[z];exact na c u e) (by rw[z];exact nb c u e) q
  ·exact k d v (na d _ z) (nb d _ z) q
end
noncomputable def Ite (K:PySem.W.Frag)(a:Addr):It :=
 ⟨fun i H=>∃ xs x,SqL K H a xs/\xs[i]?=some x,fun i H x H'=>∃ p v,x=.ref p/\H p=none/\H'=upd H p (.tup [.int i,v])/\∀ xs,SqL K H a xs->xs[i]?=some v,fun i H=>∃ xs,SqL K H a xs/\xs.length<=i⟩
theorem turn_enum {P:Program}{w:World}{K:PySem.W.Frag}{es:List Expr}{x1:Nat}{pos:Pos}(a e it:Addr)(ne:e≠it):Turn P w K (.Tuple es x1 pos) (Ite K a) [e,it] e (fun i h=>(∃ old,IsEnum h e it i old)/\h.IsListIter it a i) where
 mem:=by simp
 obj:=fun i h st b hb=>by
  obtain⟨⟨old,he⟩,o,h1,c,d⟩:=st;rcases List.mem_cons.mp hb with rfl | hb
  ·exact⟨_,he,fun v z=>by cases z⟩
  ·rw[List.mem_singleton.mp hb]
   exact⟨o,h1,fun v z=>by rw[d]at z;cases z⟩
 keep:=fun i h h' st k=>by
  obtain⟨⟨old,he⟩,hi⟩:=st;exact⟨⟨old,k e (by simp) _ he⟩,hi.at fun o q=>k it (by simp) o q⟩
 item:=by
  intro X hP hw hK hc i pins s σ H E I hf st hg;subst hP hw hK;obtain⟨⟨old,he⟩,hi⟩:=st;obtain⟨xs,x,hq,hx⟩:=hg;obtain⟨its,rv,p,hz⟩:=I.list hq;obtain⟨u,hu,ru⟩:=rv.get hx;have fe:=hf e (by simp);have fi:=hf it (by simp);refine wpAny_pyNext_enum_item he hi p.isList (x:=u) (by simpa using hu) ne fun h1 ho hi1 ht hs1 hk=>?_;refine⟨_,rfl,wpAny_letOwnedTupleGo_enum (s:={ s with heap:=h1,toks:=s.toks + 1 }) ho fun h2 he2 sb=>?_⟩;have sb:Heap.SameBut e h1 h2:=sb;have lte:e < s.heap.objs.size:=Heap.lt_size he;have keep:∀ c o,c≠e->c≠it->s.heap.get? c=some o->h2.get? c=some o:=fun c o n1 n2 q=>(sb.2 c n1).trans (hk c o n1 n2 q);have I1:Inv X pins σ H { s with heap:=h2,toks:=s.toks + 1 }:=turned2 I keep fe fi;have fr:H s.heap.objs.size=none:=I.hok.fresh (Nat.le_refl _);have ht2:h2.get? s.heap.objs.size=some { cls:=.type "tuple",data:=.seq #[.int i s.toks,u] }:=(sb.2 _ (Nat.ne_of_gt lte)).trans ht;have y:Young X pins s.heap.objs.size:=young_of I (Nat.le_refl _);have I2:Inv X pins σ (upd H s.heap.objs.size (.tup [.int i,x])) { s with heap:=h2,toks:=s.toks + 1 } :=
   inv_adopt I1 fr y ⟨by show 2<=sizeLine;decide,[.int i s.toks,u],.cons ⟨_,rfl⟩ (.cons ru .nil),⟨⟨_,ht2,rfl,0,rfl⟩,fun o q=>by rw[ht2]at q;cases q;exact⟨rfl,rfl⟩⟩⟩
  refine⟨.ref s.heap.objs.size,_,I2,rfl,⟨_,x,rfl,fr,rfl,fun ys hy=>by rw[I.list_inj hy hq];exact hx⟩,⟨⟨u,?_⟩,?_⟩,fun b hb=>?_⟩
  ·have:((i + 1:Nat):Int)=(i:Int) + 1:=by first | lia | omega
   rw[this];exact he2
  ·exact hi1.extBut sb.extBut (Ne.symm ne)
  ·have hbn:H b=none:=(hf b hb).1
   rcases List.mem_cons.mp hb with rfl | hb
   ·rw[upd_ne (Nat.ne_of_lt lte)];exact hbn
   ·have eb:=List.mem_singleton.mp hb
    subst eb;obtain⟨o,h3,_⟩:=hi;rw[upd_ne (Nat.ne_of_lt (Heap.lt_size h3))];exact hbn
 done:=by
  intro X hP hw hK hc i pins s σ H E I hf st hg;subst hP hw hK;obtain⟨⟨old,he⟩,hi⟩:=st;obtain⟨xs,hq,hx⟩:=hg;obtain⟨its,rv,p,hz⟩:=I.list hq;obtain⟨f0,f1,f2,f3,f4,f5⟩:=hf it (by simp);have hl:=rv.length;exact wpAny_pyNext_enum_end (I.ok.hd hc) he hi p.isList (by simp;omega) fun h' eb=>⟨rfl,I.turned (t':=s.toks) (fun b o hb e=>eb b o hb e) f0 f1 f3 f4 f5⟩
 self:=fun _ _ _ _ _ st h=>by
  obtain⟨⟨old,he⟩,hi⟩:=st;exact wpAny_pyIter_enum he h
section
variable {prog:Program}{w:World}{A:Around}{E:Value->Shared->Prop}{s:Shared}
theorem nextOf_tuple_item {it t:Addr}{i:Nat}{items:Array Value}{x:Value}{Q:Value->Shared->Prop}(hit:IsTupIter s.heap it t i)(ht:IsTup s.heap t items)(hx:items[i]?=some x)
  (hQ:∀ h',IsTupIter h' it t (i + 1)->Heap.SameBut it s.heap h'->Q x { s with heap:=h' }):wpAny (model prog w) A (Builtin.SmallTypes.nextOf (.ref it)) Q E s:=by
 obtain⟨o,ho,hc,hd⟩:=id hit;obtain⟨ol,hol,_,nl,hdl⟩:=ht;unfold Builtin.SmallTypes.nextOf;refine wpAny_bind (wpAny_callSpecial?_slot (name:=Str.ofString "__next__") hit.typeIs slot_tupleiter_next (wpAny_call_entry slot_tupleiter_next hit.typeIs entry_tupleiter_next ?_ (args_tupleiter_next _)));show wpAny _ _ (field (.ref it) 0 >>= _) _ _ s;refine wpAny_bind (wpAny_field ho hd (x:=.ref t) rfl ?_);show wpAny _ _ (if (Value.ref t==Value.none)=true then _ else _) _ _ s;rw[if_neg (show ¬ ((Value.ref t==Value.none)=true) from Bool.false_ne_true)];show wpAny _ _ (field (.ref it) 1 >>= _) _ _ s;refine wpAny_bind (wpAny_field ho hd (x:=.int i 0) rfl ?_);show wpAny _ _ (seqItems? (.ref t) >>= _) _ _ s;refine wpAny_bind (wpAny_seqItems hol hdl ?_);simp only[Int.toNat_natCast,hx];refine wpAny_bind (wpAny_setField ho hd (by simp) (wpAny_pure ⟨x,rfl,wpAny_pure (hQ _ ?_ (Heap.SameBut.update ..))⟩));exact⟨_,Heap.get?_update_self _ ho (Obj.isFreed_of_fields (Obj.data_mapFields hd _)),(Obj.cls_mapFields ..).trans hc,by rw[Obj.data_mapFields hd];simp[rawInt]⟩
theorem nextOf_tuple_end {it t:Addr}{i:Nat}{items:Array Value}{Q:Value->Shared->Prop}(hh:A.handled=none)(hit:IsTupIter s.heap it t i)(ht:IsTup s.heap t items)(hx:items[i]?=none)
  (hE:∀ h' e,Heap.ExtBut it s.heap h'->(∃ o,h'.get? e=some o/\o.cls=.type "StopIteration")->E (.ref e) { s with heap:=h' }):wpAny (model prog w) A (Builtin.SmallTypes.nextOf (.ref it)) Q E s:=by
 obtain⟨o,ho,hc,hd⟩:=id hit;obtain⟨ol,hol,_,nl,hdl⟩:=ht;unfold Builtin.SmallTypes.nextOf;refine wpAny_bind (wpAny_callSpecial?_slot (name:=Str.ofString "__next__") hit.typeIs slot_tupleiter_next (wpAny_call_entry slot_tupleiter_next hit.typeIs entry_tupleiter_next ?_ (args_tupleiter_next _)));show wpAny _ _ (field (.ref it) 0 >>= _) _ _ s;refine wpAny_bind (wpAny_field ho hd (x:=.ref t) rfl ?_);show wpAny _ _ (if (Value.ref t==Value.none)=true then _ else _) _ _ s;rw[if_neg (show ¬ ((Value.ref t==Value.none)=true) from Bool.false_ne_true)];show wpAny _ _ (field (.ref it) 1 >>= _) _ _ s;refine wpAny_bind (wpAny_field ho hd (x:=.int i 0) rfl ?_);show wpAny _ _ (seqItems? (.ref t) >>= _) _ _ s;refine wpAny_bind (wpAny_seqItems hol hdl ?_);simp only[Int.toNat_natCast,hx];refine wpAny_bind (wpAny_rule (wpAny_bind (wpAny_setField ho hd (by simp) ?_)));show wpAny _ _ (newExc (.type "StopIteration") [] >>= _) _ _ _;refine wpAny_bind ?_;simp only[newExc,newTuple];refine wpAny_bind (wpAny_newObj_type ?_ (by size_fits));refine wpAny_bind (m:=firstArgMember _ _) (wpAny_of_eq (a:=Value.none) (by first | rfl | (simp only[firstArgMember];rfl)) ?_)
 refine wpAny_newObj_type ?_ (by size_fits);simp only[raiseNew];refine wpAny_bind (wpAny_handled ?_);first | rw[show A.in1.handled=none from hh] | rw[hh]
 refine wpAny_bind (wpAny_pure (wpAny_throw ?_));exact hE _ _ (((Heap.SameBut.update ..).extBut.push _).push _) ⟨_,Heap.get?_push_size _ rfl,rfl⟩
theorem draws_tup (hh:A.handled=none)(it t:Addr)(hne:t≠it)(items:Array Value):Draws prog w A it [it,t] items.size (fun i v=>items[i]?=some v) (fun i h=>IsTupIter h it t i/\IsTup h t items) where
 live:=fun _ _ st=>let ⟨o,ho,_⟩:=st.1;⟨o,ho⟩
 frame:=fun _ _ _ st hk=>⟨let ⟨o,ho,r⟩:=st.1;⟨o,hk it (by simp) _ ho,r⟩,let ⟨o,ho,r⟩:=st.2;⟨o,hk t (by simp) _ ho,r⟩⟩
 item:=fun i s Q E hi st hQ=>by
  refine nextOf_tuple_item st.1 st.2 (x:=items[i]) (by simp[hi]) fun h' hit' hs'=>?_;exact hQ _ h' s.toks (by simp[hi]) ⟨hit',let ⟨o,ho,r⟩:=st.2;⟨o,hs'.extBut t o hne ho,r⟩⟩ hs'
 done:=fun s Q E st hE=>nextOf_tuple_end hh st.1 st.2 (by simp) hE
end
section
variable {prog:Program}{w:World}{A:Around}{E:Value->Shared->Prop}{s:Shared}
theorem enum_endT {e it t:Addr}{i:Nat}{items:Array Value}{old:Value}{Q:Option Value->Shared->Prop}(hh:A.handled=none)(he:IsEnum s.heap e it i old)(hit:IsTupIter s.heap it t i)(ht:IsTup s.heap t items)(hx:items[i]?=none)
  (hQ:∀ h',Heap.ExtBut it s.heap h'->Q none { s with heap:=h' }):wpAny (model prog w) A (pyNext (.ref e)) Q E s:=by
 have hT:s.TypeIs (.ref e) "enumerate":=⟨_,he,rfl⟩;unfold pyNext;refine wpAny_bind (wpAny_attempt (wpAny_callSpecial?_slot (name:=Str.ofString "__next__") hT F.slot_enumerate_next (wpAny_call_entry F.slot_enumerate_next hT F.entry_enumerate_next ?_ (F.args_enumerate_next_1 _))));show wpAny _ _ (field (.ref e) 2 >>= _) _ _ _;refine wpAny_bind (wpAny_field he rfl (x:=.ref it) rfl ?_);refine wpAny_bind (nextOf_tuple_end hh hit ht hx fun h' x he' hx'=>?_);obtain⟨o,ho,hc⟩:=hx';refine wpAny_bind (wpAny_isInstance (T:="StopIteration") (b:=true) ⟨o,ho,hc⟩ isSubtype_stop ?_);exact wpAny_pure (hQ _ he')
theorem meets_enum_newT (l:Addr)(items:Array Value)(n:Nat)(dct:Option Addr)(sl:Array (Option Value)) :
  Meets (Builtin.«enumerate.__new__» ⟨[.type "enumerate",.ref l],[]⟩) (fun _ R s=>s.heap.get? l=some { cls:=.type "tuple",dict:=dct,data:=.seq items n,slots:=sl } /\
   R (.ok (.ret (.ref (s.heap.push { cls:=.type "tuple_iterator",data:=.fields #[.ref l,.int 0 0] }).objs.size)))
    { s with heap:=(s.heap.push { cls:=.type "tuple_iterator",data:=.fields #[.ref l,.int 0 0] }).push { cls:=.type "enumerate",data:=.fields #[.none,.bool false,.ref s.heap.objs.size,rawInt 0,.none,.none] } }) :=
 .of_wp fun prog w A R s h=>by
  obtain⟨hp,g,d,tk,os⟩:=s;obtain⟨hl,h⟩:=h;have hsub:=sub_enumerate;have hL:IsTup (Shared.heap ⟨hp,g,d,tk,os⟩) l items:=⟨_,hl,rfl,n,rfl⟩;wp_walk using AutoSeq1.wpAny_loadPart' hl;refine wpAny_stack_any fun st=>wpAny_pure ?_;split
  ·rename_i c _ _ _ _ _
   cases (c==Value.type "enumerate")
   ·wp_walk using AutoSeq1.wpAny_loadPart' hl,iter_tuple hL
    exact⟨_,rfl,h⟩
   ·wp_walk using AutoSeq1.wpAny_loadPart' hl,iter_tuple hL
    exact⟨_,rfl,h⟩
  ·wp_walk using AutoSeq1.wpAny_loadPart' hl,iter_tuple hL
   exact⟨_,rfl,h⟩
theorem call_enumerate_tup {l:Addr}{items:Array Value}{Q:Value->Shared->Prop}(hL:IsTup s.heap l items)
  (h:∀ h',IsEnum h' (s.heap.objs.size + 1) s.heap.objs.size 0 .none->IsTupIter h' s.heap.objs.size l 0->h'.objs.size=s.heap.objs.size + 2->(∀ b o,s.heap.get? b=some o->h'.get? b=some o)->Q (.ref (s.heap.objs.size + 1)) { s with heap:=h' }) :
  wpAny (model prog w) A (call (.type "enumerate") [.ref l]) Q E s:=by
 obtain⟨⟨c,dct,dt,sl⟩,hl,hc,n,hd⟩:=hL;replace hc:c=.type "tuple":=hc;replace hd:dt=.seq items n:=hd;subst hc hd;refine callType_new F.called_enumerate (by decide) (F.typeCall_enumerate_1 _) (F.newCall_enumerate_1 _) (fun obj=>F.args_object_init_2 obj _) F.entry_enumerate_new (meets_enum_newT l items n dct sl) ⟨hl,?_⟩;have hz:(s.heap.push { cls:=.type "tuple_iterator",data:=.fields #[.ref l,.int 0 0] }).objs.size=s.heap.objs.size + 1:=Heap.size_push ..;show _/\_;rw[hz];have he:IsEnum ((s.heap.push { cls:=.type "tuple_iterator",data:=.fields #[.ref l,.int 0 0] }).push { cls:=.type "enumerate",data:=.fields #[.none,.bool false,.ref s.heap.objs.size,rawInt 0,.none,.none] }) (s.heap.objs.size + 1) s.heap.objs.size 0 .none:=by
  have:=Heap.get?_push_size (s.heap.push { cls:=.type "tuple_iterator",data:=.fields #[.ref l,.int 0 0] }) (o:={ cls:=.type "enumerate",data:=.fields #[.none,.bool false,.ref s.heap.objs.size,rawInt 0,.none,.none] }) rfl
  rw[hz]at this;exact this
 refine⟨⟨_,he,rfl⟩,h _ he ⟨_,Heap.get?_push_of_some _ (Heap.get?_push_size _ rfl),rfl,rfl⟩ (by rw[Heap.size_push,hz]) fun b o x=>Heap.get?_push_of_some _ (Heap.get?_push_of_some _ x)⟩
end
noncomputable def IteT (K:PySem.W.Frag)(a:Addr):It :=
 ⟨fun i H=>∃ xs x,SqT K H a xs/\xs[i]?=some x,fun i H x H'=>∃ p v,x=.ref p/\H p=none/\H'=upd H p (.tup [.int i,v])/\∀ xs,SqT K H a xs->xs[i]?=some v,fun i H=>∃ xs,SqT K H a xs/\xs.length<=i⟩
theorem turn_enumT {P:Program}{w:World}{K:PySem.W.Frag}{es:List Expr}{x1:Nat}{pos:Pos}(a e it:Addr)(ne:e≠it):Turn P w K (.Tuple es x1 pos) (IteT K a) [e,it] e (fun i h=>(∃ old,IsEnum h e it i old)/\IsTupIter h it a i) where
 mem:=by simp
 obj:=fun i h st b hb=>by
  obtain⟨⟨old,he⟩,o,h1,c,d⟩:=st;rcases List.mem_cons.mp hb with rfl | hb
  ·exact⟨_,he,fun v z=>by cases z⟩
  ·rw[List.mem_singleton.mp hb]
   exact⟨o,h1,fun v z=>by rw[d]at z;cases z⟩
 keep:=fun i h h' st k=>by
  obtain⟨⟨old,he⟩,o,ho,r⟩:=st;exact⟨⟨old,k e (by simp) _ he⟩,o,k it (by simp) _ ho,r⟩
 item:=by
  intro X hP hw hK hc i pins s σ H E I hf st hg;subst hP hw hK;obtain⟨⟨old,he⟩,hi⟩:=st;obtain⟨xs,x,hq,hx⟩:=hg;obtain⟨its,rv,p,hz⟩:=I.tuple hq;obtain⟨u,hu,ru⟩:=rv.get hx;have fe:=hf e (by simp);have fi:=hf it (by simp);obtain⟨oi,hoi,hci,_⟩:=id hi;obtain⟨op,hop,hcp,_⟩:=id p;have na:a≠it:=fun z=>by
   rw[z,hoi]at hop;cases hop;rw[hci]at hcp;exact absurd hcp (by decide)
  have nae:e≠a:=fun z=>by
   have he':s.heap.get? e=some _:=he;rw[z,hop]at he';cases he';exact absurd hcp (show ¬ (Value.type "enumerate" = Value.type "tuple") by decide)
  have hlt:i < its.toArray.size:=by rw[List.size_toArray];exact(List.getElem?_eq_some_iff.mp hu).1
  refine wpAny_pyNext_enum_itemD (draws_tup (A:=X.A.in1) (I.ok.hd hc) it a na its.toArray) he ⟨hi,p⟩ hlt ne (by simp[ne,nae]) fun u' h1 tk hp ho hst ht hs1 hk=>?_;have eu:u'=u:=by
   have:its.toArray[i]?=some u:=by simpa using hu
   rw[this]at hp;cases hp;rfl
  subst eu;refine⟨_,rfl,wpAny_letOwnedTupleGo_enum (s:={ s with heap:=h1,toks:=tk + 1 }) ho fun h2 he2 sb=>?_⟩;have sb:Heap.SameBut e h1 h2:=sb;have lte:e < s.heap.objs.size:=Heap.lt_size he;have keep:∀ c o,c≠e->c≠it->s.heap.get? c=some o->h2.get? c=some o:=fun c o n1 n2 q=>(sb.2 c n1).trans (hk c o n1 n2 q);have I1:Inv X pins σ H { s with heap:=h2,toks:=tk + 1 }:=turned2 I keep fe fi;have fr:H s.heap.objs.size=none:=I.hok.fresh (Nat.le_refl _);have ht2:h2.get? s.heap.objs.size=some { cls:=.type "tuple",data:=.seq #[.int i tk,u'] }:=(sb.2 _ (Nat.ne_of_gt lte)).trans ht;have y:Young X pins s.heap.objs.size:=young_of I (Nat.le_refl _);have I2:Inv X pins σ (upd H s.heap.objs.size (.tup [.int i,x])) { s with heap:=h2,toks:=tk + 1 } :=
   inv_adopt I1 fr y ⟨by show 2<=sizeLine;decide,[.int i tk,u'],.cons ⟨_,rfl⟩ (.cons ru .nil),⟨⟨_,ht2,rfl,0,rfl⟩,fun o q=>by rw[ht2]at q;cases q;exact⟨rfl,rfl⟩⟩⟩
  refine⟨.ref s.heap.objs.size,_,I2,rfl,⟨_,x,rfl,fr,rfl,fun ys hy=>by rw[I.tuple_inj hy hq];exact hx⟩,⟨⟨u',?_⟩,?_⟩,fun b hb=>?_⟩
  ·have:((i + 1:Nat):Int)=(i:Int) + 1:=by first | lia | omega
   rw[this];exact he2
  ·exact hst.1.extBut sb.extBut (Ne.symm ne)
  ·have hbn:H b=none:=(hf b hb).1
   rcases List.mem_cons.mp hb with rfl | hb
   ·rw[upd_ne (Nat.ne_of_lt lte)];exact hbn
   ·have eb:=List.mem_singleton.mp hb
    subst eb;rw[upd_ne (Nat.ne_of_lt (Heap.lt_size hoi))];exact hbn
 done:=by
  intro X hP hw hK hc i pins s σ H E I hf st hg;subst hP hw hK;obtain⟨⟨old,he⟩,hi⟩:=st;obtain⟨xs,hq,hx⟩:=hg;obtain⟨its,rv,p,hz⟩:=I.tuple hq;obtain⟨f0,f1,f2,f3,f4,f5⟩:=hf it (by simp);have hl:=rv.length;exact enum_endT (I.ok.hd hc) he hi p (by simp;omega) fun h' eb=>⟨rfl,I.turned (t':=s.toks) (fun b o hb e=>eb b o hb e) f0 f1 f3 f4 f5⟩
 self:=fun _ _ _ _ _ st h=>by
  obtain⟨⟨old,he⟩,hi⟩:=st;exact wpAny_pyIter_enum he h
noncomputable def iEnum (K:PySem.W.Frag)(ta:TA):TI:=fun σ H R=>ta σ H fun vs H1=>∃ a,vs=[.ref a]/\(((∃ xs,SqL K H1 a xs)/\R (Ite K a) H1)\/((∃ xs,SqT K H1 a xs)/\R (IteT K a) H1))
theorem pi_enum {X:Cx}{es:List Expr}{x1:Nat}{tp:Pos}{a:Expr}{ta:TA}{p pos:Pos}(hg:Gl X "enumerate")(hm:X.mg "enumerate" = none)(ha:PA X [a] ta)(hs:starEach [a] X.env=[(false,eval a X.env)]:=by rfl):PI X (.Tuple es x1 tp) (.Call (.Name "enumerate" p) [a] [] pos) (iEnum X.K ta):=by
 intro pins s σ H R I h;refine Call_ (ld_blt I hg hm boot_enumerate (PyProof.Rows.callWith_type1 (thn (ha pos pins s σ H _ I h) fun us s1 ⟨vs,H1,I1,r1,q1⟩=>?_) hs rfl));obtain⟨l,e,q⟩:=q1;subst e;cases r1 with
 | cons r rr =>
  cases rr;cases r;rcases q with ⟨⟨xs,hq⟩,q⟩|⟨⟨xs,hq⟩,q⟩
  rotate_left
  ·obtain⟨its,rv,pl,hz⟩:=I1.tuple hq
   refine call_enumerate_tup pl fun h' he hi hsz hk=>?_;have I2:Inv X pins σ H1 { s1 with heap:=h' }:=I1.kept (t':=s1.toks) hk;refine wpAny_pyIter_enum (s:={ s1 with heap:=h' }) he ?_;refine⟨s1.heap.objs.size + 1,[s1.heap.objs.size + 1,s1.heap.objs.size],_,_,H1,rfl,I2,turn_enumT l _ _ (Nat.succ_ne_self _),⟨⟨_,he⟩,hi⟩,fun b hb=>?_,q⟩;rcases List.mem_cons.mp hb with rfl | hb
   ·exact I1.fpOk (Nat.le_succ _) (I1.hok.fresh (Nat.le_succ _))
   ·rw[List.mem_singleton.mp hb]
    exact I1.fpOk (Nat.le_refl _) (I1.hok.fresh (Nat.le_refl _))
  obtain⟨its,rv,pl,hz⟩:=I1.list hq;refine call_enumerate_list pl.isList fun h' he hi hsz hk=>?_;have I2:Inv X pins σ H1 { s1 with heap:=h' }:=I1.kept (t':=s1.toks) hk;refine wpAny_pyIter_enum (s:={ s1 with heap:=h' }) he ?_;refine⟨s1.heap.objs.size + 1,[s1.heap.objs.size + 1,s1.heap.objs.size],_,_,H1,rfl,I2,turn_enum l _ _ (Nat.succ_ne_self _),⟨⟨_,he⟩,hi⟩,fun b hb=>?_,q⟩;rcases List.mem_cons.mp hb with rfl | hb
  ·exact I1.fpOk (Nat.le_succ _) (I1.hok.fresh (Nat.le_succ _))
  ·rw[List.mem_singleton.mp hb]
   exact I1.fpOk (Nat.le_refl _) (I1.hok.fresh (Nat.le_refl _))
noncomputable def ItOk2 (K:PySem.W.Frag)(ι:List Addr)(H:Hp)(src:Src)(J:It):Prop:=∀ (ι2:List Addr) (H2:Hp) (M2:MH),Ext K ι H ι2 H2->Sim K ι2 M2 H2->okM src.ck M2 ->
 (∀ (i:Nat) (d:D),src.ds[i]?=some d->J.go i H2/\∀ x H',J.yld i H2 x H'->Sim K ι2 M2 H'/\Ext K ι2 H2 ι2 H'/\Rep K ι2 H' d x)/\J.stop src.ds.length H2
noncomputable def LI2 (K:PySem.W.Frag)(f:Ev->Mo Src):TI:=fun σ H R=>∃ ι ρ M src M',Sim K ι M H/\EnvR K ι H ρ σ/\f ρ M=some (.ok src,M') /\
 ∀ J H' ι',Sim K ι' M' H'->Ext K ι H ι' H'->ItOk2 K ι' H' src J->R J H'
theorem LI2.to {K:PySem.W.Frag}{f:Ev->Mo Src}(σ:St)(H:Hp)(R:It->Hp->Prop)(h:LI2 K f σ H R):LI K f σ H R:=by
 obtain⟨ι,ρ,M,src,M',S,Rr,e,k⟩:=h;refine⟨ι,ρ,M,src,M',S,Rr,e,fun J H' ι' S' X' ok=>k J H' ι' S' X' fun ι2 H2 M2 x2 S2 hk=>?_⟩;obtain⟨h1,h2⟩:=ok ι2 H2 M2 x2 S2 hk;refine⟨fun i d hd=>?_,h2⟩;obtain⟨go,y⟩:=h1 i d hd;refine⟨go,fun x H'' hy=>?_⟩;obtain⟨rfl,r⟩:=y x H'' hy;exact⟨S2,Ext.refl,r⟩
theorem enum_get {ds:List D}{i:Nat}{d:D}(h:(enumD ds)[i]?=some d):∃ x,ds[i]?=some x/\d=.tup [.int i,x]:=by
 unfold enumD at h;rw[List.getElem?_mapIdx]at h;obtain⟨x,h1,h2⟩:=Option.map_eq_some_iff.mp h;exact⟨x,h1,h2.symm⟩
theorem enum_len {ds:List D}:(enumD ds).length=ds.length:=List.length_mapIdx
theorem LI2.enum {K:PySem.W.Frag}{f:DE}(σ:St)(H:Hp)(R:It->Hp->Prop)(h:LI2 K (fun ρ=>do let x <- f ρ;enumS x) σ H R):iEnum K (tCons (LE K f) tNil) σ H R:=by
 obtain⟨ι,ρ,M,src,M',S,Rr,e,k⟩:=h;have e0:=bind_ok e;clear e;obtain⟨x,M1,e1,e⟩:=e0;refine⟨ι,ρ,M,x,M1,S,Rr,e1,fun v H1 ι1 r1 S1 X1=>?_⟩;have key:∀ {a:Addr} {xs:List V} {ds:List D} {ck:Option (Nat×List D)},SqL K H1 a xs->(∀ ι2 H2 M2,Ext K ι1 H1 ι2 H2->Sim K ι2 M2 H2->okM ck M2->∃ ys,SqL K H2 a ys/\Reps K ι2 H2 ds ys)->ItOk2 K ι1 H1 ⟨ck,enumD ds⟩ (Ite K a):=by
  intro a xs ds ck hq hr ι2 H2 M2 x2 S2 ok;obtain⟨ys,hy,r⟩:=hr ι2 H2 M2 x2 S2 ok;refine⟨fun i d hd=>?_,⟨ys,hy,by rw[enum_len,r.length];exact Nat.le_refl _⟩⟩;obtain⟨x,hx,rfl⟩:=enum_get hd;obtain⟨v,hv,rv⟩:=r.get hx;refine⟨⟨ys,v,hy,hv⟩,fun x' H' y=>?_⟩;obtain⟨p,v',rfl,hp,rfl,hz⟩:=y
  have:=hz ys hy
  rw[hv]at this;cases this;have X3:Ext K ι2 H2 ι2 (upd H2 p (.tup [.int i,v])):=Ext.tupN hp;exact⟨S2.tupN hp,X3,.tup upd_same (.cons (.int _) (.cons (rv.mono X3) .nil))⟩
 cases r1 with
 | fl t q =>
  have e0:=pure_ok e;clear e;obtain⟨rfl,rfl⟩:=e0;exact⟨_,rfl,.inl ⟨⟨_,t.seq⟩,k _ H1 ι1 S1 X1 (key t.seq fun ι2 H2 M2 x2 S2 _=>⟨_,(x2.fz _ _ t).seq,q.mono x2⟩)⟩⟩
 | tup t q =>
  have e0:=pure_ok e;clear e;obtain⟨rfl,rfl⟩:=e0;refine⟨_,rfl,.inr ⟨⟨_,sqt t⟩,k _ H1 ι1 S1 X1 fun ι2 H2 M2 x2 S2 _=>?_⟩⟩;have hy:=sqt (K:=K) (x2.tup _ _ t);have r:=q.mono x2;refine⟨fun i d hd=>?_,⟨_,hy,by rw[enum_len,r.length];exact Nat.le_refl _⟩⟩;obtain⟨x,hx,rfl⟩:=enum_get hd;obtain⟨v,hv,rv⟩:=r.get hx;refine⟨⟨_,v,hy,hv⟩,fun x' H' y=>?_⟩;obtain⟨p,v',rfl,hp,rfl,hz⟩:=y
  have:=hz _ hy
  rw[hv]at this;cases this;have X3:Ext K ι2 H2 ι2 (upd H2 p (.tup [.int i,v])):=Ext.tupN hp;exact⟨S2.tupN hp,X3,.tup upd_same (.cons (.int _) (.cons (rv.mono X3) .nil))⟩
 | ob t =>
  have e0:=bind_ok e;clear e;obtain⟨ds,M2,e2,e⟩:=e0;obtain⟨g,rfl⟩:=getL_ok e2;have e0:=pure_ok e;clear e;obtain⟨rfl,rfl⟩:=e0;obtain⟨a,vs,h1,h2,h3,h4⟩:=sim_list S1 (.ob t) g;cases h1;refine⟨_,rfl,.inl ⟨⟨_,SqL.of h3⟩,k _ H1 ι1 S1 X1 (key (SqL.of h3) fun ι2 H2 M2 x2 S2 ok=>?_)⟩⟩;have ok':M2[_]?=some (MO.lst ds):=ok;obtain⟨a2,vs2,g1,g2,g3,g4⟩:=sim_list S2 (.ob (x2.pre _ _ h2)) ok';cases g1;exact⟨_,SqL.of g3,g4⟩
 | _=>exact(stop_ok e).elim
theorem pairD_eq {d:D}{p:D×D}(h:pairD d=some p):d=.tup [p.1,p.2]:=by
 unfold pairD at h;split at h
 ·cases h;rfl
 ·cases h
theorem LS.lpair {K:PySem.W.Frag}{i j:Nat}{fs:Ev->Mo Src}{fb:Ev->Mo Fl}(D:Ends)(σ:St)(H:Hp)(h:LS K (fun ρ=>do let s <- fs ρ;loopP s.ck i j fb s.ds ρ) D σ H):tFor (LI2 K fs) (gTup K 2 (gCons (gName i) (gCons (gName j) gNil))) (LS K fb) D σ H:=by
 obtain⟨ι,ρ,M,fl,M',S,R,e,k⟩:=h;have e0:=bind_ok e;clear e;obtain⟨src,M1,e1,e⟩:=e0;refine⟨ι,ρ,M,src,M1,S,R,e1,fun J H1 ι1 S1 X1 hJ=>?_⟩;refine⟨fun n m σ' H'=>m=src.ds.length - n/\n<=src.ds.length/\∃ ι' ρ' M2,Sim K ι' M2 H'/\EnvR K ι' H' ρ' σ'/\Ext K ι1 H1 ι' H'/\loopP src.ck i j fb (src.ds.drop n) ρ' M2=some (.ok fl,M'),
  ⟨_,rfl,Nat.zero_le _,ι1,ρ,M1,S1,R.mono X1,Ext.refl,e⟩,?_⟩
 rintro n m σ' H' ⟨rfl,hj,ι',ρ',M2,S2,R2,X2,e2⟩;by_cases hlt:n < src.ds.length
 ·right
  rw[List.drop_eq_getElem_cons hlt]at e2;have e20:=bind_ok e2;clear e2;obtain⟨_,_,e3,e2⟩:=e20;have e30:=stand_ok e3;clear e3;obtain⟨ok,rfl⟩:=e30;have e20:=bind_ok e2;clear e2;obtain⟨pr,_,e3,e2⟩:=e20;have e30:=lift_ok e3;clear e3;obtain⟨hpr,rfl⟩:=e30;have e20:=bind_ok e2;clear e2;obtain⟨f,M3,e3,e2⟩:=e20;obtain⟨go,yld⟩:=(hJ ι' H' _ X2 S2 ok).1 n _ (List.getElem?_eq_getElem hlt);refine⟨go,fun σ3 H3=>∃ ι3 ρ3 M4,Sim K ι3 M4 H3/\EnvR K ι3 H3 ρ3 σ3/\Ext K ι1 H1 ι3 H3/\loopP src.ck i j fb (src.ds.drop (n + 1)) ρ3 M4=some (.ok fl,M'),
   fun σ3 H3 ⟨ι3,ρ3,M4,h1,h2,h3,h4⟩=>⟨src.ds.length - (n + 1),by omega,rfl,hlt,ι3,ρ3,M4,h1,h2,h3,h4⟩,fun x H'' y=>?_⟩
  obtain⟨S5,X5,rx⟩:=yld x H'' y;rw[pairD_eq hpr]at rx;cases rx with
  | tup t q =>
   cases q with
   | cons q1 q2 =>
    cases q2 with
    | cons q2 q3 =>
     cases q3;refine⟨_,_,rfl,sqt t,rfl,_,_,rfl,_,_,rfl,rfl,?_⟩;refine⟨ι',_,_,f,M3,S5,((R2.mono X5).set q1 i).set q2 j,e3,fun H3 ι3 S3 X3=>?_⟩;have X6:=X2.trans (X5.trans X3);cases f with
     | nx ρ3=>exact fun σ3 R3=>⟨ι3,ρ3,M3,S3,R3,X6,e2⟩
     | ct ρ3=>exact fun σ3 R3=>⟨ι3,ρ3,M3,S3,R3,X6,e2⟩
     | bk ρ3 =>
      have e20:=pure_ok e2;clear e2;obtain⟨rfl,rfl⟩:=e20;exact fun σ3 R3=>k H3 ι3 S3 (X1.trans X6) σ3 R3
     | rt v =>
      have e20:=pure_ok e2;clear e2;obtain⟨rfl,rfl⟩:=e20;exact fun v' r'=>k H3 ι3 S3 (X1.trans X6) v' r'
 ·left
  have ej:n=src.ds.length:=by first | lia | omega
  subst ej;rw[List.drop_length]at e2;have e20:=bind_ok e2;clear e2;obtain⟨_,_,e3,e2⟩:=e20;have e30:=stand_ok e3;clear e3;obtain⟨ok,rfl⟩:=e30;have e20:=pure_ok e2;clear e2;obtain⟨rfl,rfl⟩:=e20;exact⟨(hJ ι' H' _ X2 S2 ok).2,k H' ι' S2 (X1.trans X2) σ' R2⟩
end L3
namespace L3
open PySem PySem.Spec PyProof.Rows L2
structure Sound (Γ:Ctx) (n:Nat):Prop where
 E:∀ (S:Sc) (X:Cx) (e:Expr) (i:IE),CxOk Γ S X->cE S n e=some i->PE X e (LE X.K (semE Γ i))
 Es:∀ (S:Sc) (X:Cx) (es:List Expr) (i:IEs),CxOk Γ S X->cEs S n es=some i->PA X es (LA X.K (semEs Γ i))/\es.all plainE=true
 O:∀ (S:Sc) (X:Cx) (e:Option Expr) (i:IEo),CxOk Γ S X->cO S n e=some i->PO X e (LO X.K (semO Γ i))
 T:∀ (S:Sc) (X:Cx) (tg e:Expr) (i:IT),CxOk Γ S X->cT S n e=some i->PI X tg e (LI X.K (semT Γ i))/\∀ x,foldedSetIterable e X.env x=pure x
 C:∀ (S:Sc) (X:Cx) (e:Expr) (i:IC),CxOk Γ S X->cC S n e=some i->PT X e (LT X.K (semC Γ i))
 Co:∀ (S:Sc) (X:Cx) (e:List Expr) (i:ICo),CxOk Γ S X->cCo S n e=some i->PTs X e (LT X.K (semCo Γ i))
section
variable {Γ:Ctx}{n:Nat}{K:PySem.W.Frag}
theorem obind {α β:Type}{o:Option α}{f:α->Option β}{b:β}(h:(o >>= f)=some b):∃ a,o=some a/\f a=some b:=by
 cases o with
 | none=>cases h
 | some a=>exact⟨a,rfl,h⟩
theorem varD_ok {ρ:Ev}{i:Nat}{M M':MH}{d:D}(e:varD ρ i M=some (.ok d,M')):ρ[i]?=some (some d)/\M'=M:=by
 unfold varD at e;cases q:ρ[i]? with
 | none=>rw[q]at e;exact(stop_ok e).elim
 | some o =>
  cases o with
  | none=>rw[q]at e;exact(stop_ok e).elim
  | some d'=>rw[q]at e;cases e;exact⟨rfl,rfl⟩
theorem LE.var {i:Nat}(σ:St)(H:Hp)(Q:VK)(h:LE K (semE Γ (.var i)) σ H Q):tVar i σ H Q:=by
 obtain⟨ι,ρ,M,d,M',S,R,e,k⟩:=h;have e:varD ρ i M=some (.ok d,M'):=e;obtain⟨hd,rfl⟩:=varD_ok e;obtain⟨v,hv,rv⟩:=R.val i d hd;exact⟨v,hv,k v H ι rv S Ext.refl⟩
theorem LE.const {d:D}{v:V}(hv:∀ ι H,Rep K ι H d v)(σ:St)(H:Hp)(Q:VK)(h:LE K (fun _=>pure d) σ H Q):tC v σ H Q:=by
 obtain⟨ι,ρ,M,d',M',S,R,e,k⟩:=h;have e0:=pure_ok e;clear e;obtain⟨rfl,rfl⟩:=e0;exact k v H ι (hv ι H) S Ext.refl
theorem LE.chain {op op':CmpOp}{fa fb fc:DE}(σ:St)(H:Hp)(Q:VK)(h:LE K (fun ρ=>do
  let x <- fa ρ
  let y <- fb ρ
  let k <- cmpD op x y
  if k=true then do let z <- fc ρ;let k' <- cmpD op' y z;pure (.bl k') else pure (.bl false)) σ H Q):tChain (R2S K (gCmp op)) (R2S K (gCmp op')) (LE K fa) (LE K fb) (LE K fc) σ H Q:=by
 obtain⟨ι,ρ,M,d,M',S,R,e,k⟩:=h;have e0:=bind_ok e;clear e;obtain⟨x,M1,e1,e⟩:=e0;have e0:=bind_ok e;clear e;obtain⟨y,M2,e2,e⟩:=e0;have e0:=bind_ok e;clear e;obtain⟨b,M3,e3,e⟩:=e0;refine⟨ι,ρ,M,x,M1,S,R,e1,fun v1 H1 ι1 r1 S1 X1=>?_⟩;refine⟨ι1,ρ,M1,y,M2,S1,R.mono X1,e2,fun v2 H2 ι2 r2 S2 X2=>?_⟩;refine⟨ι2,M2,M3,x,y,.bl b,S2,r1.mono X2,r2,by unfold gCmp;rw[ok_bind e3];rfl,fun v3 H3 ι3 r3 S3 X3=>?_⟩;cases r3;refine⟨b,rfl,?_⟩;cases b with
 | true =>
  rw[if_pos rfl]at e ⊢;have e0:=bind_ok e;clear e;obtain⟨z,M4,e4,e⟩:=e0;have e0:=bind_ok e;clear e;obtain⟨b',M5,e5,e⟩:=e0;refine⟨ι3,ρ,M3,z,M4,S3,((R.mono X1).mono X2).mono X3,e4,fun v4 H4 ι4 r4 S4 X4=>?_⟩;have e0:=pure_ok e;clear e;obtain⟨rfl,rfl⟩:=e0;exact⟨ι4,M4,_,y,z,.bl b',S4,(r2.mono X3).mono X4,r4,by unfold gCmp;rw[ok_bind e5];rfl,fun v5 H5 ι5 r5 S5 X5=>k v5 H5 ι5 r5 S5 ((((X1.trans X2).trans X3).trans X4).trans X5)⟩
 | false =>
  rw[if_neg Bool.false_ne_true]at e ⊢;have e0:=pure_ok e;clear e;obtain⟨rfl,rfl⟩:=e0;exact k _ H3 ι3 (.bl _) S3 ((X1.trans X2).trans X3)
theorem LE.and {fa fb:DE}(σ:St)(H:Hp)(Q:VK)(h:LE K (fun ρ=>do let x <- fa ρ;let k <- lift (boolD x);if k=true then fb ρ else pure (.bl false)) σ H Q):tAndV (LE K fa) (LE K fb) σ H Q:=by
 obtain⟨ι,ρ,M,d,M',S,R,e,k⟩:=h;have e0:=bind_ok e;clear e;obtain⟨x,M1,e1,e⟩:=e0;have e0:=bind_ok e;clear e;obtain⟨b,M2,e2,e⟩:=e0;have e20:=lift_ok e2;clear e2;obtain⟨hb,rfl⟩:=e20;refine⟨ι,ρ,M,x,_,S,R,e1,fun v1 H1 ι1 r1 S1 X1=>?_⟩;cases r1 <;> simp[boolD]at hb;subst hb;refine⟨_,rfl,?_⟩;split at e
 ·rename_i hb
  rw[if_pos hb];exact⟨ι1,ρ,_,d,M',S1,R.mono X1,e,fun v H' ι' r' S' X'=>k v H' ι' r' S' (X1.trans X')⟩
 ·rename_i hb
  rw[if_neg hb];have e0:=pure_ok e;clear e;obtain⟨rfl,rfl⟩:=e0;exact k _ H1 ι1 (.bl _) S1 X1
theorem LE.or {fa fb:DE}(σ:St)(H:Hp)(Q:VK)(h:LE K (fun ρ=>do let x <- fa ρ;let k <- lift (boolD x);if k=true then pure (.bl true) else fb ρ) σ H Q):tOrV (LE K fa) (LE K fb) σ H Q:=by
 obtain⟨ι,ρ,M,d,M',S,R,e,k⟩:=h;have e0:=bind_ok e;clear e;obtain⟨x,M1,e1,e⟩:=e0;have e0:=bind_ok e;clear e;obtain⟨b,M2,e2,e⟩:=e0;have e20:=lift_ok e2;clear e2;obtain⟨hb,rfl⟩:=e20;refine⟨ι,ρ,M,x,_,S,R,e1,fun v1 H1 ι1 r1 S1 X1=>?_⟩;cases r1 <;> simp[boolD]at hb;subst hb;refine⟨_,rfl,?_⟩;split at e
 ·rename_i hb
  rw[if_pos hb];have e0:=pure_ok e;clear e;obtain⟨rfl,rfl⟩:=e0;exact k _ H1 ι1 (.bl _) S1 X1
 ·rename_i hb
  rw[if_neg hb];exact⟨ι1,ρ,_,d,M',S1,R.mono X1,e,fun v H' ι' r' S' X'=>k v H' ι' r' S' (X1.trans X')⟩
theorem LE.not {fa:DE}(σ:St)(H:Hp)(Q:VK)(h:LE K (fun ρ=>do let x <- fa ρ;let k <- lift (boolD x);pure (.bl (!k))) σ H Q):tNotV (LE K fa) σ H Q:=by
 obtain⟨ι,ρ,M,d,M',S,R,e,k⟩:=h;have e0:=bind_ok e;clear e;obtain⟨x,M1,e1,e⟩:=e0;have e0:=bind_ok e;clear e;obtain⟨b,M2,e2,e⟩:=e0;have e20:=lift_ok e2;clear e2;obtain⟨hb,rfl⟩:=e20;have e0:=pure_ok e;clear e;obtain⟨rfl,rfl⟩:=e0;refine⟨ι,ρ,M,x,_,S,R,e1,fun v1 H1 ι1 r1 S1 X1=>?_⟩;cases r1 <;> simp[boolD]at hb;subst hb;exact⟨_,rfl,k _ H1 ι1 (.bl _) S1 X1⟩
theorem LE.ite {fc:Ev->Mo Bool}{fa fb:DE}(σ:St)(H:Hp)(Q:VK)(h:LE K (fun ρ=>do let k <- fc ρ;if k=true then fa ρ else fb ρ) σ H Q):tIf (LT K fc) (LE K fa) (LE K fb) σ H Q:=by
 obtain⟨ι,ρ,M,d,M',S,R,e,k⟩:=h;have e0:=bind_ok e;clear e;obtain⟨b,M1,e1,e⟩:=e0;refine⟨ι,ρ,M,b,M1,S,R,e1,fun H1 ι1 S1 X1=>?_⟩;split at e
 ·rename_i hb
  rw[if_pos hb];exact⟨ι1,ρ,_,d,M',S1,R.mono X1,e,fun v H' ι' r' S' X'=>k v H' ι' r' S' (X1.trans X')⟩
 ·rename_i hb
  rw[if_neg hb];exact⟨ι1,ρ,_,d,M',S1,R.mono X1,e,fun v H' ι' r' S' X'=>k v H' ι' r' S' (X1.trans X')⟩
theorem LE.tup {fa:Ev->Mo (List D)}(σ:St)(H:Hp)(Q:VK)(h:LE K (fun ρ=>do let xs <- fa ρ;need (xs.length<=sizeLine);pure (.tup xs)) σ H Q):tTup (LA K fa) σ H Q:=by
 obtain⟨ι,ρ,M,d,M',S,R,e,k⟩:=h;have e0:=bind_ok e;clear e;obtain⟨xs,M1,e1,e⟩:=e0;have e0:=bind_ok e;clear e;obtain⟨_,_,e2,e⟩:=e0;have e20:=need_ok e2;clear e2;obtain⟨hn,rfl⟩:=e20;have e0:=pure_ok e;clear e;obtain⟨rfl,rfl⟩:=e0;refine⟨ι,ρ,M,xs,_,S,R,e1,fun vs H1 ι1 r1 S1 X1=>⟨by rw[<- r1.length];exact hn,new_tup S1 r1 fun v H' ι' r' S' X'=>k v H' ι' r' S' (X1.trans X')⟩⟩
theorem LE.lst {fa:Ev->Mo (List D)}(σ:St)(H:Hp)(Q:VK)(h:LE K (fun ρ=>do let xs <- fa ρ;need (xs.length<=sizeLine);newM (.lst xs)) σ H Q):tLst (LA K fa) σ H Q:=by
 obtain⟨ι,ρ,M,d,M',S,R,e,k⟩:=h;have e0:=bind_ok e;clear e;obtain⟨xs,M1,e1,e⟩:=e0;have e0:=bind_ok e;clear e;obtain⟨_,_,e2,e⟩:=e0;have e20:=need_ok e2;clear e2;obtain⟨hn,rfl⟩:=e20;refine⟨ι,ρ,M,xs,_,S,R,e1,fun vs H1 ι1 r1 S1 X1=>⟨by rw[<- r1.length];exact hn,new_list S1 r1 e fun v H' ι' r' S' X'=>k v H' ι' r' S' (X1.trans X')⟩⟩
theorem LE.dic (σ:St)(H:Hp)(Q:VK)(h:LE K (fun _=>newM (.dic [])) σ H Q):tDNewK σ H Q:=by
 obtain⟨ι,ρ,M,d,M',S,R,e,k⟩:=h;intro p hp;have e0:=newM_ok e;clear e;obtain⟨rfl,rfl⟩:=e0;exact k _ _ (ι++[p]) (.ob (by rw[<- S.len,List.getElem?_append_right (Nat.le_refl _),Nat.sub_self];rfl)) (S.new hp ⟨[],rfl,.nil⟩) (Ext.new hp)
theorem LE.dtt (σ:St)(H:Hp)(Q:VK)(h:LE K (fun _=>newM (.dtt [])) σ H Q):tDNewTT σ H Q:=by
 obtain⟨ι,ρ,M,d,M',S,R,e,k⟩:=h;intro p hp;have e0:=newM_ok e;clear e;obtain⟨rfl,rfl⟩:=e0;exact k _ _ (ι++[p]) (.ob (by rw[<- S.len,List.getElem?_append_right (Nat.le_refl _),Nat.sub_self];rfl)) (S.new hp ⟨[],rfl,.nil⟩) (Ext.new hp)
theorem LE.slc {fa:DE}{fl fh:Ev->Mo (Option Int)}(σ:St)(H:Hp)(Q:VK)(h:LE K (fun ρ=>do let x <- fa ρ;let l <- fl ρ;let h <- fh ρ;sliceD x l h) σ H Q):tSl (RSl K) (LE K fa) (LO K fl) (LO K fh) σ H Q:=by
 obtain⟨ι,ρ,M,d,M',S,R,e,k⟩:=h;have e0:=bind_ok e;clear e;obtain⟨x,M1,e1,e⟩:=e0;have e0:=bind_ok e;clear e;obtain⟨l,M2,e2,e⟩:=e0;have e0:=bind_ok e;clear e;obtain⟨r,M3,e3,e⟩:=e0;refine⟨ι,ρ,M,x,M1,S,R,e1,fun v1 H1 ι1 r1 S1 X1=>?_⟩;refine⟨ι1,ρ,M1,l,M2,S1,R.mono X1,e2,fun H2 ι2 S2 X2=>?_⟩;refine⟨ι2,ρ,M2,r,M3,S2,(R.mono X1).mono X2,e3,fun H3 ι3 S3 X3=>?_⟩;exact⟨ι3,M3,M',x,d,S3,(r1.mono X2).mono X3,e,fun v H' ι' r' S' X'=>k v H' ι' r' S' (((X1.trans X2).trans X3).trans X')⟩
theorem LE.call {fa:Ev->Mo (List D)}{g:List D->Mo D}{m:Nat}(σ:St)(H:Hp)(Q:VK)(hm:∀ ds M d M',g ds M=some (.ok d,M')->ds.length=m)(h:LE K (fun ρ=>do let xs <- fa ρ;g xs) σ H Q):tCall (spOf K m g) [] E0 (LA K fa) σ H Q:=by
 obtain⟨ι,ρ,M,d,M',S,R,e,k⟩:=h;have e0:=bind_ok e;clear e;obtain⟨xs,M1,e1,e⟩:=e0;refine⟨ι,ρ,M,xs,M1,S,R,e1,fun vs H1 ι1 r1 S1 X1=>?_⟩;show spOf K m g (vs++[]) H1 Q E0;rw[List.append_nil];exact⟨by rw[<- r1.length];exact hm _ _ _ _ e,ι1,M1,M',xs,d,S1,r1,e,fun v H' ι' r' S' X'=>k v H' ι' r' S' (X1.trans X')⟩
theorem LE.blt {fa:Ev->Mo (List D)}{g:List D->Mo D}(σ:St)(H:Hp)(Q:VK)(h:LE K (fun ρ=>do let xs <- fa ρ;g xs) σ H Q):tCB (RLS K g) (LA K fa) σ H Q:=by
 obtain⟨ι,ρ,M,d,M',S,R,e,k⟩:=h;have e0:=bind_ok e;clear e;obtain⟨xs,M1,e1,e⟩:=e0;refine⟨ι,ρ,M,xs,M1,S,R,e1,fun vs H1 ι1 r1 S1 X1=>?_⟩;exact⟨ι1,M1,M',xs,d,S1,r1,e,fun v H' ι' r' S' X'=>k v H' ι' r' S' (X1.trans X')⟩
theorem LA.nil (σ:St)(H:Hp)(Q:List V->Hp->Prop)(h:LA K (fun _=>pure []) σ H Q):tNil σ H Q:=by
 obtain⟨ι,ρ,M,d,M',S,R,e,k⟩:=h;have e0:=pure_ok e;clear e;obtain⟨rfl,rfl⟩:=e0;exact k [] H ι .nil S Ext.refl
theorem LA.cons {fa:DE}{fs:Ev->Mo (List D)}(σ:St)(H:Hp)(Q:List V->Hp->Prop)(h:LA K (fun ρ=>do let x <- fa ρ;let xs <- fs ρ;pure (x::xs)) σ H Q):tCons (LE K fa) (LA K fs) σ H Q:=by
 obtain⟨ι,ρ,M,d,M',S,R,e,k⟩:=h;have e0:=bind_ok e;clear e;obtain⟨x,M1,e1,e⟩:=e0;have e0:=bind_ok e;clear e;obtain⟨xs,M2,e2,e⟩:=e0;have e0:=pure_ok e;clear e;obtain⟨rfl,rfl⟩:=e0;refine⟨ι,ρ,M,x,M1,S,R,e1,fun v1 H1 ι1 r1 S1 X1=>?_⟩;exact⟨ι1,ρ,M1,xs,_,S1,R.mono X1,e2,fun vs H2 ι2 r2 S2 X2=>k _ H2 ι2 (.cons (r1.mono X2) r2) S2 (X1.trans X2)⟩
theorem LO.none (σ:St)(H:Hp)(Q:Option Int->Hp->Prop)(h:LO K (fun _=>pure Option.none) σ H Q):tNoPart σ H Q:=by
 obtain⟨ι,ρ,M,d,M',S,R,e,k⟩:=h;have e0:=pure_ok e;clear e;obtain⟨rfl,rfl⟩:=e0;exact k H ι S Ext.refl
theorem LO.some {fa:DE}(σ:St)(H:Hp)(Q:Option Int->Hp->Prop)(h:LO K (fun ρ=>do
  let x <- fa ρ
  (match x with
  | .int i=>pure (Option.some i)
  | _=>Mo.stop)) σ H Q):tPart (LE K fa) σ H Q:=by
 obtain⟨ι,ρ,M,d,M',S,R,e,k⟩:=h;have e0:=bind_ok e;clear e;obtain⟨x,M1,e1,e⟩:=e0;refine⟨ι,ρ,M,x,M1,S,R,e1,fun v1 H1 ι1 r1 S1 X1=>?_⟩;cases r1 with
 | int i=>have e0:=pure_ok e;clear e;obtain⟨rfl,rfl⟩:=e0;exact⟨i,rfl,k H1 ι1 S1 X1⟩
 | _=>exact(stop_ok e).elim
theorem LT.test {fa:DE}(σ:St)(H:Hp)(Q:Bool->Hp->Prop)(h:LT K (fun ρ=>do let x <- fa ρ;lift (boolD x)) σ H Q):tTest (LE K fa) σ H Q:=by
 obtain⟨ι,ρ,M,b,M',S,R,e,k⟩:=h;have e0:=bind_ok e;clear e;obtain⟨x,M1,e1,e⟩:=e0;have e0:=lift_ok e;clear e;obtain⟨hb,rfl⟩:=e0;refine⟨ι,ρ,M,x,_,S,R,e1,fun v1 H1 ι1 r1 S1 X1=>?_⟩;cases r1 <;> simp[boolD]at hb;subst hb;exact⟨_,rfl,k H1 ι1 S1 X1⟩
theorem LT.not {fa:Ev->Mo Bool}(σ:St)(H:Hp)(Q:Bool->Hp->Prop)(h:LT K (fun ρ=>do let k <- fa ρ;pure (!k)) σ H Q):tNot (LT K fa) σ H Q:=by
 obtain⟨ι,ρ,M,b,M',S,R,e,k⟩:=h;have e0:=bind_ok e;clear e;obtain⟨x,M1,e1,e⟩:=e0;have e0:=pure_ok e;clear e;obtain⟨rfl,rfl⟩:=e0;exact⟨ι,ρ,M,x,_,S,R,e1,fun H1 ι1 S1 X1=>k H1 ι1 S1 X1⟩
theorem LT.and {fa fb:Ev->Mo Bool}(σ:St)(H:Hp)(Q:Bool->Hp->Prop)(h:LT K (fun ρ=>do let k <- fa ρ;if k=true then fb ρ else pure false) σ H Q):tAnd (LT K fa) (LT K fb) σ H Q:=by
 obtain⟨ι,ρ,M,b,M',S,R,e,k⟩:=h;have e0:=bind_ok e;clear e;obtain⟨x,M1,e1,e⟩:=e0;refine⟨ι,ρ,M,x,M1,S,R,e1,fun H1 ι1 S1 X1=>?_⟩;split at e
 ·rename_i hb
  rw[if_pos hb];exact⟨ι1,ρ,_,b,M',S1,R.mono X1,e,fun H' ι' S' X'=>k H' ι' S' (X1.trans X')⟩
 ·rename_i hb
  rw[if_neg hb];have e0:=pure_ok e;clear e;obtain⟨rfl,rfl⟩:=e0;exact k H1 ι1 S1 X1
theorem LT.or {fa fb:Ev->Mo Bool}(σ:St)(H:Hp)(Q:Bool->Hp->Prop)(h:LT K (fun ρ=>do let k <- fa ρ;if k=true then pure true else fb ρ) σ H Q):tOr (LT K fa) (LT K fb) σ H Q:=by
 obtain⟨ι,ρ,M,b,M',S,R,e,k⟩:=h;have e0:=bind_ok e;clear e;obtain⟨x,M1,e1,e⟩:=e0;refine⟨ι,ρ,M,x,M1,S,R,e1,fun H1 ι1 S1 X1=>?_⟩;split at e
 ·rename_i hb
  rw[if_pos hb];have e0:=pure_ok e;clear e;obtain⟨rfl,rfl⟩:=e0;exact k H1 ι1 S1 X1
 ·rename_i hb
  rw[if_neg hb];exact⟨ι1,ρ,_,b,M',S1,R.mono X1,e,fun H' ι' S' X'=>k H' ι' S' (X1.trans X')⟩
theorem pt_tru {X:Cx}{a:Expr}{fa:DE}(ha:PE X a (LE X.K fa))(he:∀ whole,isTrue a X.env whole=(do let v <- whole;standAt a.pos;holding [v] (truthy v))):PT X a (LT X.K fun ρ=>do let x <- fa ρ;truD x):=by
 intro pins s σ H Q I h;obtain⟨ι,ρ,M,b,M',S,R,e,k⟩:=h;have e0:=bind_ok e;clear e;obtain⟨x,M1,e1,e⟩:=e0;refine isTrue_plain (thn (ha pins s σ H (fun v H1=>∃ ι M M' d b,Sim X.K ι M H1/\Rep X.K ι H1 d v/\truD d M=some (.ok b,M')/\(M'=M->Q b H1)) I ⟨ι,ρ,M,x,M1,S,R,e1,fun v1 H1 ι1 r1 S1 X1=>⟨ι1,M1,M',x,b,S1,r1,e,fun z=>by subst z;exact k H1 ι1 S1 X1⟩⟩) fun v s1 ⟨x,H1,I1,r1,q1⟩=>tru_all pins s1 σ H1 x v Q I1 r1 q1) (he _)
end
end L3
namespace L3
open PySem PySem.Spec PyProof.Rows L2
section
variable {Γ:Ctx}{n:Nat}
theorem mem_of_contains {x:Str}{l:List Str}(h:l.contains x=true):x∈l:=by simpa using h
noncomputable def clOf (cells:List (Str×Addr)):List (Str×NameKind)->List (Str×Addr)->List (Str×Addr)
 | [],acc=>acc
 | p::r,acc=>clOf cells r (if p.2==.free then (p.1,(cells.lookup p.1).getD 0)::acc else acc)
theorem clOf_look {cells:List (Str×Addr)}{y:Str}{c:Addr}:∀ {names:List (Str×NameKind)} {acc:List (Str×Addr)},(∀ p∈names,p.2=.free->∃ c,cells.lookup p.1=some c)->(acc.lookup y=some c->cells.lookup y=some c) ->
  (clOf cells names acc).lookup y=some c->cells.lookup y=some c
 | [],acc,_,ha,h=>ha h
 | p::r,acc,hf,ha,h=>by
  unfold clOf at h;refine clOf_look (names:=r) (fun q hq=>hf q (List.mem_cons_of_mem _ hq)) (fun h'=>?_) h;by_cases hp:p.2=.free
  ·rw[if_pos (by simpa using hp)]at h'
   obtain⟨c',hc'⟩:=hf p List.mem_cons_self hp;rw[hc',Option.getD_some,List.lookup_cons]at h';by_cases hy:y=p.1
   ·subst hy
    simp at h';subst h';exact hc'
   ·have:(y==p.1)=false:=beq_eq_false_iff_ne.mpr hy
    rw[this]at h';exact ha h'
  ·rw[if_neg (by simpa using hp)]at h'
   exact ha h'
theorem clOf_acc {cells:List (Str×Addr)}{y:Str}:∀ {names:List (Str×NameKind)} {acc:List (Str×Addr)},(∃ c,acc.lookup y=some c)->∃ c,(clOf cells names acc).lookup y=some c
 | [],_,h=>h
 | p::r,acc,h=>by
  unfold clOf;refine clOf_acc (names:=r) ?_;split
  ·rw[List.lookup_cons]
   split
   ·exact⟨_,rfl⟩
   ·exact h
  ·exact h
theorem clOf_has {cells:List (Str×Addr)}{y:Str}:∀ {names:List (Str×NameKind)} {acc:List (Str×Addr)},(y,NameKind.free)∈names->∃ c,(clOf cells names acc).lookup y=some c
 | [],_,h=>by simp at h
 | p::r,acc,h=>by
  unfold clOf;rcases List.mem_cons.mp h with h | h
  ·subst h
   refine clOf_acc ?_;rw[if_pos (by simp),List.lookup_cons];simp
  ·exact clOf_has h
theorem closureFor_eq {scope:Scope}{env:Env}(h:∀ p∈scope.names,p.2=.free->∃ c,env.cells.lookup p.1=some c):closureFor scope env=pure (clOf env.cells scope.names []):=by
 have gen:∀ (names:List (Str×NameKind)) (acc:List (Str×Addr)),(∀ p∈names,p.2=.free->∃ c,env.cells.lookup p.1=some c) ->
   (forIn names acc (fun (x:Str×NameKind) (r:List (Str×Addr))=>if (x.2==NameKind.free)=true then (cellOf env x.1 >>= fun a=>(pure (ForInStep.yield ((x.1,a)::r)):Sem (ForInStep (List (Str×Addr))))) else pure (ForInStep.yield r)):Sem (List (Str×Addr)))=pure (clOf env.cells names acc):=by
  intro names;induction names with
  | nil=>intro acc _;rfl
  | cons p r ih =>
   intro acc hf;rw[List.forIn_cons];obtain⟨name,kind⟩:=p;dsimp only;by_cases hk:kind=.free
   ·subst hk
    obtain⟨c,hc⟩:=hf (name,.free) List.mem_cons_self rfl;have e:cellOf env name=pure c:=by unfold cellOf;rw[hc]
    rw[if_pos (by rfl),e];simp only[pure_bind];rw[ih _ fun q hq=>hf q (List.mem_cons_of_mem _ hq)]
    conv=>rhs;unfold clOf
    dsimp only;rw[if_pos (by rfl),hc];rfl
   ·have hb:(kind==NameKind.free)=false:=by simpa using hk
    rw[if_neg (by rw[hb];exact Bool.false_ne_true)];simp only[pure_bind];rw[ih _ fun q hq=>hf q (List.mem_cons_of_mem _ hq)]
    conv=>rhs;unfold clOf
    dsimp only;rw[if_neg (by rw[hb];exact Bool.false_ne_true)]
 unfold closureFor;refine Eq.trans ?_ (gen scope.names [] h);exact bind_pure _
theorem compOk_sc {S:Sc}{X:Cx}{sc:Scope}{xs:List Str}(C:CxOk Γ S X)(hx:X.Ok)(h:compOk S sc xs=true):CompSc X sc (clOf X.env.cells sc.names []) xs (xs++blank S.N xs):=by
 unfold compOk at h;simp only[Bool.and_eq_true,List.all_eq_true,bne_iff_ne,ne_eq,beq_iff_eq,Bool.or_eq_true,decide_eq_true_eq]at h;obtain⟨⟨⟨⟨⟨⟨h1,h2⟩,h5⟩,h6⟩,h7⟩,h8⟩,h9⟩:=h;have hout:∀ y,sc.names.lookup y=some .free->X.env.kindOf y=some .cell\/X.env.kindOf y=some .free:=fun y hy=>by
  rcases h6 _ (lookup_mem hy) with z | z
  ·exact absurd rfl z
  ·have z':S.sc.names.lookup y=some .cell\/S.sc.names.lookup y=some .free:=z
   rcases z' with z | z
   ·obtain⟨k',q1,rfl | ⟨q2,_⟩⟩:=C.sc _ _ z
    ·exact .inl q1
    ·cases q2
   ·obtain⟨k',q1,rfl | ⟨_,rfl⟩⟩:=C.sc _ _ z
    ·exact .inr q1
    ·exact .inl q1
 have hfree:∀ p∈sc.names,p.2=.free->∃ c,X.env.cells.lookup p.1=some c:=fun p hp hf=>by
  refine hx.has p.1 (hout p.1 ?_);rw[(h7 p hp).1,hf]
 refine⟨h1,fun y hy=>(h5 y hy).1,fun x hx=>(h2 x hx).1.1,fun y hy hl=>by rw[(h7 y hy).1,hl],fun y hy=>?_,closureFor_eq hfree,fun y c=>clOf_look hfree (fun z=>by cases z),fun y hy=>clOf_has (lookup_mem hy),hout,h9,fun i y hy=>?_,fun i y hy=>?_,?_⟩
 ·rcases (h5 _ (lookup_mem hy)).2 with z | z
  ·exact absurd rfl z
  ·rcases z with z | z
   ·exact .inl (by simpa using z)
   ·exact .inr z
 ·rw[List.getElem?_append_left (List.getElem?_eq_some_iff.mp hy).1]
  exact hy
 ·have hy':(blank S.N xs)[i]?=some y:=by
   rw[List.getElem?_append_right (Nat.le_add_left ..),Nat.add_sub_cancel]at hy;exact hy
  unfold blank at hy';rw[List.getElem?_map]at hy';cases q:S.N[i]? with
  | none=>rw[q]at hy';cases hy'
  | some z =>
   rw[q]at hy';simp only[Option.map_some,Option.some.injEq]at hy';by_cases hz:z∈xs
   ·rw[if_pos (by simpa using hz)]at hy'
    subst hy';refine⟨fun e=>(h2 _ e).2 rfl,by decide,.inr fun hv=>?_⟩;have nb:∀ k,sc.names.lookup ("" : Str)=some k->False:=fun k e=>(h7 _ (lookup_mem e)).2 rfl;rcases hv with e | e | e
    ·exact nb _ e
    ·exact nb _ e
    ·exact nb _ e
   ·rw[if_neg (by simpa using hz)]at hy'
    subst hy';exact⟨hz,h8 _ (List.mem_of_getElem? q),.inl (by rw[C.n];exact q)⟩
 ·show (xs++blank S.N xs).length=X.N.length + xs.length
  unfold blank;rw[List.length_append,List.length_map,C.n,Nat.add_comm]
theorem comp_cx {S:Sc}{X:Cx}{sc:Scope}{x:List Str}(C:CxOk Γ S X)(h:compOk S sc x=true)(cl:List (Str×Addr))(Ca:Addr)(s:Shared)(H:Hp)(fp:List Addr):CxOk Γ (S.comp sc x) (cxComp X sc cl Ca (x++blank S.N x) s H fp) where
 n:=rfl
 sc:=fun y k hy=>by
  have e:(relabel sc X.env).names.lookup y=(sc.names.lookup y).map fun k=>if (k==NameKind.free&&X.env.scope.kind==.function&&X.env.kindOf y==some .cell) then NameKind.cell else k:=kind_relabel;have hy':sc.names.lookup y=some k:=hy;rw[hy']at e;refine⟨_,e,?_⟩;dsimp only;split
  ·rename_i hc
   simp only[Bool.and_eq_true,beq_iff_eq]at hc;exact .inr ⟨hc.1.1,rfl⟩
  ·exact .inl rfl
 calm:=C.calm
 hu:=C.hu
 nox:=rfl
 fns:=C.fns
 gls:=C.gls
 bls:=C.bls
 nd:=by
  unfold compOk at h;simp only[Bool.and_eq_true,decide_eq_true_eq]at h;exact h.2
theorem pg_own {X:Cx}{sc:Scope}{cl:List (Str×Addr)}{xs N':List Str}(CS:CompSc X sc cl xs N'){i:Nat}{x:Str}{px:Pos}(h:xs[i]?=some x)(Ca:Addr)(s:Shared)(H:Hp)(fp:List Addr):PG (cxComp X sc cl Ca N' s H fp) (.Name x px) (gName i) :=
 pg_name CS.nd (CS.n0 i x h) (.inl (lookup_relabel_local (CS.loc x (List.mem_of_getElem? h)))) (.inr (lookup_relabel_local (CS.loc x (List.mem_of_getElem? h))))
theorem pe_compS {S:Sc}{X:Cx}{sc:Scope}{x:Str}{px pos:Pos}{elt iter:Expr}{ifs:List Expr}{j:Nat}{fs:Ev->Mo Src}{fc:Ev->Mo Bool}{fe:DE}(C:CxOk Γ S X)(h:compOk S sc [x]=true)(hi:PI X (.Name x px) iter (LI X.K fs))(hs:∀ x,foldedSetIterable iter X.env x=pure x)
  (htc:∀ X',CxOk Γ (S.comp sc [x]) X'->X'.K=X.K->PTs X' ifs (LT X'.K fc)) (hte:∀ X',CxOk Γ (S.comp sc [x]) X'->X'.K=X.K->PE X' elt (LE X'.K fe)) :
  PE X (.ListComp elt [⟨.Name x px,iter,ifs,0⟩] sc pos) (LE X.K (fun ρ=>do
   let s <- fs ρ
   need (s.ds.length<=sizeLine)
   let ys <- compD s.ck fc fe (ρ.set j none) s.ds
   newM (.lst ys))):=by
 intro pins s σ H Q I q;have CS:=compOk_sc C I.ok h;exact pe_comp C.calm CS (fun _ _ _ _=>pg_own CS rfl _ _ _ _) hi (fun Ca s H fp=>htc _ (comp_cx C h _ Ca s H fp) rfl) (fun Ca s H fp=>hte _ (comp_cx C h _ Ca s H fp) rfl) hs pins s σ H Q I (LE.comp σ H Q q)
theorem bl_boot {x:Str}{m:Nat}{b:Bl}(h:blOf x m=some b):bootBuiltins x=some (blVal b)/\∃ y:String,x=Str.ofString y:=by
 unfold blOf at h;have key:∀ (y:String) (k:Nat),(x==(Str.ofString y)&&m==k)=true->x=Str.ofString y:=fun y k e=>by
  simp only[Bool.and_eq_true,beq_iff_eq]at e;exact e.1
 split at h
 ·rename_i e;cases h;rw[key _ _ e];exact⟨by decide +kernel,_,rfl⟩
 split at h
 ·rename_i e;cases h;rw[key _ _ e];exact⟨by decide +kernel,_,rfl⟩
 split at h
 ·rename_i e;cases h;rw[key _ _ e];exact⟨by decide +kernel,_,rfl⟩
 split at h
 ·rename_i e;cases h;rw[key _ _ e];exact⟨by decide +kernel,_,rfl⟩
 split at h
 ·rename_i e;cases h;rw[key _ _ e];exact⟨by decide +kernel,_,rfl⟩
 split at h
 ·rename_i e;cases h;rw[key _ _ e];exact⟨by decide +kernel,_,rfl⟩
 split at h
 ·rename_i e;cases h;rw[key _ _ e];exact⟨by decide +kernel,_,rfl⟩
 split at h
 ·rename_i e;cases h;rw[key _ _ e];exact⟨by decide +kernel,_,rfl⟩
 split at h
 ·rename_i e;cases h;rw[key _ _ e];exact⟨by decide +kernel,_,rfl⟩
 split at h
 ·rename_i e;cases h;rw[key _ _ e];exact⟨by decide +kernel,_,rfl⟩
 split at h
 ·rename_i e;cases h;rw[key _ _ e];exact⟨by decide +kernel,_,rfl⟩
 ·cases h
theorem plainIx_of {b:Expr}(h:ixE b=true):PlainIx b:=by
 intro o i;cases b <;> first
  | rfl
  | exact absurd h Bool.false_ne_true
end
end L3
namespace L3
open PySem PySem.Spec PyProof.Rows L2
theorem nolen_lri:typeLookup (.type "list_reverseiterator") "__len__" = pure none:=by rw[typeLookup_type,builtinLookup_eq_fast];kernel_rfl
theorem hint_lri:typeLookup (.type "list_reverseiterator") "__length_hint__" = pure (some (.builtin "list_reverseiterator.__length_hint__")):=by rw[typeLookup_type,builtinLookup_eq_fast];kernel_rfl
section
variable {prog:Program}{w:World}{A:Around}{s:Shared}{R:Result->Shared->Prop}{E:Value->Shared->Prop}
variable {I:Addr}{fp wr:List Addr}{G:Array GenState->Array GenState->Prop}{n:Nat}{P:Nat->Value->Prop}{St:Nat->Shared->Prop}
theorem extend_rev (W:WalksS prog w A.in1 I fp wr G n P St)(hT:∀ i s,St i s->s.TypeIs (.ref I) "list_reverseiterator")(S:Addr)(res:Value)(c₀:Nat)(hst:St 0 s)(hSf:S ∉ fp)(hI:I∈fp)
  (hS:s.heap.get? S=some { cls:=.type "list",data:=.seq #[] c₀ })
  (hR:∀ s' acc' c',Moved (S::wr) G s s'->s'.heap.get? S=some { cls:=.type "list",dict:=none,data:=.seq acc' c',slots:=#[] }->ItemsOf P acc' n->R (.ok (.ret res)) s') (hn:n<=sizeLine) :
  wpAny (model prog w) A.in1 (Builtin.List.listExtendWith (.ref S) (.ref I) res)
   (fun fin s'=>match fin with | .done f=>R (.ok f) s' | .again c'=>c'.quiet=true/\codeAny (model prog w) A c' R s') (fun e s'=>R (.error e) s') s:=by
 have hSI:S≠I:=fun e=>hSf (e ▸ hI);unfold Builtin.List.listExtendWith;refine wpAny_bind (wpAny_typeOf (hT 0 _ hst) ?_);have h1:Builtin.List.listSameRef (.ref S) (.ref I)=false:=by simp[Builtin.List.listSameRef,hSI]
 rw[if_neg (by rw[h1];decide)];refine wpAny_bind (W.self 0 _ _ _ hst ?_);refine wpAny_bind (wpAny_holding ?_);unfold Builtin.List.listLengthHint;refine wpAny_bind (wpAny_specialOf (hT 0 _ hst) nolen_lri ?_);show wpAny _ A.in1 (specialOf (Value.ref I) (Str.ofString "__length_hint__") >>= _) _ _ _;refine wpAny_bind (wpAny_specialOf (hT 0 _ hst) hint_lri ?_)
 (generalize hid:("list_reverseiterator.__length_hint__" : String)=id0;(fail_if_success (clear hid id0));wp_delta;rw[show splitId id0=some ("list_reverseiterator","__length_hint__") from by subst hid;decide +kernel];subst hid)
 refine wpAny_bind (wpAny_isInstance (b:=true) (hT 0 _ hst) (by rw[isSubtype_type];kernel_rfl) ?_);refine wpAny_pure ?_;rw[if_neg (by decide)];exact wpAny_pure ⟨plainId_quiet F.plain_extend_loop _,codeAny_extend_loopS W hn _ hSf _ n 0 _ _ _ rfl (Nat.zero_le _) hst hS (ItemsOf.nil P) fun s' acc' c' hm hS' hacc=>hR s' acc' c' hm hS' hacc⟩
theorem list_init_rev (W:WalksS prog w A.in1 I fp wr G n P St)(hT:∀ i s,St i s->s.TypeIs (.ref I) "list_reverseiterator")(S:Addr)(hst:St 0 s)(hSf:S ∉ fp)(hI:I∈fp)
  (hS:s.heap.get? S=some { cls:=.type "list",data:=.seq #[] })
  (hR:∀ s' acc' c',Moved (S::wr) G s s'->s'.heap.get? S=some { cls:=.type "list",dict:=none,data:=.seq acc' c',slots:=#[] }->ItemsOf P acc' n->R (.ok (.ret .none)) s') (hn:n<=sizeLine) :
  wpAny (model prog w) A.in1 (Builtin.«list.__init__» ⟨[.ref S,.ref I],[]⟩)
   (fun fin s'=>match fin with | .done f=>R (.ok f) s' | .again c'=>c'.quiet=true/\codeAny (model prog w) A c' R s') (fun e s'=>R (.error e) s') s:=by
 show wpAny _ A.in1 (do let old <- Builtin.List.listItems (.ref S);Builtin.List.listUpdate (.ref S) (fun _=>#[]);letGo old.toList.reverse;Builtin.List.listExtendWith (.ref S) (.ref I) .none) _ _ s;refine wpAny_bind ?_;unfold Builtin.List.listItems;refine wpAny_bind (wpAny_seqItems hS rfl (wpAny_pure ?_));show wpAny _ A.in1 (updateSeq S (fun _=>#[]) >>= fun _=>letGo (#[]:Array Value).toList.reverse >>= fun _=>Builtin.List.listExtendWith (.ref S) (.ref I) .none) _ _ s;refine wpAny_bind (wpAny_updateSeq hS rfl ?_);have hS₂:=Heap.get?_update_self (Obj.mapSeq (fun _=>(#[]:Array Value))) hS rfl;have oth:∀ b o,b≠S->s.heap.get? b=some o->(s.heap.update S (Obj.mapSeq (fun _=>(#[]:Array Value)))).get? b=some o :=
  fun b o hb e=>(Heap.get?_update_other _ _ (Ne.symm hb)).trans e
 refine wpAny_bind (wpAny_letGo ?_);refine extend_rev W hT S .none _ (W.frame 0 s _ s.toks hst (Nat.le_refl _) fun b hb o e=>oth b o (fun h=>hSf (h ▸ hb)) e) hSf hI hS₂ (fun s' acc' c' hm hS' hacc=>?_) hn;exact hR s' acc' c' (Moved.trans W.gtrans ((Moved.refl W.grefl).then_heap (Nat.le_refl _) fun b o hb e=>oth b o (fun h=>hb (h ▸ List.mem_cons_self)) e) hm) hS' hacc
theorem call_list_rev {l:Addr}{items:Array Value}{Q:Value->Shared->Prop}(hh:A.handled=none)(hit:s.heap.IsRevIter I l ((items.size:Int) - 1))(hl:s.heap.IsList l items)(hsz:items.size<=sizeLine)
  (hQ:∀ h' tk c',(∀ b o,b≠I->s.heap.get? b=some o->h'.get? b=some o)->h'.get? s.heap.objs.size=some { cls:=.type "list",dict:=none,data:=.seq items.reverse c',slots:=#[] }->Q (.ref s.heap.objs.size) { s with heap:=h',toks:=tk }) :
  wpAny (model prog w) A (call (.type "list") [.ref I]) Q E s:=by
 obtain⟨oi,hoi,hci,_⟩:=id hit;obtain⟨ol,hol,hcl,_⟩:=id hl;have hne:l≠I:=fun z=>by
  rw[z,hoi]at hol;cases hol;rw[hci]at hcl;exact absurd hcl (by decide)
 have W:=(Walks.listRev (prog:=prog) (w:=w) (A:=A.in1.in1) hh I l hne items).toS;have hfp:∀ b∈[I,l],b < s.heap.objs.size:=fun b hb=>by
  rcases List.mem_cons.mp hb with rfl | hb
  ·exact Heap.lt_size hoi
  ·rw[List.mem_singleton.mp hb];exact Heap.lt_size hol
 have hSf:s.heap.objs.size ∉ [I,l]:=fun hm=>Nat.lt_irrefl _ (hfp _ hm);refine callType_codes (Q₁:=fun obj s₁=>obj=.ref s.heap.objs.size/\s₁ = { s with heap:=s.heap.push { cls:=.type "list",data:=.seq #[] } }) F.called_list (F.typeCall_list_1 _) F.entry_list_init
  (code_list_new _ ⟨rfl,rfl⟩) fun obj s₁ h₁=>?_
 obtain⟨rfl,rfl⟩:=h₁;have hS:(s.heap.push { cls:=.type "list",data:=.seq #[] }).get? s.heap.objs.size=some { cls:=.type "list",data:=.seq #[] }:=Heap.get?_push_size _ rfl;have hst:(0:Nat)<=items.size/\(s.heap.push { cls:=.type "list",data:=.seq #[] }).IsRevIter I l ((items.size:Int) - 1 - ((0:Nat):Int))/\(s.heap.push { cls:=.type "list",data:=.seq #[] }).IsList l items :=
  ⟨Nat.zero_le _,by rw[show ((items.size:Int) - 1 - ((0:Nat):Int))=(items.size:Int) - 1 by simp];exact hit.at fun o e=>Heap.get?_push_of_some _ e,hl.at fun o e=>Heap.get?_push_of_some _ e⟩
 refine⟨⟨_,hS,rfl⟩,F.args_list_init_2 _ _,list_init_rev W (fun i s st=>st.2.1.typeIs) _ hst hSf (List.mem_cons_self ..) hS (fun s' acc' c' hm hS' hacc=>⟨rfl,?_⟩) hsz⟩;have ea:acc'=items.reverse:=by
  refine Array.ext_getElem? fun j=>?_;by_cases hj:j < items.size
  ·have hj':j < acc'.size:=by rw[hacc.1];exact hj
   have:=hacc.2 j _ (Array.getElem?_eq_getElem hj')
   rw[Array.getElem?_eq_getElem hj',Array.getElem?_reverse hj,this]
  ·rw[Array.getElem?_eq_none (by rw[hacc.1];omega),Array.getElem?_eq_none (by rw[Array.size_reverse];omega)]
 subst ea;obtain⟨h',g',d',tk',os'⟩:=s';have e1:g'=s.gens:=hm.gens;have e2:d'=s.drawn:=hm.drawn;have e3:os'=s.os:=hm.os;subst e1 e2 e3;refine hQ h' tk' c' (fun b o hb e=>?_) hS';refine hm.heap b o (fun hx=>?_) (Heap.get?_push_of_some _ e);rcases List.mem_cons.mp hx with z | z
 ·exact Nat.lt_irrefl _ (z ▸ Heap.lt_size e)
 ·exact hb (List.mem_singleton.mp z)
end
section
variable {X:Cx}{pins:List (Addr×Obj)}{σ:St}{H:Hp}{s:Shared}{h':Heap}
theorem inv_drop {t':Nat}{p:Addr}{φ:Heap->Prop}(I:Inv X pins σ (upd H p (.ext φ)) s)(hp:H p=none)(hf:X.s₀.heap.objs.size<=p)(k:∀ b o,b≠p->s.heap.get? b=some o->h'.get? b=some o) :
  Inv X pins σ H { s with heap:=h',toks:=t' }:=by
 have np:∀ b u,H b=some u->b≠p:=fun b u e z=>by rw[z,hp]at e;cases e
 have ne:∀ {b u},upd H p (.ext φ) b=some u->u≠.ext φ->b≠p:=fun {b u} e n z=>by
  rw[z,upd_same]at e;cases e;exact n rfl
 have nn:∀ {b},upd H p (.ext φ) b=none->b≠p:=fun {b} e z=>by
  rw[z,upd_same]at e;cases e
 have hL:p≠X.env.locals:=fun z=>nn I.free z.symm;refine I.step (g':=s.gens) (d':=s.drawn) (ch:=[p]) (fun b hb=>?_) (fun b o _ _ hc e _=>k b o (fun z=>hc (by simp[z])) e) (fun b o _ _ hc e _=>⟨o.slots,k b o (fun z=>hc (by simp[z])) e⟩)
  (fun b o hc _ n=>by rw[upd_ne (fun z=>hc (by simp[z]))]at n;exact n)
  (fun b o hc e=>⟨o,k b o (fun z=>hc (by simp[z])) e⟩) (fun b xs e=>by rw[upd_ne (ne e (by intro z;cases z))]at e;exact e) (fun b o u e=>by rw[upd_ne (ne e (by intro z;cases z))]at e;exact e)
  (fun b ps e=>⟨#[],by rw[upd_ne (ne e (by intro z;cases z))]at e;rw[e];simp⟩) (fun m hm=>?_) (fun b u e=>?_) I.bare
 ·have e:b=p:=by simpa using hb
  subst e;exact⟨.inr hf,hL,fun x c e=>nn (I.freeC x c e),fun q hq=>nn (I.pin q hq).2.1⟩
 ·obtain⟨o,es,ep,ho,r⟩:=hm
  exact⟨o,es,ep,k _ o (Ne.symm hL) ho,r⟩
 ·have hb:=np b u e
  refine(I.hok b u (by rw[upd_ne hb];exact e)).stay (fun c v hc q=>k c v ?_ q) ?_ ?_
  ·rcases hc with z | z
   ·rw[z];exact hb
   ·exact ne z (by intro z;cases z)
  ·exact fun c z=>by rw[upd_ne (ne z (by intro z;cases z))]at z;exact z
  ·exact fun c xs z=>by rw[upd_ne (ne z (by intro z;cases z))]at z;exact z
end
section
variable {X:Cx}
theorem SqL.newE {K:PySem.W.Frag}{H:Hp}{p a:Addr}{ho:HO}{xs:List V}(hp:H p=none)(h:SqL K H a xs):SqL K (upd H p ho) a xs:=by
 rcases h with (h | ⟨o,h⟩) | h
 ·exact .inl (.inl (by rw[upd_ne (ne_of_none h hp)];exact h))
 ·exact .inl (.inr ⟨o,by rw[upd_ne (ne_of_none h hp)];exact h⟩)
 ·exact .inr h
theorem vals_app:∀ {xs ys:List V} {us ws:List Value},Vals xs us->Vals ys ws->Vals (xs++ys) (us++ws)
 | _,_,_,_,.nil,h=>h
 | _,_,_,_,.cons a r,h=>.cons a (vals_app r h)
theorem vals_rev:∀ {xs:List V} {us:List Value},Vals xs us->Vals xs.reverse us.reverse
 | _,_,.nil=>.nil
 | _,_,.cons a r=>by rw[List.reverse_cons,List.reverse_cons];exact vals_app (vals_rev r) (.cons a .nil)
theorem reps_app {K:PySem.W.Frag}{ι:List Addr}{H:Hp}:∀ {xs ys:List D} {us ws:List V},Reps K ι H xs us->Reps K ι H ys ws->Reps K ι H (xs++ys) (us++ws)
 | _,_,_,_,.nil,h=>h
 | _,_,_,_,.cons a r,h=>.cons a (reps_app r h)
theorem reps_rev {K:PySem.W.Frag}{ι:List Addr}{H:Hp}:∀ {xs:List D} {us:List V},Reps K ι H xs us->Reps K ι H xs.reverse us.reverse
 | _,_,.nil=>.nil
 | _,_,.cons a r=>by rw[List.reverse_cons,List.reverse_cons];exact reps_app (reps_rev r) (.cons a .nil)
noncomputable def revP (X:Cx)(p a:Addr)(n:Nat)(h:Heap):Prop:=X.s₀.heap.objs.size<=p/\h.IsRevIter p a ((n:Int) - 1)
theorem call_reversed:CallR X (.type "reversed") (fun xs H Q=>∃ a ys,xs=[.ref a]/\SqL X.K H a ys/\∀ p,H p=none->Q (.ref p) (upd H p (.ext (revP X p a ys.length)))):=by
 intro pins s σ H xs us Q I rv h;obtain⟨a,ys,rfl,hq,q⟩:=h;obtain⟨u,rfl,ru⟩:=vals1 rv;cases ru;obtain⟨its,rel,pl,hz⟩:=I.list hq;have hl:its.length=ys.length:=rel.length.symm;refine call_reversed_list pl.isList ?_;have e:((its.toArray.size:Int) - 1)=(ys.length:Int) - 1:=by rw[List.size_toArray,hl]
 rw[e];refine⟨.ref s.heap.objs.size,_,I.laid (t':=s.toks) (o:=.ext (revP X s.heap.objs.size a ys.length)) (fun b o e=>Heap.get?_push_of_some _ e) (Nat.le_refl _) ?_,rfl,q _ (I.hok.fresh (Nat.le_refl _))⟩;exact⟨⟨I.sz,_,Heap.get?_push_size _ rfl,rfl,rfl⟩,⟨_,Heap.get?_push_size _ rfl⟩,fun h1 h2 ⟨z,o,e1,e2⟩ k=>⟨z,o,k o e1,e2⟩⟩
theorem call_listRev (hc:X.calm=true):CallR X (.type "list") (fun xs H Q=>∃ p a ys H0,xs=[.ref p]/\H0 p=none/\H=upd H0 p (.ext (revP X p a ys.length))/\SqL X.K H0 a ys/\∀ l,H0 l=none->Q (.ref l) (upd H0 l (.lst ys.reverse))):=by
 intro pins s σ H xs us Q I rv h;obtain⟨p,a,ys,H0,rfl,hp,rfl,hq,q⟩:=h;obtain⟨u,rfl,ru⟩:=vals1 rv;cases ru;obtain⟨its,rel,pl,hz⟩:=I.list (SqL.newE hp hq);have hl:its.length=ys.length:=rel.length.symm;obtain⟨⟨hf,hit⟩,_,_⟩:=I.hok p _ upd_same;have e:((its.toArray.size:Int) - 1)=(ys.length:Int) - 1:=by rw[List.size_toArray,hl]
 rw[<- e]at hit;refine call_list_rev (I.ok.hd hc) hit pl.isList (by rw[List.size_toArray,hl];exact hz) fun h' tk c' kp eS=>?_;have I1:Inv X pins σ H0 { s with heap:=h',toks:=tk }:=inv_drop I hp hf kp;have fr:(upd H0 p (.ext (revP X p a ys.length))) s.heap.objs.size=none:=I.hok.fresh (Nat.le_refl _);have hne:s.heap.objs.size≠p:=fun z=>by rw[z,upd_same]at fr;cases fr
 rw[upd_ne hne]at fr;refine⟨.ref s.heap.objs.size,_,inv_adopt I1 fr (young_of I (Nat.le_refl _)) (show ObjOk X.prog X.w _ h' _ (.lst ys.reverse) from ⟨by rw[List.length_reverse];exact hz,its.reverse,c',vals_rev rel,?_⟩),rfl,q _ fr⟩;rw[eS];simp
theorem rev_sound {Γ:Ctx}{S:Sc}{f g:Str}{a:Expr}{p1 p2 p3 p4:Pos}{fa:DE}(C:CxOk Γ S X)(h:revOk S f g=true)(hp:plainE a=true)(ha:PE X a (LE X.K fa)) :
  PE X (.Call (.Name f p1) [.Call (.Name g p2) [a] [] p3] [] p4) (LE X.K (fun ρ=>do let x <- fa ρ;let ds <- lstD x;newM (.lst ds.reverse))):=by
 unfold revOk at h;simp only[Bool.and_eq_true,beq_iff_eq]at h;obtain⟨⟨⟨⟨⟨⟨⟨h1,h2⟩,h3⟩,h4⟩,h5⟩,h6⟩,h7⟩,h8⟩:=h;subst h1 h2;obtain⟨o1,o2,o3⟩:=okName_debug h3;obtain⟨q1,q2,q3⟩:=okName_debug h4;have pr:=pe_callTy (p:=p2) (pos:=p3) call_reversed (C.glo h6) (C.bls _ (mem_of_contains h8)) PyProof.Rows.boot_reversed (pa_cons ha pa_nil (star_plain hp)) q3 q1 (star_plain hp) rfl;refine PE.imp (pe_callTy (call_listRev C.calm) (C.glo h5) (C.bls _ (mem_of_contains h7)) PyProof.Rows.boot_list (pa_cons pr pa_nil) o3 o1) fun σ H Q q=>?_;obtain⟨ι,ρ,M,d,M',S',R,e,k⟩:=q;obtain⟨x,M1,e1,ea⟩:=bind_ok e;obtain⟨ds,M2,e2,eb⟩:=bind_ok ea;refine⟨ι,ρ,M,x,M1,S',R,e1,fun v1 H1 ι1 r1 S1 X1=>?_⟩;have fact:M2=M1/\∃ p vs,v1=.ref p/\SqL X.K H1 p vs/\Reps X.K ι1 H1 ds vs:=by
  cases r1 with
  | fl t q=>obtain⟨rfl,rfl⟩:=pure_ok e2;exact⟨rfl,_,_,rfl,t.seq,q⟩
  | ob t =>
   obtain⟨g,rfl⟩:=getL_ok e2;obtain⟨p,ws,g1,g2,g3,g4⟩:=sim_list S1 (.ob t) g;exact⟨rfl,p,ws,g1,SqL.of g3,g4⟩
  | _=>exact(stop_ok e2).elim
 obtain⟨rfl,p,vs,rfl,hq,hr⟩:=fact;obtain⟨rfl,rfl⟩:=newM_ok eb;refine⟨p,vs,rfl,hq,fun it hit=>⟨it,p,vs,H1,rfl,hit,rfl,hq,fun l hl=>?_⟩⟩;have X4:Ext X.K ι1 H1 (ι1++[l]) (upd H1 l (.lst vs.reverse)):=Ext.new hl;exact k _ _ _ (.ob (by rw[<- S1.len,List.getElem?_append_right (Nat.le_refl _),Nat.sub_self];rfl)) (S1.new hl ⟨vs.reverse,rfl,reps_rev (hr.mono X4)⟩) (X1.trans X4)
end
theorem rev_eq {e a:Expr}{g:Str}{p q:Pos}(h:revE e=some (g,p,a,q)):e=.Call (.Name g p) [a] [] q:=by
 unfold revE at h;split at h
 ·cases h;rfl
 ·cases h
end L3
namespace L3
open PySem PySem.Spec PyProof.Rows L2
section
variable {Γ:Ctx}{n:Nat}
noncomputable def SrtI (Γ:Ctx):Prop:=∀ (S:Sc) (X:Cx) (f m:Str) (o:Expr) (p1 p2 p3 p4:Pos) (fo:DE),CxOk Γ S X->(f==("sorted" : Str)&&m==("items" : Str)&&p2.endLine==p3.line&&okName f&&S.glo f&&S.bls.contains f)=true->PE X o (LE X.K fo)->(∀ a w',attributeBase o a X.env w'=w') ->
 PE X (.Call (.Name f p1) [.Call (.Attribute o m p2) [] [] p3] [] p4) (LE X.K (fun ρ=>do
  let x <- fo ρ
  (match x with
  | .ob k=>do let kvs <- getD k;let ys <- lift (Γ.srt (dicItems kvs));newM (.lst ys)
  | _=>Mo.stop)))
noncomputable def SrtL (Γ:Ctx):Prop:=∀ (S:Sc) (X:Cx) (f:Str) (a:Expr) (p1 p4:Pos) (fa:DE),CxOk Γ S X->(f==("sorted" : Str)&&okName f&&S.glo f&&S.bls.contains f)=true->plainE a=true->PE X a (LE X.K fa) ->
 PE X (.Call (.Name f p1) [a] [] p4) (LE X.K (fun ρ=>do let x <- fa ρ;let ds <- lstD x;let ys <- lift (Γ.srt ds);newM (.lst ys)))
noncomputable def SrtS (_:Ctx):Prop:=True
noncomputable def SrtD (_:Ctx):Prop:=True
noncomputable def SrtT (Γ:Ctx):Prop:=∀ (S:Sc) (X:Cx) (f:Str) (a:Expr) (p1 p4:Pos) (fa:DE),CxOk Γ S X->(f==("sorted" : Str)&&okName f&&S.glo f&&S.bls.contains f)=true->plainE a=true->PE X a (LE X.K fa) ->
 PE X (.Call (.Name f p1) [a] [] p4) (LE X.K (fun ρ=>do let x <- fa ρ;keyTT Γ.srt x))
noncomputable def SrtOk (Γ:Ctx):Prop:=SrtI Γ/\SrtL Γ/\SrtS Γ/\SrtD Γ/\SrtT Γ
theorem base_of {o:Expr}{a:Str}{env:Env}{w':Sem Value}(h:bsE o=true):attributeBase o a env w'=w':=by
 cases o <;> first
  | rfl
  | exact absurd h Bool.false_ne_true
  | (rename_i f as ks p
     cases as with
     | nil=>exact absurd h Bool.false_ne_true
     | cons e es=>cases f <;> first | rfl | (cases ks <;> rfl))
theorem LE.neg {K:PySem.W.Frag}{fa:DE}(σ:St)(H:Hp)(Q:VK)(h:LE K (fun ρ=>do
  let x <- fa ρ
  (match x with
  | .int i=>pure (.int (-i))
  | _=>Mo.stop)) σ H Q):tUn (rU fun i=>.int (-i)) (LE K fa) σ H Q:=by
 obtain⟨ι,ρ,M,d,M',S,R,e,k⟩:=h;have e0:=bind_ok e;clear e;obtain⟨x,M1,e1,e⟩:=e0;refine⟨ι,ρ,M,x,M1,S,R,e1,fun v H1 ι1 r1 S1 X1=>?_⟩;cases r1 with
 | int i=>have e0:=pure_ok e;clear e;obtain⟨rfl,rfl⟩:=e0;exact⟨i,rfl,k _ H1 ι1 (.int _) S1 X1⟩
 | _=>exact(stop_ok e).elim
theorem not_any {α:Type}{l:List (Bool×α)}(h:l.any (·.1)=false):l.all (fun x=>!x.1)=true:=by
 rw[List.all_eq_true];intro x hx
 have:=List.any_eq_false.mp h x hx
 simpa using this
theorem isi_sound {S:Sc}{X:Cx}{f t:Str}{k:Ty}{a:Expr}{p1 p2 p3:Pos}{fa:DE}(C:CxOk Γ S X)(hs:isiOk S f t=true)(hk:tyOf t=some k)(ha:PE X a (LE X.K fa))(hp:plainE a=true) :
  PE X (.Call (.Name f p1) [a,.Name t p2] [] p3) (LE X.K (fun ρ=>do let x <- fa ρ;let b <- tyD k x;pure (.bl b))):=by
 unfold isiOk at hs;simp only[Bool.and_eq_true,beq_iff_eq]at hs;obtain⟨⟨⟨⟨⟨⟨h1,h2⟩,h3⟩,h4⟩,h5⟩,h6⟩,h7⟩:=hs;subst h1;obtain⟨o1,o2,o3⟩:=okName_debug h2;obtain⟨q1,q2,q3⟩:=okName_debug h5;have pt:PE X (.Name t p2) (tC (.ty (tyName k))):=pe_bltn (C.glo h6) (C.bls _ (mem_of_contains h7)) (ty_boot hk) rfl q3 q1;exact PE.imp (pe_callB (call_isi k) (C.glo h3) (C.bls _ (mem_of_contains h4)) PyProof.Rows.boot_isinstance (pa_cons ha (pa_cons pt pa_nil) (star_plain hp)) o3 o1 (star_plain hp) rfl) LE.isI
theorem call_sound {S:Sc}{X:Cx}{rs:List Expr->Option IEs}(hrs:∀ es i,rs es=some i->PA X es (LA X.K (semEs Γ i))/\es.all plainE=true){f:Str}{p1 pos:Pos}{a:Expr}{as:List Expr}{i:IE}(C:CxOk Γ S X)(h:callK S f (a::as).length (rs (a::as))=some i):PE X (.Call (.Name f p1) (a::as) [] pos) (LE X.K (semE Γ i)):=by
 unfold callK at h;split at h
 ·rename_i hs
  simp only[Bool.and_eq_true]at hs;obtain⟨o1,o2,o3⟩:=okName_debug hs.1;split at h
  ·rename_i hf
   obtain⟨xs,h1,rfl⟩:=Option.map_eq_some_iff.mp h;obtain⟨k,fa,fd,ps,g1,g2,g3,g4,g5,g6⟩:=C.fns f (mem_of_contains hf);obtain⟨pa,pl⟩:=hrs _ _ h1;rw[List.all_cons,Bool.and_eq_true]at pl;exact PE.imp (pe_call g4 g5 (C.glo hs.2) g1 g2 g3 .nil pass0 pa o1 (star_plain pl.1) (back_plain pl.2)) fun σ H Q q=>LE.call σ H Q g6 q
  ·split at h
   ·rename_i hb
    split at h
    ·rename_i b hbl
     obtain⟨xs,h1,rfl⟩:=Option.map_eq_some_iff.mp h;obtain⟨pa,pl⟩:=hrs _ _ h1;rw[List.all_cons,Bool.and_eq_true]at pl;have hbt:=(bl_boot hbl).1;have hmg:=C.bls f (mem_of_contains hb);have hc:=call_bl (X:=X) C.calm C.hu b;unfold blVal at hbt hc;split at hbt
     ·rename_i ht
      rw[if_pos ht]at hc;exact PE.imp (pe_callTy hc (C.glo hs.2) hmg hbt pa o3 o1 (star_plain pl.1) (back_plain pl.2)) LE.blt
     ·rename_i ht
      rw[if_neg ht]at hc;exact PE.imp (pe_callB hc (C.glo hs.2) hmg hbt pa o3 o1 (star_plain pl.1) (back_plain pl.2)) LE.blt
    ·cases h
   ·cases h
 ·cases h
section
variable {S:Sc}{X:Cx}{r:Expr->Option IE}{rs:List Expr->Option IEs}{ro:Option Expr->Option IEo}
theorem name_sound (C:CxOk Γ S X){x:Str}{pos:Pos}{i:IE}(h:nameK S x=some i):PE X (.Name x pos) (LE X.K (semE Γ i)):=by
 unfold nameK at h;split at h
 ·rename_i hok
  obtain⟨o1,o2,o3⟩:=okName_debug hok;split at h
  ·rename_i hv
   obtain⟨j,hs,rfl⟩:=Option.map_eq_some_iff.mp h;exact PE.imp (pe_var (by rw[C.n];exact slot_get hs) (C.vis hv) o1 o2) (LE.var)
  ·split at h
   ·rename_i hg
    cases h;simp only[Bool.and_eq_true]at hg;obtain⟨d,u,v,g1,g2,g3,g4⟩:=C.gls x (mem_of_contains hg.2);refine PE.imp (pe_glob (C.glo hg.1) g2 g3 o1) fun σ H Q h=>?_;refine LE.const g4 σ H Q ?_;have e:semE Γ (.glb x)=fun _=>(pure d:Mo D):=by funext ρ;show lift (Γ.gl x)=_;rw[g1];rfl
    rw[e]at h;exact h
   ·cases h
 ·cases h
theorem const_sound {c:Const}{k:Nat}{pos:Pos}{i:IE}(h:constK c=some i):PE X (.Constant c k pos) (LE X.K (semE Γ i)):=by
 cases c with
 | int j=>cases h;exact PE.imp pe_int (LE.const fun _ _=>.int _)
 | bool j=>cases h;exact PE.imp pe_bl (LE.const fun _ _=>.bl _)
 | none=>cases h;exact PE.imp pe_non (LE.const fun _ _=>.non)
 | str j=>cases h;exact PE.imp pe_str (LE.const fun _ _=>.str _)
 | _=>cases h
variable (hr:∀ e i,r e=some i->PE X e (LE X.K (semE Γ i)))
include hr
theorem cmp_sound (C:CxOk Γ S X){a:Expr}{ops:List CmpOp}{bs:List Expr}{pos:Pos}{i:IE}(h:cmpK r a ops bs=some i):PE X (.Compare a ops bs pos) (LE X.K (semE Γ i))/\PT X (.Compare a ops bs pos) (LT X.K (semC Γ (.cmp i))):=by
 unfold cmpK at h;split at h
 ·split at h
  ·cases h
  ·rename_i hm
   obtain⟨x,h1,h⟩:=obind h;obtain⟨y,h2,h⟩:=obind h;cases h;exact⟨PE.imp (pe_cmpR (op_cmp C.hu _) (hr _ _ h1) (hr _ _ h2) (by simpa using hm)) (LE.bin opS_R2S),PT.imp (pt_cmpR (op_cmp C.hu _) (hr _ _ h1) (hr _ _ h2) (by simpa using hm)) fun σ H Q q=>LE.bin opS_R2S σ H _ (LT.test σ H Q q)⟩
 ·split at h
  ·cases h
  ·rename_i op op' b c hm
   obtain⟨x,h1,h⟩:=obind h;obtain⟨y,h2,h⟩:=obind h;obtain⟨z,h3,h⟩:=obind h;cases h;exact⟨PE.imp (pe_chain (op_cmp C.hu op) (op_cmp C.hu op') (hr _ _ h1) (hr _ _ h2) (hr _ _ h3) (by show behindInMarks op' c=false;simpa using hm)) (LE.chain),PT.imp (pt_chain (op_cmp C.hu op) (op_cmp C.hu op') (hr _ _ h1) (hr _ _ h2) (hr _ _ h3) (by show behindInMarks op' c=false;simpa using hm)) fun σ H Q q=>LE.chain σ H _ (LT.test σ H Q q)⟩
 ·cases h
theorem bool_sound {op:BoolOp}{es:List Expr}{pos:Pos}{i:IE}(h:boolK r op es pos=some i):PE X (.BoolOp op es pos) (LE X.K (semE Γ i)):=by
 unfold boolK at h;split at h
 ·obtain⟨x,h1,h⟩:=obind h
  obtain⟨y,h2,h⟩:=obind h;cases h;cases op with
  | And=>exact PE.imp (pe_and (hr _ _ h1) (pe_one (hr _ _ h2))) (LE.and)
  | Or=>exact PE.imp (pe_or (hr _ _ h1) (pe_one (hr _ _ h2))) (LE.or)
 ·obtain⟨x,h1,h⟩:=obind h
  obtain⟨y,h2,h⟩:=obind h;cases h;cases op with
  | And=>exact PE.imp (pe_and (hr _ _ h1) (hr _ _ h2)) (LE.and)
  | Or=>exact PE.imp (pe_or (hr _ _ h1) (hr _ _ h2)) (LE.or)
 ·cases h
theorem un_sound {op:UnaryOp}{a:Expr}{pos:Pos}{i:IE}(h:unK r op a=some i):PE X (.UnaryOp op a pos) (LE X.K (semE Γ i)):=by
 cases op with
 | Not =>
  obtain⟨x,h1,h⟩:=obind h;cases h;exact PE.imp (pe_not (hr _ _ h1)) (LE.not)
 | USub =>
  obtain⟨x,h1,h⟩:=obind h;cases h;exact PE.imp (pe_un un_neg (hr _ _ h1)) (LE.neg)
 | _=>cases h
theorem sub_sound (C:CxOk Γ S X)(ho:∀ e i,ro e=some i->PO X e (LO X.K (semO Γ i))){a b:Expr}{pos:Pos}{i:IE}(h:subK r ro a b=some i):PE X (.Subscript a b pos) (LE X.K (semE Γ i)):=by
 unfold subK at h;split at h
 ·obtain⟨x,h1,h⟩:=obind h
  obtain⟨l,h2,h⟩:=obind h;obtain⟨q,h3,h⟩:=obind h;cases h;exact PE.imp (pe_slice sl_all (hr _ _ h1) (ho _ _ h2) (ho _ _ h3)) (LE.slc)
 ·split at h
  ·rename_i hix
   obtain⟨x,h1,h⟩:=obind h;obtain⟨y,h2,h⟩:=obind h;cases h;exact PE.imp (pe_ix (ix_get C.hu) (hr _ _ h1) (hr _ _ h2) (plainIx_of hix)) (LE.bin opS_R2S)
  ·cases h
theorem items_eq {a o:Expr}{m:Str}{p2 p3:Pos}(h:itemsE a=some (o,m,p2,p3)):a=.Call (.Attribute o m p2) [] [] p3:=by
 unfold itemsE at h;split at h
 ·cases h;rfl
 ·cases h
omit hr in
theorem nm_eq {a:Expr}{m:Str}{p:Pos}(h:nmE a=some (m,p)):a=.Name m p:=by
 unfold nmE at h;split at h
 ·cases h;rfl
 ·cases h
theorem sort_sound (hsrt:SrtOk Γ)(C:CxOk Γ S X){f:Str}{as:List Expr}{p1 p4:Pos}{i:IE}(h:sortK S r f as=some i):PE X (.Call (.Name f p1) as [] p4) (LE X.K (semE Γ i)):=by
 unfold sortK at h;split at h
 ·rename_i a
  split at h
  ·rename_i o m p2 p3 hi
   rw[items_eq hr hi];split at h
   ·rename_i hs
    rw[Bool.and_eq_true]at hs;obtain⟨x,h1,h⟩:=obind h;cases h;exact hsrt.1 S X f m o p1 p2 p3 p4 (semE Γ x) C hs.2 (hr _ _ h1) (fun a w'=>base_of hs.1)
   ·cases h
  ·have fin:∀ {i:IE},(
    if dtName a then (if plainE a&&(f==("sorted" : Str)&&okName f&&S.glo f&&S.bls.contains f) then do let x <- r a;some (.srtT x) else none) else
    if plainE a&&(f==("sorted" : Str)&&okName f&&S.glo f&&S.bls.contains f) then do let x <- r a;some (.sortL x) else none)=some i->PE X (.Call (.Name f p1) [a] [] p4) (LE X.K (semE Γ i)):=fun {i} h=>by
    split at h
    ·split at h
     ·rename_i hs
      rw[Bool.and_eq_true]at hs;obtain⟨x,h1,h⟩:=obind h;cases h;exact hsrt.2.2.2.2 S X f _ p1 p4 (semE Γ x) C hs.2 hs.1 (hr _ _ h1)
     ·cases h
    rename_i nt;split at h
    ·rename_i hs
     rw[Bool.and_eq_true]at hs;obtain⟨x,h1,h⟩:=obind h;cases h;exact hsrt.2.1 S X f _ p1 p4 (semE Γ x) C hs.2 hs.1 (hr _ _ h1)
    ·cases h
   exact fin h
 ·cases h
theorem cmpR_sound (C:CxOk Γ S X){a:Expr}{ops:List CmpOp}{bs:List Expr}{pos:Pos}{i:IE}(h:cmpR S r a ops bs=some i):PE X (.Compare a ops bs pos) (LE X.K (semE Γ i))/\PT X (.Compare a ops bs pos) (LT X.K (semC Γ (.cmp i))):=by
 unfold cmpR at h;split at h
 ·split at h
  ·cases h
  ·exact cmp_sound hr C h
 ·exact cmp_sound hr C h
theorem isiK_sound (C:CxOk Γ S X){f:Str}{as:List Expr}{p1 p4:Pos}{i:IE}(h:isiK S r f as=some i):PE X (.Call (.Name f p1) as [] p4) (LE X.K (semE Γ i)):=by
 unfold isiK at h;split at h
 ·split at h
  ·rename_i t' p hn
   rw[nm_eq hn];split at h
   ·rename_i hs
    rw[Bool.and_eq_true]at hs;split at h
    ·rename_i kk hk
     obtain⟨x,h1,h⟩:=obind h;cases h;exact isi_sound C hs.1 hk (hr _ _ h1) hs.2
    ·cases h
   ·cases h
  ·cases h
 ·cases h
variable (hrs:∀ es i,rs es=some i->PA X es (LA X.K (semEs Γ i))/\es.all plainE=true)
include hrs
theorem attr_sound (C:CxOk Γ S X){o:Expr}{m:Str}{p2 p3:Pos}{as:List Expr}{i:IE}(h:attrK r rs o m p2 p3 as=some i):PE X (.Call (.Attribute o m p2) as [] p3) (LE X.K (semE Γ i)):=by
 unfold attrK at h;split at h
 ·split at h
  ·rename_i hs
   simp only[Bool.and_eq_true,decide_eq_true_eq]at hs;obtain⟨hbs,hs⟩:=hs;split at h
   ·rename_i kk hk
    obtain⟨x,h1,h⟩:=obind h;obtain⟨xs,h2,h⟩:=obind h;cases h;obtain⟨pa,pl⟩:=hrs _ _ h2;have hnm:=mt_name hk;subst hnm;have pl':=pl;rw[List.all_cons,Bool.and_eq_true]at pl;refine PE.imp (pe_bmx (mt_all C.hu kk) (hr _ _ h1) pa (base_of hbs) ?_ hs.1 (star_plain pl.1) (back_plain pl.2)) LE.mth;rw[Bool.and_eq_true,Bool.and_eq_true];refine⟨⟨not_any (back_plain pl'),rfl⟩,?_⟩
    have:=hs.2
    simp only[List.length_cons,List.length_nil,List.isEmpty_nil,if_true]at this ⊢;exact decide_eq_true (by first | lia | omega)
   ·cases h
  ·cases h
 ·cases h
theorem revK_sound (C:CxOk Γ S X){f:Str}{as:List Expr}{p1 p4:Pos}{i:IE}{k:Option IE}(h:revK S r f as k=some i)(hk:k=some i->PE X (.Call (.Name f p1) as [] p4) (LE X.K (semE Γ i))):PE X (.Call (.Name f p1) as [] p4) (LE X.K (semE Γ i)):=by
 unfold revK at h;split at h
 ·split at h
  ·rename_i e g p a q hv
   split at h
   ·rename_i ho
    split at h
    ·rename_i hp
     obtain⟨x,h1,h⟩:=obind h;cases h;rw[rev_eq hv];exact rev_sound C ho hp (hr _ _ h1)
    ·cases h
   ·exact hk h
  ·exact hk h
 ·exact hk h
theorem fn_sound (hsrt:SrtOk Γ)(C:CxOk Γ S X){f:Str}{as:List Expr}{p1 p4:Pos}{i:IE}(h:fnK S r rs f as=some i):PE X (.Call (.Name f p1) as [] p4) (LE X.K (semE Γ i)):=by
 unfold fnK at h;split at h
 ·split at h
  ·exact sort_sound hr hsrt C h
  ·split at h
   ·exact isiK_sound hr C h
   ·
    refine revK_sound hr hrs C h fun h=>?_;exact call_sound hrs C h
 ·cases h
theorem callE_sound (hsrt:SrtOk Γ)(C:CxOk Γ S X){f:Expr}{as:List Expr}{p:Pos}{i:IE}(h:callE S r rs f as p=some i):PE X (.Call f as [] p) (LE X.K (semE Γ i)):=by
 unfold callE at h;split at h
 ·exact fn_sound hr hrs hsrt C h
 ·exact attr_sound hr hrs C h
 ·cases h
end
theorem gens_eq {gs:List Comprehension}{x:Str}{p:Pos}{iter:Expr}{ifs:List Expr}(h:gensK gs=some (x,p,iter,ifs)):gs=[⟨.Name x p,iter,ifs,0⟩]:=by
 unfold gensK at h;split at h
 ·cases h;rfl
 ·cases h
theorem sound_E (hsrt:SrtOk Γ)(ih:Sound Γ n)(S:Sc)(X:Cx)(e:Expr)(i:IE)(C:CxOk Γ S X)(h:cE S (n + 1) e=some i):PE X e (LE X.K (semE Γ i)):=by
 have hr:∀ e i,cE S n e=some i->PE X e (LE X.K (semE Γ i)):=fun e i h=>ih.E _ _ _ _ C h;have hrs:∀ es i,cEs S n es=some i->PA X es (LA X.K (semEs Γ i))/\es.all plainE=true:=fun e i h=>ih.Es _ _ _ _ C h;cases e with
 | Name x p=>exact name_sound C h
 | Constant c k p=>exact const_sound h
 | BinOp a op b p =>
  have h:(if inDomOp op=true then (do let x <- cE S n a;let y <- cE S n b;some (IE.bin op x y)) else none)=some i:=h;split at h
  ·obtain⟨x,h1,h⟩:=obind h
   obtain⟨y,h2,h⟩:=obind h;cases h;exact PE.imp (pe_op (op_bin op) (hr _ _ h1) (hr _ _ h2)) (LE.bin opS_R2S)
  ·cases h
 | Compare a ops bs p=>exact(cmpR_sound hr C h).1
 | BoolOp op es p=>exact bool_sound hr h
 | UnaryOp op a p=>exact un_sound hr h
 | IfExp c a b p =>
  obtain⟨k,h0,h⟩:=obind h;obtain⟨x,h1,h⟩:=obind h;obtain⟨y,h2,h⟩:=obind h;cases h;exact PE.imp (pe_ifExp (ih.C _ _ _ _ C h0) (hr _ _ h1) (hr _ _ h2)) (LE.ite)
 | Tuple es k p =>
  obtain⟨x,h1,h⟩:=obind h;cases h;exact PE.imp (pe_tup (hrs _ _ h1).1) (LE.tup)
 | List es p =>
  obtain⟨x,h1,h⟩:=obind h;cases h;exact PE.imp (pe_lst (hrs _ _ h1).1) (LE.lst)
 | Dict ks vs p =>
  cases ks with
  | nil =>
   cases vs with
   | nil=>cases h;exact PE.imp pe_dnewK (LE.dic)
   | cons a l=>cases h
  | cons a l=>cases h
 | Subscript a b p=>exact sub_sound hr C (fun e i h=>ih.O _ _ _ _ C h) h
 | Call f as ks p =>
  have h:(if ks.isEmpty=true then callE S (cE S n) (cEs S n) f as p else none)=some i:=h;split at h
  ·rename_i hk
   have hk:ks=[]:=List.isEmpty_iff.mp hk;subst hk;exact callE_sound hr hrs hsrt C h
  ·cases h
 | ListComp elt gs sc p =>
  have h:(match gensK gs with
   | some (x,_,iter,ifs)=>if compOk S sc [x]=true then (do
     let it <- cT S n iter
     let c <- cCo (S.comp sc [x]) n ifs
     let e <- cE (S.comp sc [x]) n elt
     some (IE.comp ((slot S.N x).getD S.N.length) it c e)) else none
   | none=>none)=some i:=h
  split at h
  ·rename_i x px iter ifs hg
   rw[gens_eq hg];split at h
   ·rename_i hc
    obtain⟨it,h1,h⟩:=obind h;obtain⟨c,h2,h⟩:=obind h;obtain⟨y,h3,h⟩:=obind h;cases h;obtain⟨t1,t2⟩:=ih.T _ X (.Name x px) _ _ C h1;exact pe_compS C hc t1 t2 (fun X' C' _=>ih.Co _ _ _ _ C' h2) (fun X' C' _=>ih.E _ _ _ _ C' h3)
   ·cases h
  ·cases h
 | _=>cases h
theorem sound_Es (ih:Sound Γ n)(S:Sc)(X:Cx)(es:List Expr)(i:IEs)(C:CxOk Γ S X)(h:cEs S (n + 1) es=some i):PA X es (LA X.K (semEs Γ i))/\es.all plainE=true:=by
 cases es with
 | nil =>
  cases (show some IEs.nil=some i from h);exact⟨PA.imp pa_nil LA.nil,rfl⟩
 | cons e es =>
  replace h:(if plainE e then (do let x <- cE S n e;let xs <- cEs S n es;some (.cons x xs)) else none)=some i:=h;split at h
  ·rename_i hp
   obtain⟨x,h1,h⟩:=obind h;obtain⟨xs,h2,h⟩:=obind h;cases h;obtain⟨p1,p2⟩:=ih.Es _ _ _ _ C h2;exact⟨PA.imp (pa_cons (ih.E _ _ _ _ C h1) p1 (star_plain hp)) LA.cons,by rw[List.all_cons,hp,p2];rfl⟩
  ·cases h
theorem sound_O (ih:Sound Γ n)(S:Sc)(X:Cx)(e:Option Expr)(i:IEo)(C:CxOk Γ S X)(h:cO S (n + 1) e=some i):PO X e (LO X.K (semO Γ i)):=by
 cases e with
 | none =>
  cases (show some IEo.none=some i from h);exact PO.imp po_none LO.none
 | some e =>
  replace h:(do let x <- cE S n e;some (IEo.some x))=some i:=h;obtain⟨x,h1,h⟩:=obind h;cases h;exact PO.imp (po_some (ih.E _ _ _ _ C h1)) LO.some
theorem sound_Co (ih:Sound Γ n)(S:Sc)(X:Cx)(e:List Expr)(i:ICo)(C:CxOk Γ S X)(h:cCo S (n + 1) e=some i):PTs X e (LT X.K (semCo Γ i)):=by
 rcases e with _ | ⟨c,_ | ⟨c2,l⟩⟩
 ·cases (show some ICo.none=some i from h)
  exact PTs.imp pts_nil fun σ H Q q=>by
   obtain⟨ι,ρ,M,b,M',S,R,e,k⟩:=q;obtain⟨rfl,rfl⟩:=pure_ok e;exact k H ι S Ext.refl
 ·replace h:(do let k <- cC S n c;some (ICo.some k))=some i:=h
  obtain⟨x,h1,h⟩:=obind h;cases h;exact pts_one (ih.C _ _ _ _ C h1)
 ·cases (show (none:Option ICo)=some i from h)
theorem pw_imp {X:Cx}{e:Expr}{t t':TT}(h:PW X e t)(k:∀ σ H Q,t' σ H Q->t σ H Q):PW X e t':=fun whole pins s σ H Q I q=>h whole pins s σ H Q I (k σ H Q q)
theorem rngE_eq {b:Expr}{f:Str}{p q:Pos}{as:List Expr}(h:rngE b=some (f,p,as,q)):b=.Call (.Name f p) as [] q:=by
 unfold rngE at h;split at h
 ·cases h;rfl
 ·cases h
theorem fold_it {e:Expr}{env:Env}(h:itE e=true):∀ x,foldedSetIterable e env x=pure x:=by
 intro x;cases e <;> first | rfl | exact absurd h Bool.false_ne_true
theorem rngK_sound {S:Sc}{X:Cx}{r:Expr->Option IE}(hr:∀ e i,r e=some i->PE X e (LE X.K (semE Γ i)))(C:CxOk Γ S X){tg:Expr}{f:Str}{as:List Expr}{p q:Pos}{i:IT}(h:rngK S r f as=some i):PI X tg (.Call (.Name f p) as [] q) (LI X.K (semT Γ i)):=by
 unfold rngK at h;split at h
 ·rename_i hs
  unfold rngOk at hs;simp only[Bool.and_eq_true,beq_iff_eq]at hs;obtain⟨⟨⟨⟨h1,h2⟩,h3⟩,h4⟩,h5⟩:=hs;subst h1;split at h
  ·simp only[List.all_cons,List.all_nil,Bool.and_true]at h5
   obtain⟨x,g1,h⟩:=obind h;cases h;exact PI.imp (pi_range1 (C.glo h3) (C.bls _ (mem_of_contains h4)) (pa_cons (hr _ _ g1) pa_nil (star_plain h5)) (star_plain h5)) LI.rng1
  ·simp only[List.all_cons,List.all_nil,Bool.and_true,Bool.and_eq_true]at h5
   obtain⟨x,g1,h⟩:=obind h;obtain⟨y,g2,h⟩:=obind h;cases h;exact PI.imp (pi_range2 (C.glo h3) (C.bls _ (mem_of_contains h4)) (pa_cons (hr _ _ g1) (pa_cons (hr _ _ g2) pa_nil (star_plain h5.2)) (star_plain h5.1)) (by rw[star_plain h5.1,star_plain h5.2];rfl) (star_plain h5.2)) LI.rng2
  ·cases h
 ·cases h
theorem sound_T (ih:Sound Γ n)(S:Sc)(X:Cx)(tg e:Expr)(i:IT)(C:CxOk Γ S X)(h:cT S (n + 1) e=some i):PI X tg e (LI X.K (semT Γ i))/\∀ x,foldedSetIterable e X.env x=pure x:=by
 have seq:(cE S n e).map IT.seq=some i->PI X tg e (LI X.K (semT Γ i)):=fun h=>by
  obtain⟨x,h1,rfl⟩:=Option.map_eq_some_iff.mp h;exact PI.imp (pi_any (ih.E _ _ _ _ C h1)) LI.seq
 have h:(match rngE e with
  | some (f,_,as,_)=>if (f==("range" : Str))=true then rngK S (cE S n) f as else (cE S n e).map IT.seq
  | none=>if itE e=true then (cE S n e).map IT.seq else none)=some i:=h
 split at h
 ·rename_i f p as q hg
  have he:=rngE_eq hg;split at h
  ·refine⟨?_,by rw[he];exact fun _=>rfl⟩
   rw[he];exact rngK_sound (fun e i h=>ih.E _ _ _ _ C h) C h
  ·exact⟨seq h,by rw[he];exact fun _=>rfl⟩
 ·split at h
  ·rename_i hit
   exact⟨seq h,fold_it hit⟩
  ·cases h
theorem cond_sound {X:Cx}{r:Expr->Option IC}(hr:∀ e i,r e=some i->PT X e (LT X.K (semC Γ i))){op:BoolOp}{es:List Expr}{pos:Pos}{i:IC}(h:condK r op es=some i):PT X (.BoolOp op es pos) (LT X.K (semC Γ i)):=by
 unfold condK at h;split at h
 ·obtain⟨k,h1,h⟩:=obind h
  obtain⟨j,h2,h⟩:=obind h;cases h;cases op with
  | And=>exact PT.imp (pw_and (hr _ _ h1) (pw_and1 (hr _ _ h2))).pt LT.and
  | Or=>exact PT.imp (pw_or (hr _ _ h1) (pw_or1 (hr _ _ h2))).pt LT.or
 ·obtain⟨k,h1,h⟩:=obind h
  obtain⟨j,h2,h⟩:=obind h;obtain⟨l,h3,h⟩:=obind h;cases h;cases op with
  | And=>exact PT.imp (pw_and (hr _ _ h1) (pw_imp (pw_and (hr _ _ h2) (pw_and1 (hr _ _ h3))) LT.and)).pt LT.and
  | Or=>exact PT.imp (pw_or (hr _ _ h1) (pw_imp (pw_or (hr _ _ h2) (pw_or1 (hr _ _ h3))) LT.or)).pt LT.or
 ·cases h
theorem sound_C (ih:Sound Γ n)(S:Sc)(X:Cx)(e:Expr)(i:IC)(C:CxOk Γ S X)(h:cC S (n + 1) e=some i):PT X e (LT X.K (semC Γ i)):=by
 cases e with
 | UnaryOp op a p =>
  have h:(if (op==.Not)=true then (cC S n a).map IC.not else none)=some i:=h;split at h
  ·rename_i ho
   have ho:op=.Not:=by simpa using ho
   subst ho;obtain⟨k,h1,rfl⟩:=Option.map_eq_some_iff.mp h;exact PT.imp (pt_not (ih.C _ _ _ _ C h1)) LT.not
  ·cases h
 | BoolOp op es p=>exact cond_sound (fun e i h=>ih.C _ _ _ _ C h) h
 | Compare a ops bs p =>
  obtain⟨k,h1,rfl⟩:=Option.map_eq_some_iff.mp (show (cmpR S (cE S n) a ops bs).map IC.cmp=some i from h);exact(cmpR_sound (fun e i h=>ih.E _ _ _ _ C h) C h1).2
 | Name x p =>
  obtain⟨k,h1,rfl⟩:=Option.map_eq_some_iff.mp (show (cE S n (.Name x p)).map IC.tru=some i from h);exact pt_tru (ih.E _ _ _ _ C h1) fun _=>rfl
 | Call f as ks p =>
  obtain⟨k,h1,rfl⟩:=Option.map_eq_some_iff.mp (show (cE S n (.Call f as ks p)).map IC.tru=some i from h);exact pt_tru (ih.E _ _ _ _ C h1) fun _=>rfl
 | Subscript a b p =>
  obtain⟨k,h1,rfl⟩:=Option.map_eq_some_iff.mp (show (cE S n (.Subscript a b p)).map IC.tru=some i from h);exact pt_tru (ih.E _ _ _ _ C h1) fun _=>rfl
 | _=>cases h
theorem sound (hsrt:SrtOk Γ):∀ n,Sound Γ n
 | 0=>⟨(fun _ _ _ i _ h=>by cases (show (none:Option IE)=some i from h)),(fun _ _ _ i _ h=>by cases (show (none:Option IEs)=some i from h)),(fun _ _ _ i _ h=>by cases (show (none:Option IEo)=some i from h)),(fun _ _ _ _ i _ h=>by cases (show (none:Option IT)=some i from h)),(fun _ _ _ i _ h=>by cases (show (none:Option IC)=some i from h)),(fun _ _ _ i _ h=>by cases (show (none:Option ICo)=some i from h))⟩
 | n + 1=>⟨sound_E hsrt (sound hsrt n),sound_Es (sound hsrt n),sound_O (sound hsrt n),sound_T (sound hsrt n),sound_C (sound hsrt n),sound_Co (sound hsrt n)⟩
end
end L3
namespace L3
open PySem PySem.Spec PyProof.Rows L2
section
variable {Γ:Ctx}{n:Nat}{K:PySem.W.Frag}
theorem LS.set {i:Nat}{fe:DE}(D:Ends)(σ:St)(H:Hp)(h:LS K (fun ρ=>do let x <- fe ρ;pure (.nx (ρ.set i (some x)))) D σ H):tAsg (LE K fe) (gName i) D σ H:=by
 obtain⟨ι,ρ,M,fl,M',S,R,e,k⟩:=h;have e0:=bind_ok e;clear e;obtain⟨x,M1,e1,e⟩:=e0;have e0:=pure_ok e;clear e;obtain⟨rfl,rfl⟩:=e0;exact⟨ι,ρ,M,x,_,S,R,e1,fun v H1 ι1 r1 S1 X1=>k H1 ι1 S1 X1 _ ((R.mono X1).set r1 i)⟩
theorem LS.setIx {fo fi fe:DE}(D:Ends)(σ:St)(H:Hp)(h:LS K (fun ρ=>do let v <- fe ρ;let x <- fo ρ;let y <- fi ρ;setIx x y v;pure (.nx ρ)) D σ H):tAsg (LE K fe) (gSub (LE K fo) (LE K fi) (RSet K)) D σ H:=by
 obtain⟨ι,ρ,M,fl,M',S,R,e,k⟩:=h;have e0:=bind_ok e;clear e;obtain⟨v,M1,e1,e⟩:=e0;have e0:=bind_ok e;clear e;obtain⟨x,M2,e2,e⟩:=e0;have e0:=bind_ok e;clear e;obtain⟨y,M3,e3,e⟩:=e0;have e0:=bind_ok e;clear e;obtain⟨u,M4,e4,e⟩:=e0;have e0:=pure_ok e;clear e;obtain⟨rfl,rfl⟩:=e0;refine⟨ι,ρ,M,v,M1,S,R,e1,fun v1 H1 ι1 r1 S1 X1=>?_⟩;refine⟨ι1,ρ,M1,x,M2,S1,R.mono X1,e2,fun v2 H2 ι2 r2 S2 X2=>?_⟩;refine⟨ι2,ρ,M2,y,M3,S2,(R.mono X1).mono X2,e3,fun v3 H3 ι3 r3 S3 X3=>?_⟩;exact⟨ι3,M3,_,x,y,v,u,S3,r2.mono X3,r3,(r1.mono X2).mono X3,e4,fun H4 S4 X4=>k H4 ι3 S4 (((X1.trans X2).trans X3).trans X4) σ ((((R.mono X1).mono X2).mono X3).mono X4)⟩
theorem LS.expr {fe:DE}(D:Ends)(σ:St)(H:Hp)(h:LS K (fun ρ=>do let _ <- fe ρ;pure (.nx ρ)) D σ H):tDrop (LE K fe) D σ H:=by
 obtain⟨ι,ρ,M,fl,M',S,R,e,k⟩:=h;have e0:=bind_ok e;clear e;obtain⟨x,M1,e1,e⟩:=e0;have e0:=pure_ok e;clear e;obtain⟨rfl,rfl⟩:=e0;exact⟨ι,ρ,M,x,_,S,R,e1,fun v H1 ι1 r1 S1 X1=>k H1 ι1 S1 X1 _ (R.mono X1)⟩
theorem LS.ret {fe:DE}(D:Ends)(σ:St)(H:Hp)(h:LS K (fun ρ=>do let x <- fe ρ;pure (.rt x)) D σ H):tRet (LE K fe) D σ H:=by
 obtain⟨ι,ρ,M,fl,M',S,R,e,k⟩:=h;have e0:=bind_ok e;clear e;obtain⟨x,M1,e1,e⟩:=e0;have e0:=pure_ok e;clear e;obtain⟨rfl,rfl⟩:=e0;exact⟨ι,ρ,M,x,_,S,R,e1,fun v H1 ι1 r1 S1 X1=>k H1 ι1 S1 X1 v r1⟩
theorem LS.flow {fl:Ev->Fl}(D:Ends)(σ:St)(H:Hp)(h:LS K (fun ρ=>pure (fl ρ)) D σ H):∃ ι ρ,EnvR K ι H ρ σ/\FlP K D ι H (fl ρ):=by
 obtain⟨ι,ρ,M,f,M',S,R,e,k⟩:=h;have e0:=pure_ok e;clear e;obtain⟨rfl,rfl⟩:=e0;exact⟨ι,ρ,R,k H ι S Ext.refl⟩
theorem LS.ifS {fc:Ev->Mo Bool}{fa fb:Ev->Mo Fl}(D:Ends)(σ:St)(H:Hp)(h:LS K (fun ρ=>do let k <- fc ρ;if k=true then fa ρ else fb ρ) D σ H):tIfS (LT K fc) (LS K fa) (LS K fb) D σ H:=by
 obtain⟨ι,ρ,M,fl,M',S,R,e,k⟩:=h;have e0:=bind_ok e;clear e;obtain⟨b,M1,e1,e⟩:=e0;refine⟨ι,ρ,M,b,M1,S,R,e1,fun H1 ι1 S1 X1=>?_⟩;split at e
 ·rename_i hb
  rw[if_pos hb];exact⟨ι1,ρ,_,fl,M',S1,R.mono X1,e,fun H' ι' S' X'=>k H' ι' S' (X1.trans X')⟩
 ·rename_i hb
  rw[if_neg hb];exact⟨ι1,ρ,_,fl,M',S1,R.mono X1,e,fun H' ι' S' X'=>k H' ι' S' (X1.trans X')⟩
theorem LS.while {fc:Ev->Mo Bool}{fb:Ev->Mo Fl}{wh:Nat}(D:Ends)(σ:St)(H:Hp)(h:LS K (fun ρ=>whileD fc fb wh ρ) D σ H):tWhile (LT K fc) (LS K fb) D σ H:=by
 obtain⟨ι,ρ,M,fl,M',S,R,e,k⟩:=h;refine⟨fun m σ' H'=>∃ ι' ρ' M2,Sim K ι' M2 H'/\EnvR K ι' H' ρ' σ'/\Ext K ι H ι' H'/\whileD fc fb m ρ' M2=some (.ok fl,M'),⟨wh,ι,ρ,M,S,R,Ext.refl,e⟩,?_⟩;rintro m σ' H' ⟨ι',ρ',M2,S2,R2,X2,e2⟩;cases m with
 | zero=>exact(stop_ok e2).elim
 | succ m =>
  unfold whileD at e2;have e20:=bind_ok e2;clear e2;obtain⟨b,M3,e3,e2⟩:=e20;refine⟨ι',ρ',M2,b,M3,S2,R2,e3,fun H3 ι3 S3 X3=>?_⟩;cases b with
  | true =>
   rw[if_pos rfl]at e2 ⊢;have e20:=bind_ok e2;clear e2;obtain⟨f,M4,e4,e2⟩:=e20;refine⟨fun σ4 H4=>∃ ι' ρ' M2,Sim K ι' M2 H4/\EnvR K ι' H4 ρ' σ4/\Ext K ι H ι' H4/\whileD fc fb m ρ' M2=some (.ok fl,M'),fun σ4 H4 q=>⟨m,Nat.lt_succ_self _,q⟩,?_⟩;refine⟨ι3,ρ',M3,f,M4,S3,R2.mono X3,e4,fun H4 ι4 S4 X4=>?_⟩;cases f with
   | nx ρ4=>exact fun σ4 R4=>⟨ι4,ρ4,M4,S4,R4,(X2.trans X3).trans X4,e2⟩
   | ct ρ4=>exact fun σ4 R4=>⟨ι4,ρ4,M4,S4,R4,(X2.trans X3).trans X4,e2⟩
   | bk ρ4 =>
    have e20:=pure_ok e2;clear e2;obtain⟨rfl,rfl⟩:=e20;exact fun σ4 R4=>k H4 ι4 S4 ((X2.trans X3).trans X4) σ4 R4
   | rt v =>
    have e20:=pure_ok e2;clear e2;obtain⟨rfl,rfl⟩:=e20;exact fun v' r'=>k H4 ι4 S4 ((X2.trans X3).trans X4) v' r'
  | false =>
   rw[if_neg Bool.false_ne_true]at e2 ⊢;have e20:=pure_ok e2;clear e2;obtain⟨rfl,rfl⟩:=e20;exact k H3 ι3 S3 (X2.trans X3) σ' (R2.mono X3)
theorem LS.seq {fa fb:Ev->Mo Fl}(D:Ends)(σ:St)(H:Hp)(h:LS K (fun ρ=>do
  let f <- fa ρ
  (match f with
  | .nx ρ'=>fb ρ'
  | .rt v=>pure (.rt v)
  | .bk ρ'=>pure (.bk ρ')
  | .ct ρ'=>pure (.ct ρ'))) D σ H):tSeq (LS K fa) (LS K fb) D σ H:=by
 obtain⟨ι,ρ,M,fl,M',S,R,e,k⟩:=h;have e0:=bind_ok e;clear e;obtain⟨f,M1,e1,e⟩:=e0;refine⟨ι,ρ,M,f,M1,S,R,e1,fun H1 ι1 S1 X1=>?_⟩;cases f with
 | nx ρ1=>exact fun σ1 R1=>⟨ι1,ρ1,M1,fl,M',S1,R1,e,fun H' ι' S' X'=>k H' ι' S' (X1.trans X')⟩
 | rt v=>have e0:=pure_ok e;clear e;obtain⟨rfl,rfl⟩:=e0;exact k H1 ι1 S1 X1
 | bk ρ1=>have e0:=pure_ok e;clear e;obtain⟨rfl,rfl⟩:=e0;exact k H1 ι1 S1 X1
 | ct ρ1=>have e0:=pure_ok e;clear e;obtain⟨rfl,rfl⟩:=e0;exact k H1 ι1 S1 X1
structure SoundS (Γ:Ctx) (n:Nat):Prop where
 S:∀ (S:Sc) (X:Cx) (e:Stmt) (i:IS),CxOk Γ S X->(∀ x,X.fn x=true)->cS S n e=some i->PS X e (LS X.K (semS Γ i))
 Ss:∀ (S:Sc) (X:Cx) (e:List Stmt) (i:ISs),CxOk Γ S X->(∀ x,X.fn x=true)->cSs S n e=some i->PSs X e (LS X.K (semSs Γ i))
end
section
variable {Γ:Ctx}{n:Nat}
theorem sw_sub {e o i:Expr}{p:Pos}{l:Nat}{env:Env}:swapsWithSole [.Subscript o i p] e l env=pure false/\swappedStores [.Subscript o i p] e env=pure none:=by
 constructor
 ·cases e <;> rfl
 ·cases e <;> rfl
theorem sw_name {e:Expr}{x:Str}{p:Pos}{l:Nat}{env:Env}(hn:noComp e=true):swapsWith e (some (.Name x p)) l env=pure false:=by
 cases e <;> first | rfl | cases hn
theorem sw_none {e:Expr}{l:Nat}{env:Env}(hn:noComp e=true):swapsWith e none l env=pure false:=by
 cases e <;> first | rfl | cases hn
theorem as_sub {o i:Expr}{p:Pos}{env:Env}(h:ixE i=true):∀ v,assign (.Subscript o i p) env v=(do
   let ov <- holding [v] (eval o env)
   let iv <- holding [v,ov] (eval i env)
   standAt p
   holding [v,ov,iv] (setItem ov iv v)
   release [v,ov,iv] []):=by
 intro v;cases i <;> first | rfl | exact absurd h Bool.false_ne_true
theorem ps_compS {S:Sc}{X:Cx}{sc:Scope}{x y:Str}{px pos py spos:Pos}{elt iter:Expr}{ifs:List Expr}{j i:Nat}{fs:Ev->Mo Src}{fc:Ev->Mo Bool}{fe:DE}(C:CxOk Γ S X)(h:compOk S sc [x]=true)(hi:PI X (.Name x px) iter (LI X.K fs))(hs:∀ x,foldedSetIterable iter X.env x=pure x)
  (htc:∀ X',CxOk Γ (S.comp sc [x]) X'->X'.K=X.K->PTs X' ifs (LT X'.K fc)) (hte:∀ X',CxOk Γ (S.comp sc [x]) X'->X'.K=X.K->PE X' elt (LE X'.K fe)) (hy:X.N[i]?=some y) (hl:Loc X.env.scope y) (hf:X.fn y=true) :
  PS X (.Assign [.Name y py] (.ListComp elt [⟨.Name x px,iter,ifs,0⟩] sc pos) spos) (LS X.K (fun ρ=>do
   let v <- (do
    let s <- fs ρ
    need (s.ds.length<=sizeLine)
    let ys <- compD s.ck fc fe (ρ.set j none) s.ds
    newM (.lst ys))
   pure (.nx (ρ.set i (some v))))):=by
 intro pins s σ H D I q;have CS:=compOk_sc C I.ok h;have q2:=LS.set D σ H q;exact ps_comp C.calm CS (fun _ _ _ _=>pg_own CS rfl _ _ _ _) hi (fun Ca s H fp=>htc _ (comp_cx C h _ Ca s H fp) rfl) (fun Ca s H fp=>hte _ (comp_cx C h _ Ca s H fp) rfl) hs C.nd hy hl (.inl hf) pins s σ H D I (LE.comp σ H _ q2)
theorem comp_of {v elt:Expr}{gs:List Comprehension}{sc:Scope}(h:compP v=some (elt,gs,sc)):∃ p,v=.ListComp elt gs sc p:=by
 cases v with
 | ListComp a b c p=>cases h;exact⟨p,rfl⟩
 | _=>cases h
theorem enum_sound (hE:∀ n,Sound Γ n){S:Sc}{X:Cx}(C:CxOk Γ S X){es:List Expr}{k1:Nat}{p1 p q:Pos}{f:Str}{as:List Expr}{i:IP}(h1:f = "enumerate")(h:enumK S (cE S n) f as=some i):PI X (.Tuple es k1 p1) (.Call (.Name f p) as [] q) (LI2 X.K (semP Γ i)):=by
 rcases as with _ | ⟨a,_ | ⟨_,_⟩⟩
 ·cases h
 ·replace h:(if okName f&&S.glo f&&S.bls.contains f&&plainE a then (cE S n a).map IP.enum else none)=some i:=h
  split at h
  ·rename_i hs
   simp only[Bool.and_eq_true]at hs;obtain⟨⟨⟨h2,h3⟩,h4⟩,h5⟩:=hs;obtain⟨x,g,rfl⟩:=Option.map_eq_some_iff.mp h;subst h1;exact PI.imp (pi_enum (C.glo h3) (C.bls _ (mem_of_contains h4)) (pa_cons ((hE n).E _ _ _ _ C g) pa_nil (star_plain h5)) (star_plain h5)) LI2.enum
  ·cases h
 ·cases h
theorem sound_P (hE:∀ n,Sound Γ n){S:Sc}{X:Cx}(C:CxOk Γ S X){es:List Expr}{k1:Nat}{p1:Pos}{e:Expr}{i:IP}(h:cP S n e=some i):PI X (.Tuple es k1 p1) e (LI2 X.K (semP Γ i))/\∀ x,foldedSetIterable e X.env x=pure x:=by
 have seq:(cE S n e).map IP.seq=some i->PI X (.Tuple es k1 p1) e (LI2 X.K (semP Γ i)):=fun h=>by
  obtain⟨x,h1,rfl⟩:=Option.map_eq_some_iff.mp h;exact PI.imp (pi_any ((hE n).E _ _ _ _ C h1)) fun σ H R q=>LI.seq σ H R (LI2.to σ H R q)
 delta cP at h;cases hr:rngE e with
 | some q =>
  obtain⟨f,p,as,q⟩:=q;rw[hr]at h;dsimp only at h;have he:=rngE_eq hr;split at h
  ·rename_i hf
   refine⟨?_,by rw[he];exact fun _=>rfl⟩;rw[he];exact enum_sound hE C (by simpa using hf) h
  ·exact⟨seq h,by rw[he];exact fun _=>rfl⟩
 | none =>
  rw[hr]at h;dsimp only at h;split at h
  ·rename_i hit
   exact⟨seq h,fold_it hit⟩
  ·cases h
theorem nmE_eq {e:Expr}{x:Str}{p:Pos}(h:nmE e=some (x,p)):e=.Name x p:=by
 cases e <;> first | cases h;rfl | cases h
theorem pair_sound (hE:∀ n,Sound Γ n){S:Sc}{X:Cx}(C:CxOk Γ S X)(hf:∀ x,X.fn x=true)(hp:PassesOwn (model X.prog X.w) X.A X.env X.xe){a b iter:Expr}{body:List Stmt}{r:Option ISs}{i:IS}{k1:Nat}{p1 p:Pos}(hb:∀ y,r=some y->PSs X body (LS X.K (semSs Γ y)))
  (h:pair2 S n a b iter r=some i):PS X (.For (.Tuple [a,b] k1 p1) iter body [] p) (LS X.K (semS Γ i)):=by
 delta pair2 at h;cases ha:nmE a with
 | none=>rw[ha]at h;cases h
 | some q =>
  obtain⟨x,pa⟩:=q;rw[ha]at h;dsimp only at h;cases hb2:nmE b with
  | none=>rw[hb2]at h;cases h
  | some q =>
   obtain⟨y,pb⟩:=q;rw[hb2]at h;dsimp only at h;obtain rfl:=nmE_eq ha;obtain rfl:=nmE_eq hb2;split at h
   ·rename_i hl
    rw[Bool.and_eq_true]at hl;obtain⟨i1,h1,h⟩:=obind h;obtain⟨j1,h2,h⟩:=obind h;obtain⟨it,h3,h⟩:=obind h;obtain⟨z,h4,h⟩:=obind h;cases h;have hN1:=slot_get h1;rw[<- C.n]at hN1;have hN2:=slot_get h2;rw[<- C.n]at hN2;obtain⟨t1,t2⟩:=sound_P hE C h3;exact PS.imp (ps_for hp C.calm t1 (pg_tup C.calm (pgs_cons (pg_name C.nd hN1 (C.loc hl.1) (.inl (hf x))) (pgs_cons (pg_name C.nd hN2 (C.loc hl.2) (.inl (hf y))) pgs_nil))) (hb _ h4) t2) LS.lpair
   ·cases h
theorem sound_S (hE:∀ n,Sound Γ n)(ih:SoundS Γ n)(S:Sc)(X:Cx)(e:Stmt)(i:IS)(C:CxOk Γ S X)(hf:∀ x,X.fn x=true)(h:cS S (n + 1) e=some i):PS X e (LS X.K (semS Γ i)):=by
 have hp:PassesOwn (model X.prog X.w) X.A X.env X.xe:=by rw[C.nox];exact PassesOwn.never
 cases e with
 | Assign ts v pos =>
  replace h:asgK S n ts v=some i:=h;rcases ts with _ | ⟨t,_ | ⟨t2,ts⟩⟩
  ·cases h
  ·replace h:asgT S n t v=some i:=h
   cases t with
   | Name x p =>
    replace h:asgN S n x v=some i:=h;delta asgN at h;cases hc:compP v with
    | some q =>
     obtain⟨elt,gs,sc⟩:=q;rw[hc]at h;dsimp only at h;cases hg:gensK gs with
     | none=>rw[hg]at h;cases h
     | some q =>
      obtain⟨y,py,iter,ifs⟩:=q;rw[hg]at h;dsimp only at h;obtain⟨cp,rfl⟩:=comp_of hc;obtain rfl:=gens_eq hg;split at h
      ·rename_i hl
       rw[Bool.and_eq_true]at hl;obtain⟨i',h1,h⟩:=obind h;obtain⟨it,g1,h⟩:=obind h;obtain⟨c,g2,h⟩:=obind h;obtain⟨y',g3,h⟩:=obind h;cases h;have hN:=slot_get h1;rw[<- C.n]at hN;obtain⟨t1,t2⟩:=(hE n).T _ X (.Name y py) _ _ C g1;exact ps_compS C hl.2 t1 t2 (fun X' C' _=>(hE n).Co _ _ _ _ C' g2) (fun X' C' _=>(hE n).E _ _ _ _ C' g3) hN (C.loc hl.1) (hf x)
      ·cases h
    | none =>
     rw[hc]at h;dsimp only at h;split at h
     ·rename_i hz
      rw[Bool.and_eq_true]at hz;have hv:=hz.2;cases v with
      | Dict ks vs pv =>
       unfold emptyD at hv;rw[Bool.and_eq_true,List.isEmpty_iff,List.isEmpty_iff]at hv;obtain⟨rfl,rfl⟩:=hv;split at h
       ·rename_i hl
        obtain⟨j,h1,h⟩:=obind h;cases h;have hN:=slot_get h1;rw[<- C.n]at hN;exact PS.imp (ps_set C.nd hN (C.loc hl) (PE.imp pe_dnewTT LE.dtt) (sw_name rfl) (.inl (hf x))) LS.set
       ·cases h
      | _=>cases hv
     split at h
     ·rename_i hl
      rw[Bool.and_eq_true]at hl;obtain⟨j,h1,h⟩:=obind h;obtain⟨y,h2,h⟩:=obind h;cases h;have hN:=slot_get h1;rw[<- C.n]at hN;exact PS.imp (ps_set C.nd hN (C.loc hl.1) ((hE n).E _ _ _ _ C h2) (sw_name hl.2) (.inl (hf x))) LS.set
     ·cases h
   | Subscript o ix p =>
    delta asgT at h;dsimp only at h;split at h
    ·rename_i hix
     obtain⟨y,h1,h⟩:=obind h;obtain⟨a,h2,h⟩:=obind h;obtain⟨b,h3,h⟩:=obind h;cases h;exact PS.imp (ps_asg ((hE n).E _ _ _ _ C h1) (pg_sub ((hE n).E _ _ _ _ C h2) ((hE n).E _ _ _ _ C h3) (set_ix C.hu) (as_sub hix)) sw_sub.1 (sw_sub (l:=0)).2 rfl) LS.setIx
    ·cases h
   | _=>cases h
  ·cases h
 | Expr e pos =>
  replace h:(if noComp e then (do let y <- cE S n e;some (.expr y)) else none)=some i:=h;split at h
  ·rename_i hn
   obtain⟨y,h1,h⟩:=obind h;cases h;exact PS.imp (ps_expr ((hE n).E _ _ _ _ C h1) (sw_none hn)) LS.expr
  ·cases h
 | Return o pos =>
  cases o with
  | some e =>
   replace h:(do let y <- cE S n e;some (.ret y))=some i:=h;obtain⟨y,h1,h⟩:=obind h;cases h;exact PS.imp (ps_ret ((hE n).E _ _ _ _ C h1)) LS.ret
  | none =>
   cases h;exact PS.imp ps_retN fun D σ H q=>by
    obtain⟨ι,ρ,R,k⟩:=LS.flow D σ H q;exact k .non .non
 | Raise a b c =>
  cases h;intro pins s σ H D I q;obtain⟨ι,ρ,M,fl,M',S',R,e,k⟩:=q;exact(stop_ok e).elim
 | Pass p =>
  cases h;exact PS.imp ps_pass fun D σ H q=>by
   obtain⟨ι,ρ,R,k⟩:=LS.flow D σ H q;exact k σ R
 | Break p =>
  cases h;exact PS.imp ps_break fun D σ H q=>by
   obtain⟨ι,ρ,R,k⟩:=LS.flow D σ H q;exact k σ R
 | Continue p =>
  cases h;exact PS.imp ps_continue fun D σ H q=>by
   obtain⟨ι,ρ,R,k⟩:=LS.flow D σ H q;exact k σ R
 | If c a b p =>
  replace h:(do let k <- cC S n c;let x <- cSs S n a;let y <- cSs S n b;some (.ifS k x y))=some i:=h;obtain⟨k,h0,h⟩:=obind h;obtain⟨x,h1,h⟩:=obind h;obtain⟨y,h2,h⟩:=obind h;cases h;exact PS.imp (ps_if ((hE n).C _ _ _ _ C h0) (ih.Ss _ _ _ _ C hf h1) (ih.Ss _ _ _ _ C hf h2)) LS.ifS
 | For t iter b o p =>
  replace h:noneK o (forT S n t iter (cSs S n b))=some i:=h;cases o with
  | cons _ _=>cases h
  | nil =>
   replace h:forT S n t iter (cSs S n b)=some i:=h;cases t with
   | Name x p =>
    replace h:(if S.loc x then (do let i <- slot S.N x;let it <- cT S n iter;let y <- cSs S n b;some (.forS i it y)) else none)=some i:=h;split at h
    ·rename_i hl
     obtain⟨j,h0,h⟩:=obind h;obtain⟨it,h1,h⟩:=obind h;obtain⟨y,h2,h⟩:=obind h;cases h;have hN:=slot_get h0;rw[<- C.n]at hN;obtain⟨t1,t2⟩:=(hE n).T _ X (.Name x p) _ _ C h1;exact PS.imp (ps_for hp C.calm t1 (pg_name C.nd hN (C.loc hl) (.inl (hf x))) (ih.Ss _ _ _ _ C hf h2) t2) LS.loop
    ·cases h
   | Tuple ts k1 p1 =>
    replace h:pairT S n ts iter (cSs S n b)=some i:=h;rcases ts with _ | ⟨a,_ | ⟨b2,_ | ⟨_,_⟩⟩⟩
    ·cases h
    ·cases h
    ·replace h:pair2 S n a b2 iter (cSs S n b)=some i:=h
     exact pair_sound hE C hf hp (fun y h2=>ih.Ss _ _ _ _ C hf h2) h
    ·cases h
   | _=>cases h
 | While c b o p =>
  cases o with
  | cons _ _=>cases h
  | nil =>
   replace h:(do let k <- cC S n c;let y <- cSs S n b;some (.whileS k y))=some i:=h;obtain⟨k,h0,h⟩:=obind h;obtain⟨x,h1,h⟩:=obind h;cases h;exact PS.imp (ps_while hp ((hE n).C _ _ _ _ C h0) (ih.Ss _ _ _ _ C hf h1)) LS.while
 | _=>cases h
theorem sound_Ss (ih:SoundS Γ n)(S:Sc)(X:Cx)(e:List Stmt)(i:ISs)(C:CxOk Γ S X)(hf:∀ x,X.fn x=true)(h:cSs S (n + 1) e=some i):PSs X e (LS X.K (semSs Γ i)):=by
 unfold cSs at h;cases e with
 | nil =>
  cases h;exact PSs.imp pss_nil fun D σ H q=>by
   obtain⟨ι,ρ,R,k⟩:=LS.flow D σ H q;exact k σ R
 | cons s r =>
  obtain⟨x,h1,h⟩:=obind h;obtain⟨y,h2,h⟩:=obind h;cases h;exact PSs.imp (pss_cons (ih.S _ _ _ _ C hf h1) (ih.Ss _ _ _ _ C hf h2)) LS.seq
theorem soundS (hE:∀ n,Sound Γ n):∀ n,SoundS Γ n
 | 0=>⟨(fun _ _ _ _ _ _ h=>by cases h),(fun _ _ _ _ _ _ h=>by unfold cSs at h;cases h)⟩
 | n + 1=>⟨sound_S hE (soundS hE n),sound_Ss (soundS hE n)⟩
end
end L3
namespace L3
open PySem PySem.Spec PyProof.Rows L2
theorem on1 {α:Type}{P:List α->Prop}(h:∀ a,P [a]):∀ us:List α,us.length=1->P us
 | [a],_=>h a
theorem on2 {α:Type}{P:List α->Prop}(h:∀ a b,P [a,b]):∀ us:List α,us.length=2->P us
 | a::r,z9=>on1 (P:=fun r=>P (a::r)) (fun b=>h a b) r (Nat.succ.inj z9)
theorem on3 {α:Type}{P:List α->Prop}(h:∀ a b c,P [a,b,c]):∀ us:List α,us.length=3->P us
 | a::r,z9=>on2 (P:=fun r=>P (a::r)) (fun b c=>h a b c) r (Nat.succ.inj z9)
theorem on4 {α:Type}{P:List α->Prop}(h:∀ a b c d,P [a,b,c,d]):∀ us:List α,us.length=4->P us
 | a::r,z9=>on3 (P:=fun r=>P (a::r)) (fun b c d=>h a b c d) r (Nat.succ.inj z9)
theorem on5 {α:Type}{P:List α->Prop}(h:∀ a b c d e,P [a,b,c,d,e]):∀ us:List α,us.length=5->P us
 | a::r,z9=>on4 (P:=fun r=>P (a::r)) (fun b c d e=>h a b c d e) r (Nat.succ.inj z9)
structure Ent where
 x:Str
 st:Stmt
 N:List Str
 ps:List Str
 b:ISs
noncomputable def tabOf (es:List Ent):List (Str×Fd):=es.map fun e=>(e.x,⟨e.N.length,e.ps.length,e.b⟩)
noncomputable def DefR (K:PySem.W.Frag)(mg:Str->Option Value)(es:List Ent)(gls bls:List Str)(e:Ent):Prop:=∃ (fa:Addr) (fd:FuncData),Fun K e.x e.x e.st fa fd/\mg e.x=some (.ref fa)/\Binds K fd e.ps []/\FnScope e.N e.ps (defScope e.st) /\
 cSs ⟨defScope e.st,e.N,es.map (·.x),gls,bls⟩ 200 (defBody e.st)=some e.b/\(tabOf es).lookup e.x=some ⟨e.N.length,e.ps.length,e.b⟩
noncomputable def GlR (K:PySem.W.Frag)(mg:Str->Option Value)(gl:Str->Option D)(x:Str):Prop:=∃ d u v,gl x=some d/\mg x=some u/\RelV v u/\∀ ι H,Rep K ι H d v
section
variable {P:Program}{w:World}{K:PySem.W.Frag}{mg:Str->Option Value}{base:Heap}{es:List Ent}{gls bls:List Str}{gl:Str->Option D}{srt:List D->Option (List D)}{wh:Nat}
theorem env_start {ι:List Addr}{H:Hp}{ds:List D}{vs:List V}{N:List Str}(r:Reps K ι H ds vs):EnvR K ι H (ds.map some++List.replicate (N.length - ds.length) none) (start N vs) where
 len:=by
  unfold L2.start;rw[List.length_append,List.length_append,List.length_map,List.length_map,List.length_replicate,List.length_replicate,r.length]
 val:=fun i d e=>by
  unfold L2.start;by_cases hi:i < ds.length
  ·rw[List.getElem?_append_left (by rw[List.length_map];exact hi),List.getElem?_map]at e
   rw[List.getElem?_append_left (by rw[List.length_map,<- r.length];exact hi),List.getElem?_map];cases q:ds[i]? with
   | none=>rw[q]at e;cases e
   | some d' =>
    rw[q]at e;cases e;obtain⟨v,hv,rv⟩:=r.get q;exact⟨v,by rw[hv];rfl,rv⟩
  ·rw[List.getElem?_append_right (by rw[List.length_map];omega),List.getElem?_replicate]at e
   split at e <;> cases e
theorem hu100 {A:Around}{k:Nat}(hr:Room k A):A.units + 100 < cLine:=by have:=hr.un;omega
theorem fns_ok (hsrt:∀ k,SrtOk (CtxN (tabOf es) gl srt wh k))(hd:∀ e∈es,DefR K mg es gls bls e)(hg:∀ x∈gls,GlR K mg gl x)(hb:∀ x∈bls,mg x=none):∀ (k:Nat) (e:Ent),e∈es->∃ (fa:Addr) (fd:FuncData),Fun K e.x e.x e.st fa fd /\
  mg e.x=some (.ref fa)/\PySem.W.keepIn K (.ref fa)=true/\Binds K fd e.ps []/\FnOk P w K mg base CX0 k fa fd e.ps (spOf K e.ps.length ((CtxN (tabOf es) gl srt wh k).fn e.x)) /\
  ∀ ds M d M',(CtxN (tabOf es) gl srt wh k).fn e.x ds M=some (.ok d,M')->ds.length=e.ps.length:=by
 intro k;induction k with
 | zero =>
  intro e he;obtain⟨fa,fd,F,hm,hbn,_⟩:=hd e he;refine⟨fa,fd,F,hm,F.kp,hbn,⟨fun vs H Q E h=>h.1,fun A outer s H args us vs Q E _ _ _ _ h=>?_⟩,fun ds M d M' h=>?_⟩
  ·obtain⟨_,_,_,_,_,_,_,_,e,_⟩:=h
   exact(stop_ok e).elim
  ·exact(stop_ok h).elim
 | succ k ih =>
  intro e he;obtain⟨fa,fd,F,hm,hbn,hS,hc,ht⟩:=hd e he;have hfn:(CtxN (tabOf es) gl srt wh (k + 1)).fn e.x=fun xs=>(do need (xs.length=e.ps.length);semF (CtxN (tabOf es) gl srt wh k) e.N.length e.b xs:Mo D):=by
   funext xs;show (match (tabOf es).lookup e.x with
    | some d=>(do need (xs.length=d.p);semF (CtxN (tabOf es) gl srt wh k) d.n d.b xs:Mo D)
    | none=>Mo.stop)=_
   rw[ht]
  refine⟨fa,fd,F,hm,F.kp,hbn,?_,fun ds M d M' h=>?_⟩
  ·refine F.ok hS (fun vs H Q E h=>h.1) (fun cdv A outer s H vs Q E hr h=>?_)
   obtain⟨hl,ι,M,M',ds,d,S,r,eq,kk⟩:=h;rw[hfn]at eq;obtain⟨_,M0,e1,eq1⟩:=bind_ok eq;obtain⟨hn,hM⟩:=need_ok e1;rw[hM]at eq1;obtain⟨f,M1,e2,eq2⟩:=bind_ok eq1;have C:CxOk (CtxN (tabOf es) gl srt wh k) ⟨defScope e.st,e.N,es.map (·.x),gls,bls⟩ (cxOf CX0 P w K mg base e.N e.x (defScope e.st) fa cdv A outer s H E).nox:={
    n:=rfl
    sc:=fun x q hx=>⟨q,hx,.inl rfl⟩
    calm:=rfl
    hu:=hu100 hr
    nox:=rfl
    fns:=fun x hx=>by
     obtain⟨e',he',rfl⟩:=List.mem_map.mp hx;obtain⟨fa',fd',_,g1,g2,g3,g4,g5⟩:=ih e' he';exact⟨k,fa',fd',e'.ps,g1,g2,g3,g4,hr,g5⟩
    gls:=fun x hx=>by
     obtain⟨d',u,v,g1,g2,g3,g4⟩:=hg x hx;refine⟨d',u,v,?_,g2,g3,g4⟩;cases k <;> exact g1
    bls:=hb
    nd:=hS.nd }
   refine⟨_,(soundS (sound (hsrt k)) 200).Ss _ _ _ _ C (fun _=>rfl) hc,?_⟩;refine⟨ι,_,_,f,M1,S,env_start (N:=e.N) r,e2,fun H' ι' S' X'=>?_⟩;cases f with
   | nx ρ=>obtain⟨rfl,rfl⟩:=pure_ok eq2;exact fun σ _=>kk .non H' ι' .non S' X'
   | rt v=>obtain⟨rfl,rfl⟩:=pure_ok eq2;exact fun v' r'=>kk v' H' ι' r' S' X'
   | bk ρ=>exact(stop_ok eq2).elim
   | ct ρ=>exact(stop_ok eq2).elim
  ·rw[hfn]at h
   obtain⟨_,_,e1,_⟩:=bind_ok h;exact(need_ok e1).1
theorem law_fn (hsrt:∀ k,SrtOk (CtxN (tabOf es) gl srt wh k))(hd:∀ e∈es,DefR K mg es gls bls e)(hg:∀ x∈gls,GlR K mg gl x)(hb:∀ x∈bls,mg x=none)(k:Nat){e:Ent}(he:e∈es){fa:Addr}{fd:FuncData}(F:Fun K e.x e.x e.st fa fd)(hm:mg e.x=some (.ref fa)) :
  FnOk P w K mg base CX0 k fa fd e.ps (spOf K e.ps.length ((CtxN (tabOf es) gl srt wh k).fn e.x)):=by
 obtain⟨fa',fd',F',hm',_,_,g,_⟩:=fns_ok (P:=P) (w:=w) (base:=base) hsrt hd hg hb k e he;rw[hm]at hm';cases hm';obtain⟨_,_,_,_,_,_,_,_,_,_,l1,_⟩:=F.ex;obtain⟨_,_,_,_,_,_,_,_,_,_,l2,_⟩:=F'.ex;rw[l1]at l2;cases l2;exact g
end
theorem ints_reps {K:PySem.W.Frag}{ι:List Addr}{H:Hp}:∀ ns:List Int,Reps K ι H (ns.map D.int) (ns.map V.int)
 | []=>.nil
 | n::r=>.cons (.int n) (ints_reps r)
theorem fz_of {K:PySem.W.Frag}{H:Hp}{a:Addr}{xs:List V}(hO:Only H)(h:SqL K H a xs):FzL K H a xs:=by
 rcases h with (h | h) | h
 ·rcases hO a with z | ⟨o,ys,z⟩
  ·rw[z]at h;cases h
  ·rw[z]at h;cases h
 ·exact .inl h
 ·exact .inr h
theorem sp_law {K:PySem.W.Frag}{H:Hp}{a:Addr}{ns:List Int}{g:List D->Mo D}{E:XK}(hO:Only H)(hS:SqL K H a (ns.map V.int))(hg:∃ M',g [.fl (ns.map .int)] []=some (.ok (.bl true),M')):spOf K 1 g [.ref a] H (fun v _=>v=.bl true) E:=by
 obtain⟨M',e⟩:=hg;refine⟨rfl,[],[],M',_,_,⟨rfl,fun i j a h=>by simp at h,fun i a o h=>by simp at h⟩,.cons (.fl (fz_of hO hS) (ints_reps ns)) .nil,e,fun v H' ι' r _ _=>?_⟩;cases r;rfl
end L3
namespace L3
open PySem PySem.Spec PyProof.Rows L2
noncomputable def evalK {α:Type}(lt:Nat->Nat->Option Bool):PySem.W.KasT α->Option α
 | .ret a=>some a
 | .ask i j k=>match lt i j with
  | none=>none
  | some b=>evalK lt (k b)
theorem evalK_wp {α:Type}{lt:Nat->Nat->Option Bool}{cmp:Nat->Nat->(Bool->Shared->Prop)->Shared->Prop}{s:Shared}{a:α}{Q:α->Shared->Prop}(hc:∀ i j b (C:Bool->Shared->Prop),lt i j=some b->C b s->cmp i j C s)(q:Q a s) :
  ∀ (t:PySem.W.KasT α),evalK lt t=some a->t.kasWp cmp Q s
 | .ret b,h=>by cases h;exact q
 | .ask i j k,h=>by
  unfold evalK at h;cases e:lt i j with
  | none=>rw[e]at h;cases h
  | some b =>
   rw[e]at h;exact hc i j b _ e (evalK_wp hc q (k b) h)
section
variable {prog:Program}{w:World}{A:Around}{E:Value->Shared->Prop}{s:Shared}{a:Addr}{vs:List Value}{n:Nat}{P:PySem.Fin->Shared->Prop}
theorem list_sort_small (ho:s.heap.get? a=some (seqObj "list" vs.toArray n))(h2:vs.length < 2)
  (h:∀ h' c,(∀ b o,b≠a->s.heap.get? b=some o->h'.get? b=some o)->h'.get? a=some (seqObj "list" vs.toArray c)->P (.done (.ret .none)) { s with heap:=h' }) :
  wpAny (model prog w) A (Builtin.«list.sort» ⟨[.ref a],[]⟩) P E s:=by
 rw[list_sort_plain];have ha:a < s.heap.objs.size:=Heap.lt_size ho;refine wpAny_bind (listItems_at ho rfl ?_);refine wpAny_bind (listUpdate_at ho rfl ?_ (by rw[List.size_toArray,sizeLine_eq];omega) (Nat.zero_le _));obtain⟨e1,ho1⟩:∃ e1,(s.heap.update a (Obj.mapSeq fun _=>#[])).get? a=some (seqObj "list" #[] e1):=⟨_,get?_update_seq ho (fun _=>#[])⟩;refine wpAny_bind (seqEpoch_at ho1 rfl ?_);refine wpAny_bind (wpAny_newTuple ?_ (by show vs.length<=_;rw[sizeLine_eq];omega));refine wpAny_bind (wpAny_newList ?_ (Nat.zero_le _));refine wpAny_holding ?_;have ho6:(((s.heap.update a (Obj.mapSeq fun _=>#[])).push (seqObj "tuple" vs.toArray 0)).push (seqObj "list" #[] 0)).get? a=some (seqObj "list" #[] e1):=by
  rw[Heap.get?_push_ne _ _ _ (by rw[size_push',Heap.size_update];exact Nat.ne_of_lt (Nat.lt_succ_of_lt ha)),Heap.get?_push_ne _ _ _ (by rw[Heap.size_update];exact Nat.ne_of_lt ha)];exact ho1
 show wpAny (model prog w) A _ P E { s with heap:=((s.heap.update a (Obj.mapSeq fun _=>#[])).push (seqObj "tuple" vs.toArray 0)).push (seqObj "list" #[] 0) };dsimp only;have hlt:vs.toArray.size < 2:=by rw[List.size_toArray];exact h2
 rw[if_pos hlt,if_pos hlt];refine wpAny_bind (wpAny_pure ?_);rw[StateT.run_pure];refine wpAny_bind (wpAny_pure ?_);dsimp only;have hz:∀ l:List Value,(l.toArray.zip l.toArray).map (fun x=>x.2)=l.toArray:=fun l=>by
  apply Array.toList_inj.mp;simp only[Array.toList_map,Array.toList_zip];induction l with
  | nil=>rfl
  | cons x r ih=>simpa using ih
 refine wpAny_bind (seqEpoch_at ho6 rfl ?_);refine wpAny_bind (listUpdate_at ho6 rfl ?_ (Nat.zero_le _) (hsz2:=by rw[hz,List.size_toArray,sizeLine_eq];omega));simp only[bne_self_eq_false,Bool.false_eq_true,if_false];rw[hz];obtain⟨c2,hc2⟩:∃ c2,((((s.heap.update a (Obj.mapSeq fun _=>#[])).push (seqObj "tuple" vs.toArray 0)).push (seqObj "list" #[] 0)).update a (Obj.mapSeq fun _=>vs.toArray)).get? a=some (seqObj "list" vs.toArray c2):=⟨_,get?_update_seq ho6 fun _=>vs.toArray⟩;refine wpAny_pure (h _ c2 (fun b o hb e=>?_) hc2);have hlt:b < s.heap.objs.size:=Heap.lt_size e;rw[Heap.get?_update_ne _ _ _ _ hb,Heap.get?_push_ne _ _ _ (by rw[size_push',Heap.size_update];exact Nat.ne_of_lt (Nat.lt_succ_of_lt hlt)),Heap.get?_push_ne _ _ _ (by rw[Heap.size_update];exact Nat.ne_of_lt hlt),Heap.get?_update_ne _ _ _ _ hb];exact e
theorem list_sort_any {κ:SortKind}{lt:Nat->Nat->Option Bool}{p:Array Nat}(ho:s.heap.get? a=some (seqObj "list" vs.toArray n))(h2:2<=vs.length)(h64:vs.length < 64)
  (hk:∀ h',(∀ b o,b≠a->s.heap.get? b=some o->h'.get? b=some o)->∀ (Q:SortKind->Shared->Prop),Q κ { s with heap:=h' }->wpAny (model prog w) A (keyKind' vs.toArray) Q (fun _ _=>False) { s with heap:=h' })
  (hc:∀ h',(∀ b o,b≠a->s.heap.get? b=some o->h'.get? b=some o)->∀ i j b (C:Bool->Shared->Prop),lt i j=some b->C b { s with heap:=h' }->PySem.W.kas_ask prog w A κ vs i j C { s with heap:=h' })
  (he:evalK lt (PySem.W.kas_sort vs.length)=some p)
  (h:∀ h' c,p.size=vs.length->(∀ b o,b≠a->s.heap.get? b=some o->h'.get? b=some o)->h'.get? a=some (seqObj "list" (List.toArray (p.toList.map fun i=>vs.getD i Value.none)) c)->P (.done (.ret .none)) { s with heap:=h' }) :
  wpAny (model prog w) A (Builtin.«list.sort» ⟨[.ref a],[]⟩) P E s:=by
 have ha:a < s.heap.objs.size:=Heap.lt_size ho;obtain⟨e1,ho1⟩:∃ e1,(s.heap.update a (Obj.mapSeq fun _=>(#[]:Array Value))).get? a=some (seqObj "list" #[] e1):=⟨_,get?_update_seq ho fun _=>#[]⟩;have keep:∀ b o,b≠a->s.heap.get? b=some o->(((s.heap.update a (Obj.mapSeq fun _=>(#[]:Array Value))).push (seqObj "tuple" vs.toArray 0)).push (seqObj "list" #[] 0)).get? b=some o:=fun b o hb e=>by
  have hlt:b < s.heap.objs.size:=Heap.lt_size e;rw[Heap.get?_push_ne _ _ _ (by rw[size_push',Heap.size_update];exact Nat.ne_of_lt (Nat.lt_succ_of_lt hlt)),Heap.get?_push_ne _ _ _ (by rw[Heap.size_update];exact Nat.ne_of_lt hlt),Heap.get?_update_ne _ _ _ _ hb];exact e
 have ho6:(((s.heap.update a (Obj.mapSeq fun _=>(#[]:Array Value))).push (seqObj "tuple" vs.toArray 0)).push (seqObj "list" #[] 0)).get? a=some (seqObj "list" #[] e1):=by
  rw[Heap.get?_push_ne _ _ _ (by rw[size_push',Heap.size_update];exact Nat.ne_of_lt (Nat.lt_succ_of_lt ha)),Heap.get?_push_ne _ _ _ (by rw[Heap.size_update];exact Nat.ne_of_lt ha)];exact ho1
 rw[list_sort_plain];refine wpAny_bind (listItems_at ho rfl ?_);refine wpAny_bind (listUpdate_at ho rfl ?_ (by rw[List.size_toArray,sizeLine_eq];omega) (Nat.zero_le _));refine wpAny_bind (seqEpoch_at ho1 rfl ?_);refine wpAny_bind (wpAny_newTuple ?_ (by show vs.length<=_;rw[sizeLine_eq];omega));refine wpAny_bind (wpAny_newList ?_ (Nat.zero_le _));refine wpAny_holding ?_;show wpAny (model prog w) A _ P E { s with heap:=((s.heap.update a (Obj.mapSeq fun _=>(#[]:Array Value))).push (seqObj "tuple" vs.toArray 0)).push (seqObj "list" #[] 0) };dsimp only;have hn2:¬ vs.toArray.size < 2:=by rw[List.size_toArray];omega
 rw[if_neg hn2,if_neg hn2];refine wpAny_bind (wpAny_mono (hk _ keep (fun κ' s'=>κ'=κ/\s' = { s with heap:=((s.heap.update a (Obj.mapSeq fun _=>(#[]:Array Value))).push (seqObj "tuple" vs.toArray 0)).push (seqObj "list" #[] 0) }) ⟨rfl,rfl⟩) (fun κ' s0 hq=>?_) fun _ _ x=>x.elim);obtain⟨rfl,rfl⟩:=hq;refine wpAny_bind (wpAny_mono (PySem.W.kat_run (Q:=fun st' s'=>∃ q:Array Nat,q.size=vs.length/\arrOf st'=q.map (PySem.W.kas_item (vs.toArray.zip vs.toArray))/\failedOf st'=none/\q=p/\s' = { s with heap:=((s.heap.update a (Obj.mapSeq fun _=>(#[]:Array Value))).push (seqObj "tuple" vs.toArray 0)).push (seqObj "list" #[] 0) })
  (G:=fun q s'=>q=p/\s' = { s with heap:=((s.heap.update a (Obj.mapSeq fun _=>(#[]:Array Value))).push (seqObj "tuple" vs.toArray 0)).push (seqObj "list" #[] 0) })
  rfl h2 h64 (fun p' st' s' a1 a2 a3 a4=>⟨p',a1,a2,a3,a4.1,a4.2⟩) (evalK_wp (hc _ keep) ⟨rfl,rfl⟩ _ he)) ?_ fun _ _ e=>e)
 rintro ⟨⟨⟩,st'⟩ s' ⟨q,hp,har,hf,rfl,rfl⟩;dsimp only;have hout:=PySem.W.kat_snds rfl har;have hsz:(List.toArray (q.toList.map fun i=>vs.getD i Value.none)).size=vs.length:=by rw[List.size_toArray,List.length_map,Array.length_toList,hp]
 rw[hout];obtain⟨c2,hc2⟩:∃ c2,((((s.heap.update a (Obj.mapSeq fun _=>(#[]:Array Value))).push (seqObj "tuple" vs.toArray 0)).push (seqObj "list" #[] 0)).update a (Obj.mapSeq fun _=>List.toArray (q.toList.map fun i=>vs.getD i Value.none))).get? a=some (seqObj "list" (List.toArray (q.toList.map fun i=>vs.getD i Value.none)) c2):=⟨_,get?_update_seq ho6 fun _=>List.toArray (q.toList.map fun i=>vs.getD i Value.none)⟩;refine wpAny_bind (seqEpoch_at ho6 rfl ?_);refine wpAny_bind (listUpdate_at ho6 rfl ?_ (Nat.zero_le _) (Nat.le_trans (Nat.le_of_eq hsz) (by rw[sizeLine_eq];omega)));rw[hf];simp only[bne_self_eq_false,Bool.false_eq_true,if_false];refine wpAny_pure (h _ c2 hp (fun b o hb e=>?_) hc2);rw[Heap.get?_update_ne _ _ _ _ hb];exact keep b o hb e
end
end L3
namespace L3
open PySem PyProof.Rows L2
noncomputable def lexG {α:Type}[DecidableEq α](lt:α->α->Bool):List α->List α->Bool
 | [],[]=>false
 | [],_::_=>true
 | _::_,[]=>false
 | x::xs,y::ys=>if x=y then lexG lt xs ys else lt x y
section
open PySem.SeqAt
open PySem.AutoSeq1 (wpAny_loadPart')
open PySem.MeetsSeq PySem.MeetsSeq2 PySem.MeetsSeq3
variable {α:Type}[DecidableEq α]{f:α->V}{lt:α->α->Bool}
theorem tuple_lt_gen (he:∀ (A:Around) (s:Shared) (v w:Value) (a c:α),RelV (f a) v->RelV (f c) w->SeqAt.EqAt A s v w (decide (a=c)))
  (hq:∀ (A:Around) (s:Shared) (v w:Value) (a c:α) (prog:Program) (w':World) (E:Value->Shared->Prop) (Q:Value->Shared->Prop),RelV (f a) v->RelV (f c) w->Q (.bool (lt a c)) s->wpAny (model prog w') A (richCompare .Lt v w) Q E s)
  (l b:Addr) (items items2:Array Value) (n n2:Nat) (dd dd2:Option Addr) (sl sl2:Array (Option Value)) (ns ms:List α) (hi:Vals (ns.map f) items.toList) (hj:Vals (ms.map f) items2.toList) :
  Meets (Builtin.«tuple.__lt__» ⟨[.ref l,.ref b],[]⟩)
   (fun _ R s=>s.heap.get? l=some { cls:=.type "tuple",dict:=dd,data:=.seq items n,slots:=sl }/\s.heap.get? b=some { cls:=.type "tuple",dict:=dd2,data:=.seq items2 n2,slots:=sl2 } /\
    R (.ok (.ret (.bool (lexG lt ns ms)))) s) :=
 .of_wp fun prog w A R s h=>by
  obtain⟨hp,g,d,tk,os⟩:=s;obtain⟨hl,hb,h⟩:=h;have f2:=AutoSeq1.sub_tuple_tuple;have z1:items.size=ns.length:=by have:=hi.length;rw[List.length_map]at this;rw[this];simp
  have z2:items2.size=ms.length:=by have:=hj.length;rw[List.length_map]at this;rw[this];simp
  wp_walk using wpAny_loadPart' hl,wpAny_loadPart' hb,wpAny_forIn_list _ (fun rest b s'=>b.1=none/\s'=⟨hp,g,d,tk,os⟩/\∃ (vs ws:List Value) (ns' ms':List α),rest=vs.zip ws /\
   Vals (ns'.map f) vs/\Vals (ms'.map f) ws/\ns'.length + items2.size=ms'.length + items.size/\R (.ok (.ret (.bool (lexG lt ns' ms')))) ⟨hp,g,d,tk,os⟩) _
  case turn =>
   rintro ⟨y,x⟩ rest b s' ⟨hb',rfl,vs,ws,ns',ms',hz,hvi,hwi,hlen,hR⟩;cases ns' with
   | nil=>cases hvi;rw[List.zip_nil_left]at hz;cases hz
   | cons a ns' =>
    cases ms' with
    | nil=>cases hwi;rw[List.zip_nil_right]at hz;cases hz
    | cons c ms' =>
     cases hvi with
     | cons ra hvi' =>
     cases hwi with
     | cons rc hwi' =>
     rw[List.zip_cons_cons]at hz;injection hz with hyx hrest
     injection hyx with hy hx
     subst hy hx;rw[lexG]at hR;simp only[List.length_cons]at hlen;refine wpAny_bind (he A.in1 ⟨hp,g,d,tk,os⟩ _ _ a c ra rc prog w _ _ ?_);by_cases e:a=c
     ·rw[if_pos e]at hR
      rw[decide_eq_true e];wp_walk;exact⟨rfl,rfl,_,_,_,_,hrest,hvi',hwi',by omega,hR⟩
     ·rw[if_neg e]at hR
      rw[decide_eq_false e];have hri:=fun E Q=>hq A.in1 ⟨hp,g,d,tk,os⟩ _ _ a c prog w E Q ra rc;wp_walk using hri;exact⟨_,rfl,by simpa using hR⟩
  case fin =>
   rintro ⟨b1,b2⟩ s' ⟨hb',rfl,vs,ws,ns',ms',hz,hvi,hwi,hlen,hR⟩;simp only at hb';subst hb';have hv:lexG lt ns' ms'=decide (items.size < items2.size):=by
    cases ns' with
    | nil =>
     cases ms' with
     | nil =>
      simp only[List.length_nil]at hlen;exact(decide_eq_false (by omega)).symm
     | cons c ms' =>
      simp only[List.length_nil,List.length_cons]at hlen;exact(decide_eq_true (by omega)).symm
    | cons a ns' =>
     cases ms' with
     | nil =>
      simp only[List.length_nil,List.length_cons]at hlen;exact(decide_eq_false (by omega)).symm
     | cons c ms' =>
      cases hvi;cases hwi;rw[List.zip_cons_cons]at hz;cases hz
   rw[hv]at hR;wp_walk;exact⟨_,rfl,by simpa [Builtin.Tuple.tupleCompareSizes] using hR⟩
  case h =>
   exact⟨rfl,rfl,items.toList,items2.toList,ns,ms,rfl,hi,hj,by omega,h⟩
variable {prog:Program}{w:World}{A:Around}{E:Value->Shared->Prop}{s:Shared}
theorem lt_tupG (he:∀ (A:Around) (s:Shared) (v w:Value) (a c:α),RelV (f a) v->RelV (f c) w->SeqAt.EqAt A s v w (decide (a=c)))
  (hq:∀ (A:Around) (s:Shared) (v w:Value) (a c:α) (prog:Program) (w':World) (E:Value->Shared->Prop) (Q:Value->Shared->Prop),RelV (f a) v->RelV (f c) w->Q (.bool (lt a c)) s->wpAny (model prog w') A (richCompare .Lt v w) Q E s)
  {l b:Addr} {us zs:List Value} {ns ms:List α} {Q:Value->Shared->Prop} (hl:IsTup s.heap l us.toArray) (hb:IsTup s.heap b zs.toArray) (hi:Vals (ns.map f) us) (hj:Vals (ms.map f) zs)
  (hu:A.units < cLine) (h:Q (.bool (lexG lt ns ms)) s):wpAny (model prog w) A (compareOp .Lt (.ref l) (.ref b)) Q E s:=by
 obtain⟨⟨cls,dd,data,sl⟩,ho,hc,n,hd⟩:=id hl;obtain⟨⟨cls2,dd2,data2,sl2⟩,ho2,hc2,n2,hd2⟩:=id hb;simp only at hc hd hc2 hd2;subst hc hd hc2 hd2;exact richCompare_meets_room (op:=.Lt) ⟨_,ho,rfl⟩ ⟨_,ho2,rfl⟩ PySem.F.slot_tuple_lt PySem.F.entry_tuple_lt (PySem.F.args_tuple_lt_2 _ _) (tuple_lt_gen he hq l b us.toArray zs.toArray n n2 dd dd2 sl sl2 ns ms (by simpa using hi) (by simpa using hj))
  ⟨ho,ho2,show Value.bool (lexG lt ns ms)≠Value.notImplemented/\Q (.bool (lexG lt ns ms)) s from ⟨(fun x=>nomatch x),h⟩⟩ hu
theorem all_same {ns ms:List α}:((List.range (min ns.length ms.length)).all (fun j=>decide (ns[j]?=ms[j]?))&&ns.length==ms.length)=decide (ns=ms):=by
 rw[Bool.eq_iff_iff,Bool.and_eq_true,List.all_eq_true,beq_iff_eq,decide_eq_true_eq];refine⟨fun ⟨h1,h2⟩=>?_,fun e=>?_⟩
 ·apply List.ext_getElem?
  intro j;by_cases hj:j < ns.length
  ·exact of_decide_eq_true (h1 j (List.mem_range.mpr (by omega)))
  ·rw[List.getElem?_eq_none (by omega),List.getElem?_eq_none (by omega)]
 ·subst e
  exact⟨fun j _=>by simp,rfl⟩
theorem eqAt_tupG (he:∀ (A:Around) (s:Shared) (v w:Value) (a c:α),RelV (f a) v->RelV (f c) w->SeqAt.EqAt A s v w (decide (a=c)))(hf:∀ a c,f a=f c->a=c)
  {l b:Addr} {us zs:List Value} {ns ms:List α} (hl:IsTup s.heap l us.toArray) (hb:IsTup s.heap b zs.toArray) (hi:Vals (ns.map f) us) (hj:Vals (ms.map f) zs) (hu:A.units < cLine):SeqAt.EqAt A s (.ref l) (.ref b) (decide (ns=ms)):=by
 have l1:=hi.length;have l2:=hj.length;rw[List.length_map]at l1 l2;by_cases hlb:l=b
 ·subst hlb
  obtain⟨o,ho,_,n,hd⟩:=hl;obtain⟨o',ho',_,n',hd'⟩:=hb;rw[ho]at ho';cases ho';rw[hd]at hd';injection hd' with e1 e2
  have e1:us=zs:=by simpa using e1
  subst e1;have e:=hi.inj hj
  have:ns=ms:=List.map_inj_right hf |>.mp e
  rw[decide_eq_true this];exact SeqAt.EqAt.same _
 ·refine SeqAt.EqAt.of_refs hlb ?_
  rw[<- all_same,l1,l2]
  have:=SeqAt.RcAt.tuples (A:=A) (s:=s) (e:=fun j=>decide (ns[j]?=ms[j]?)) hl hb hu (fun j h1 h2=>by
   have j1:j < us.length:=by simpa using h1
   have j2:j < zs.length:=by simpa using h2
   obtain⟨u,hu1,r1⟩:=hi.get (i:=j) (x:=f ns[j]) (by rw[List.getElem?_map,List.getElem?_eq_getElem (by omega)];rfl);obtain⟨z,hz1,r2⟩:=hj.get (i:=j) (x:=f ms[j]) (by rw[List.getElem?_map,List.getElem?_eq_getElem (by omega)];rfl);have e1:us.toArray[j]=u:=by
    rw[List.getElem?_eq_getElem j1]at hu1;simpa using Option.some.inj hu1
   have e2:zs.toArray[j]=z:=by
    rw[List.getElem?_eq_getElem j2]at hz1;simpa using Option.some.inj hz1
   rw[e1,e2,List.getElem?_eq_getElem (show j < ns.length by omega),List.getElem?_eq_getElem (show j < ms.length by omega)];have q:=he A.in1 s u z ns[j] ms[j] r1 r2;simpa using q)
  simpa using this
end
theorem he_int (A:Around)(s:Shared)(v w:Value)(a c:Int)(h1:RelV (.int a) v)(h2:RelV (.int c) w):SeqAt.EqAt A s v w (decide (a=c)):=by
 obtain⟨t,rfl⟩:=h1;obtain⟨u,rfl⟩:=h2;exact SeqAt.EqAt.int_int a t c u
theorem he_str (A:Around)(s:Shared)(v w:Value)(a c:Str)(h1:RelV (.str a) v)(h2:RelV (.str c) w):SeqAt.EqAt A s v w (decide (a=c)):=by
 obtain⟨t,rfl⟩:=h1;obtain⟨u,rfl⟩:=h2
 have:=SeqAt.EqAt.str_str (A:=A) (s:=s) a t c u
 rwa [show (a==c)=decide (a=c) from by rw[Bool.eq_iff_iff,beq_iff_eq,decide_eq_true_eq]]at this
noncomputable def ltI (a c:Int):Bool:=decide (a < c)
noncomputable def ltSt (a c:Str):Bool:=decide (a.cps.toList < c.cps.toList)
theorem hq_int (A:Around)(s:Shared)(v w:Value)(a c:Int)(prog:Program)(w':World)(E:Value->Shared->Prop)(Q:Value->Shared->Prop)(h1:RelV (.int a) v)(h2:RelV (.int c) w)(h:Q (.bool (ltI a c)) s):wpAny (model prog w') A (richCompare .Lt v w) Q E s:=by
 obtain⟨t,rfl⟩:=h1;obtain⟨u,rfl⟩:=h2;exact(lt_int h:wpAny (model prog w') A (compareOp .Lt (.int a t) (.int c u)) Q E s)
theorem hq_str (A:Around)(s:Shared)(v w:Value)(a c:Str)(prog:Program)(w':World)(E:Value->Shared->Prop)(Q:Value->Shared->Prop)(h1:RelV (.str a) v)(h2:RelV (.str c) w)(h:Q (.bool (ltSt a c)) s):wpAny (model prog w') A (richCompare .Lt v w) Q E s:=by
 obtain⟨t,rfl⟩:=h1;obtain⟨u,rfl⟩:=h2;exact(lt_str h:wpAny (model prog w') A (compareOp .Lt (.str a t) (.str c u)) Q E s)
noncomputable abbrev Gk:=List Int×List Str
noncomputable def gD (g:Gk):D:=.tup [.tup (g.1.map .int),.tup (g.2.map .str)]
noncomputable def gP2 (is ks:List D):Option Gk:=match allI is,allS ks with
 | some a,some b=>some (a,b)
 | _,_=>none
noncomputable def gP:D->Option Gk
 | .tup [.tup is,.tup ks]=>gP2 is ks
 | _=>none
noncomputable def gsP:List D->Option (List Gk)
 | []=>some []
 | d::ds=>match gP d,gsP ds with
  | some g,some gs=>some (g::gs)
  | _,_=>none
theorem gP_eq {d:D}{g:Gk}(h:gP d=some g):d=gD g:=by
 unfold gP at h;split at h
 ·rename_i is ks
  unfold gP2 at h;split at h
  ·rename_i a b ha hb
   cases h;rw[allI_eq ha,allS_eq hb];rfl
  ·cases h
 ·cases h
theorem gsP_eq:∀ {ds:List D} {gs:List Gk},gsP ds=some gs->ds=gs.map gD
 | [],gs,h=>by cases h;rfl
 | d::ds,gs,h=>by
  rw[gsP]at h;split at h
  ·rename_i g gs' hg hgs
   cases h;rw[List.map_cons,gP_eq hg,gsP_eq hgs]
  ·cases h
noncomputable def ltG (g h:Gk):Bool:=if g.1=h.1 then (if g.2=h.2 then false else lexG ltSt g.2 h.2) else lexG ltI g.1 h.1
noncomputable def cmpP (gs:List Gk)(i j:Nat):Option Bool:=match gs[i]?,gs[j]? with
 | some a,some b=>some (ltG a b)
 | _,_=>none
noncomputable def sortP (ds:List D):Option (List D):=match gsP ds with
 | some gs=>if (decide (2<=ds.length)&&decide (ds.length < 64))=true then (evalK (cmpP gs) (PySem.W.kas_sort ds.length)).map fun p=>p.toList.map fun i=>ds.getD i .non else none
 | none=>none
end L3
namespace L3
open PySem PySem.Spec PyProof.Rows L2
noncomputable def lexK:List D->List D->Option Bool
 | [],[]=>some false
 | [],_::_=>some true
 | _::_,[]=>some false
 | x::xs,y::ys=>if (flatD x&&flatD y)=true then (if eqF x y=true then lexK xs ys else ltD x y) else none
noncomputable def firstStr:D->Bool
 | .tup (.str _::_)=>true
 | _=>false
noncomputable def firstInt:D->Bool
 | .tup (.int _::_)=>true
 | _=>false
noncomputable def cmpT (ds:List D)(i j:Nat):Option Bool:=match ds[i]?,ds[j]? with
 | some (.tup xs),some (.tup ys)=>lexK xs ys
 | _,_=>none
noncomputable def sortT (ds:List D):Option (List D):=if ds.length < 2 then some ds else if (decide (ds.length < 64)&&(ds.all firstStr||ds.all firstInt))=true then
 (evalK (cmpT ds) (PySem.W.kas_sort ds.length)).map fun p=>p.toList.map fun i=>ds.getD i .non else none
noncomputable def sortQ (ds:List D):Option (List D):=match sortP ds with
 | some ys=>some ys
 | none=>sortT ds
noncomputable def sortD (ds:List D):Option (List D):=match sortF ds with
 | some ys=>if ds.length < 64 then some ys else none
 | none=>sortQ ds
theorem sortD_str {xs:List Str}(h:xs.length < 64):sortD (xs.map .str)=some ((sortS xs).map .str):=by
 unfold sortD sortF;rw[allS_map];dsimp only;rw[if_pos (by rw[List.length_map];exact h)]
section
variable {X:Cx}{pins:List (Addr×Obj)}{σ:St}{H:Hp}{s:Shared}{ι:List Addr}{A:Around}
noncomputable def TupAt (h:Heap)(u:Value)(us:List Value):Prop:=∃ a o n,u=.ref a/\h.get? a=some o/\o.cls=.type "tuple"/\o.data=.seq us.toArray n
theorem tupAt_of (I:Inv X pins σ H s){d:D}{ds:List D}{v:V}{u:Value}(r:Rep X.K ι H (.tup ds) v)(ru:RelV v u):∃ vs us,Reps X.K ι H ds vs/\Vals vs us/\TupAt s.heap u us:=by
 cases r with
 | tup t q =>
  obtain⟨its,rv,⟨o,h1,h2,n,h3⟩,_⟩:=I.tuple (sqt t);cases ru;exact⟨_,its,q,rv,_,o,n,rfl,h1,h2,h3⟩
theorem lex_wp {b fin:Bool}{Q:Bool->Shared->Prop}:∀ {xs ys:List D} {vs ws:List V} {us zs:List Value} {c:Bool} {i:Nat} {s:Shared},Reps X.K ι H xs vs->Reps X.K ι H ys ws->Vals vs us->Vals ws zs->lexK xs ys=some c->(decide (xs.length < ys.length)=fin) ->
  Q c s->(b=true->i=0->∃ x y xs' ys',xs=x::xs'/\ys=y::ys'/\((∃ p q,x=.str p/\y=.str q)\/∃ p q,x=.int p/\y=.int q))->PySem.W.KatLex X.prog X.w A b fin Q (us.zip zs) i s
 | _,_,_,_,_,_,c,i,s,.nil,.nil,.nil,.nil,h,hf,q,_=>by
  simp only[lexK,Option.some.injEq]at h;subst h
  have:fin=false:=by rw[<- hf];rfl
  subst this;exact PySem.W.kat_nil q
 | _,_,_,_,_,_,c,i,s,.nil,.cons _ _,.nil,.cons _ _,h,hf,q,_=>by
  simp only[lexK,Option.some.injEq]at h;subst h
  have:fin=true:=by rw[<- hf];simp
  subst this;exact PySem.W.kat_nil q
 | _,_,_,_,_,_,c,i,s,.cons _ _,.nil,.cons _ _,.nil,h,hf,q,_=>by
  simp only[lexK,Option.some.injEq]at h;subst h
  have:fin=false:=by rw[<- hf];simp
  subst this;exact PySem.W.kat_nil q
 | x::xs,y::ys,_,_,_,_,c,i,s,.cons r1 t1,.cons r2 t2,.cons g1 k1,.cons g2 k2,h,hf,q,h0=>by
  simp only[lexK]at h;split at h
  ·rename_i hfl
   rw[Bool.and_eq_true]at hfl;rw[List.zip_cons_cons];have eq:=eqAt_V (A:=A) (s:=s) g1 g2 (flat_rep r1 hfl.1) (flat_rep r2 hfl.2);refine PySem.W.kat_cons (eq X.prog X.w _ _ ?_);rw[eq_rep r1 r2 hfl.1 hfl.2];split at h
   ·rename_i he
    rw[he];refine PySem.W.kat_yes (lex_wp t1 t2 k1 k2 h (by rw[<- hf];simp) q fun _ z=>by omega)
   ·rename_i he
    have he':eqF x y=false:=by simpa using he
    rw[he'];refine PySem.W.kat_no ?_;cases hb:(b&&i==0) with
    | true =>
     cases r1 <;> cases r2 <;> simp only[ltD,Option.some.injEq,reduceCtorEq]at h
     ·obtain⟨t,rfl⟩:=g1
      obtain⟨t',rfl⟩:=g2;exact oneLt_int (by rw[h];exact q)
     ·obtain⟨t,rfl⟩:=g1
      obtain⟨t',rfl⟩:=g2;exact oneLt_str (by rw[h];exact q)
    | false =>
     refine PySem.W.kat_one _ _ ?_;cases r1 <;> cases r2 <;> simp only[ltD,Option.some.injEq,reduceCtorEq]at h
     ·obtain⟨t,rfl⟩:=g1
      obtain⟨t',rfl⟩:=g2;exact lt_int (by show Q (decide _) s;rw[h];exact q)
     ·obtain⟨t,rfl⟩:=g1
      obtain⟨t',rfl⟩:=g2;exact lt_str (by show Q (decide _) s;rw[h];exact q)
  ·cases h
end
end L3
namespace L3
open PySem PySem.Spec PyProof.Rows L2
section
variable {X:Cx}{pins:List (Addr×Obj)}{σ:St}{H:Hp}{s:Shared}{ι:List Addr}{A:Around}
theorem reps_intsG:∀ {xs:List Int} {vs:List V},Reps X.K ι H (xs.map .int) vs->vs=xs.map V.int
 | [],_,.nil=>rfl
 | x::xs,_,.cons r t=>by cases r;rw[reps_intsG t];rfl
theorem reps_strsG:∀ {xs:List Str} {vs:List V},Reps X.K ι H (xs.map .str) vs->vs=xs.map V.str
 | [],_,.nil=>rfl
 | x::xs,_,.cons r t=>by cases r;rw[reps_strsG t];rfl
noncomputable def GAt (h:Heap)(g:Gk)(u:Value)(p:Addr):Prop:=∃ a o n k us1 us2,u=.ref a/\h.get? a=some o/\o.cls=.type "tuple"/\o.data=.seq #[.ref p,.ref k] n/\IsTup h p us1.toArray/\Vals (g.1.map .int) us1/\IsTup h k us2.toArray/\Vals (g.2.map .str) us2
theorem isTup_keeps {h h':Heap}{a:Addr}{its:Array Value}(kk:∀ b o,h.get? b=some o->o.cls=.type "tuple"->h'.get? b=some o)(t:IsTup h a its):IsTup h' a its:=by
 obtain⟨o,ho,hc,r⟩:=t;exact⟨o,kk _ _ ho hc,hc,r⟩
theorem GAt.keeps {h h':Heap}{g:Gk}{u:Value}{p:Addr}(kk:∀ b o,h.get? b=some o->o.cls=.type "tuple"->h'.get? b=some o)(t:GAt h g u p):GAt h' g u p:=by
 obtain⟨a,o,n,k,us1,us2,h1,h2,h3,h4,h5,h6,h7,h8⟩:=t;exact⟨a,o,n,k,us1,us2,h1,kk _ _ h2 h3,h3,h4,isTup_keeps kk h5,h6,isTup_keeps kk h7,h8⟩
theorem g_at (I:Inv X pins σ H s){g:Gk}{v:V}{u:Value}(r:Rep X.K ι H (gD g) v)(ru:RelV v u):∃ p,GAt s.heap g u p:=by
 obtain⟨vs,us,q,rv,a,o,n,rfl,ho,hc,hd⟩:=tupAt_of (d:=.non) I r ru;cases q with
 | cons q1 q =>
 cases q with
 | cons q2 q =>
 cases q;cases rv with
 | cons w1 rv =>
 cases rv with
 | cons w2 rv =>
 cases rv;obtain⟨vs1,us1,y1,z1,p,o1,n1,rfl,ho1,hc1,hd1⟩:=tupAt_of (d:=.non) I q1 w1;obtain⟨vs2,us2,y2,z2,k,o2,n2,rfl,ho2,hc2,hd2⟩:=tupAt_of (d:=.non) I q2 w2;rw[reps_intsG y1]at z1;rw[reps_strsG y2]at z2;exact⟨p,a,o,n,k,us1,us2,rfl,ho,hc,hd,⟨o1,ho1,hc1,n1,hd1⟩,z1,⟨o2,ho2,hc2,n2,hd2⟩,z2⟩
theorem g_less {prog:Program}{w:World}{g h:Gk}{u z:Value}{p q:Addr}{Q:Bool->Shared->Prop}{E:Value->Shared->Prop}(x:GAt s.heap g u p)(y:GAt s.heap h z q)(hu:A.units < cLine)(hq:Q (ltG g h) s):wpAny (model prog w) A (keyLt' (tuples' false) u z) Q E s:=by
 obtain⟨a,o,n,k,us1,us2,rfl,h2,h3,h4,h5,h6,h7,h8⟩:=x;obtain⟨a',o',n',k',us1',us2',rfl,y2,y3,y4,y5,y6,y7,y8⟩:=y;refine PySem.W.kat_lt h2 h4 y2 y4 ?_;show PySem.W.KatLex prog w A false false Q [(.ref p,.ref q),(.ref k,.ref k')] 0 s;unfold ltG at hq;refine PySem.W.kat_cons (eqAt_tupG (f:=V.int) he_int (fun a c e=>by cases e;rfl) h5 y5 h6 y6 hu prog w _ _ ?_);by_cases e:g.1=h.1
 ·rw[if_pos e]at hq
  rw[decide_eq_true e];refine PySem.W.kat_yes (PySem.W.kat_cons (eqAt_tupG (f:=V.str) he_str (fun a c e=>by cases e;rfl) h7 y7 h8 y8 hu prog w _ _ ?_));by_cases e2:g.2=h.2
  ·rw[if_pos e2]at hq
   rw[decide_eq_true e2];exact PySem.W.kat_yes (PySem.W.kat_nil hq)
  ·rw[if_neg e2]at hq
   rw[decide_eq_false e2];exact PySem.W.kat_no (PySem.W.kat_one _ _ (lt_tupG (f:=V.str) (lt:=ltSt) he_str hq_str h7 y7 h8 y8 hu hq))
 ·rw[if_neg e]at hq
  rw[decide_eq_false e];exact PySem.W.kat_no (PySem.W.kat_one _ _ (lt_tupG (f:=V.int) (lt:=ltI) he_int hq_int h5 y5 h6 y6 hu hq))
theorem g_firsts (I:Inv X pins σ H s):∀ {gs:List Gk} {vs:List V} {us:List Value},Reps X.K ι H (gs.map gD) vs->Vals vs us ->
  ∃ fs,(∀ h',(∀ b o,s.heap.get? b=some o->o.cls=.type "tuple"->h'.get? b=some o)->PySem.W.KatTups h' us fs/\∀ (M:Model),∀ f∈fs,PySem.W.Looks M h' (typeOf f) (.type "tuple"))/\fs.length=us.length
 | [],_,_,.nil,.nil=>⟨[],fun _ _=>⟨.nil,fun _ f hf=>nomatch hf⟩,rfl⟩
 | g::gs,_,_,.cons r t,.cons y k=>by
  obtain⟨fs,h1,h2⟩:=g_firsts I t k;obtain⟨p,a,o,n,k',us1,us2,rfl,ho,hc,hd,⟨o1,ho1,hc1,_⟩,_⟩:=g_at I r y;refine⟨.ref p::fs,fun h' kk=>⟨PySem.W.KatTups.cons (kk _ _ ho hc) hc hd rfl (h1 h' kk).1,fun M f hf=>?_⟩,by rw[List.length_cons,List.length_cons,h2]⟩;rcases List.mem_cons.mp hf with rfl | hf
  ·have:PySem.W.Looks M h' (typeOf (.ref p)) o1.cls:=(PySem.W.Looks.ld (kk _ _ ho1 hc1)).andThen .now
   rw[hc1]at this;exact this
  ·exact(h1 h' kk).2 M f hf
end
end L3
namespace L3
open PySem PySem.Spec PyProof.Rows L2
section
variable {X:Cx}{pins:List (Addr×Obj)}{σ:St}{H:Hp}{s:Shared}{ι:List Addr}{M:MH}
theorem adopt_all:∀ (kvs:List (Ky×D)) (ws:List (Key×V)) (rs:List (Key×Value)) (as:List Addr) (H:Hp),Inv X pins σ H s->Sim X.K ι M H->KR X.K ι H kvs ws->KV ws rs->as.length=rs.length->as.Nodup->(∀ a∈as,H a=none/\Young X pins a) ->
  (∀ (j:Nat) (a:Addr),as[j]?=some a->∃ key k x,rs[j]?=some (k,x)/\(mixKind X.prog X.w).is k key=true/\s.heap.get? a=some { cls:=.type "tuple",data:=.seq #[key,x] }) ->
  ∃ H',Inv X pins σ H' s/\Sim X.K ι M H'/\Ext X.K ι H ι H'/\Reps X.K ι H' (dicItems kvs) (as.map V.ref):=by
 intro kvs;induction kvs with
 | nil =>
  intro ws rs as H I S kr kv hl nd hy hp;cases kr;cases kv;cases as with
  | nil=>exact⟨H,I,S,Ext.refl,.nil⟩
  | cons a as=>cases hl
 | cons kd kvs ih =>
  intro ws rs as H I S kr kv hl nd hy hp;cases kr with
  | cons h1 t1 =>
   cases kv with
   | cons h2 t2 =>
    cases as with
    | nil=>cases hl
    | cons a as =>
     rename_i w1 ws r1 rs;obtain⟨k,d⟩:=kd;obtain⟨k1,v⟩:=w1;obtain⟨k2,x⟩:=r1;obtain⟨e1,q1⟩:=h1;obtain⟨e2,q2⟩:=h2;have e1:k=k1:=e1;have e2:k1=k2:=e2;subst e1;subst e2;obtain⟨key,k',x',g1,g2,g3⟩:=hp 0 a rfl;have g1':(k,x)=(k',x'):=Option.some.inj g1;obtain⟨rfl,rfl⟩:=Prod.mk.inj g1';obtain⟨ha,ya⟩:=hy a List.mem_cons_self;obtain⟨n1,n2⟩:=List.nodup_cons.mp nd;have rk:RelV (kV k) key:=by
      rcases keyIs_shape (k:=k) (v:=key) g2 with ⟨i,t,rfl,rfl⟩|⟨z,t,rfl,rfl⟩
      ·exact⟨t,rfl⟩
      ·exact⟨t,rfl⟩
     have I1:Inv X pins σ (upd H a (.tup [kV k,v])) s:=inv_adopt I ha ya ⟨by show 2<=sizeLine;decide,[key,x],.cons rk (.cons q2 .nil),⟨⟨_,g3,rfl,0,rfl⟩,fun o eo=>by rw[g3]at eo;cases eo;exact⟨rfl,rfl⟩⟩⟩;have X1:Ext X.K ι H ι (upd H a (.tup [kV k,v])):=Ext.tupN ha;obtain⟨H',I',S',X',R'⟩:=ih ws rs as _ I1 (S.tupN ha) (KR.mono X1 t1) t2 (by simpa using hl) n2 (fun b hb=>⟨by
       have hba:b≠a:=fun z=>n1 (by rw[<- z];exact hb);rw[upd_ne hba];exact(hy b (List.mem_cons_of_mem _ hb)).1,(hy b (List.mem_cons_of_mem _ hb)).2⟩)
      (fun j b hj=>hp (j + 1) b (by simpa using hj))
     have rd:Rep X.K ι H' (dK k) (kV k):=by
      cases k with
      | inl i=>exact .int i
      | inr z=>exact .str z
     exact⟨H',I',S',X1.trans X',.cons (.tup (X'.tup _ _ upd_same) (.cons rd (.cons ((Rep.mono X1 q1).mono X') .nil))) R'⟩
theorem firsts_of (I:Inv X pins σ H s){T:Value}:∀ {ds:List D} {vs:List V} {us:List Value},Reps X.K ι H ds vs->Vals vs us->(∀ d∈ds,∃ x xs,d=.tup (x::xs)/\∀ (v:V) (u:Value),Rep X.K ι H x v->RelV v u->typeOf u=pure T) ->
  ∃ fs,(∀ h',(∀ b o,s.heap.get? b=some o->o.cls=.type "tuple"->h'.get? b=some o)->PySem.W.KatTups h' us fs)/\fs.length=us.length/\∀ f∈fs,typeOf f=pure T
 | _,_,_,.nil,.nil,_=>⟨[],fun _ _=>.nil,rfl,fun _ h=>by simp at h⟩
 | d::ds,_,u::us,.cons r t,.cons g k,h=>by
  obtain⟨x,xs,rfl,hx⟩:=h d List.mem_cons_self;obtain⟨fs,h1,h2,h3⟩:=firsts_of I t k fun e he=>h e (List.mem_cons_of_mem _ he);obtain⟨vs',us',q,rv,a,o,n,rfl,ho,hc,hd⟩:=tupAt_of (d:=.non) I r g;cases q with
  | cons q1 q2 =>
   cases rv with
   | cons g1 g2 =>
    rename_i v1 vr u1 ur;refine⟨u1::fs,fun h' kk=>PySem.W.KatTups.cons (kk _ _ ho hc) hc hd (by simp) (h1 h' kk),by rw[List.length_cons,List.length_cons,h2],fun f hf=>?_⟩;rcases List.mem_cons.mp hf with rfl | hf
    ·exact hx v1 _ q1 g1
    ·exact h3 f hf
theorem vals_getD {vs:List V}{us:List Value}(r:Vals vs us)(i:Nat):RelV (vs.getD i .non) (us.getD i Value.none):=by
 rw[List.getD_eq_getElem?_getD,List.getD_eq_getElem?_getD];cases e:vs[i]? with
 | none=>rw[r.none_of e];rfl
 | some v =>
  obtain⟨u,hu,ru⟩:=r.get e;rw[hu];exact ru
theorem reps_getD {ds:List D}{vs:List V}(r:Reps X.K ι H ds vs)(i:Nat):Rep X.K ι H (ds.getD i .non) (vs.getD i .non):=by
 rw[List.getD_eq_getElem?_getD,List.getD_eq_getElem?_getD];cases e:ds[i]? with
 | none =>
  have:vs[i]?=none:=List.getElem?_eq_none_iff.mpr (by rw[<- r.length];exact List.getElem?_eq_none_iff.mp e)
  rw[this];exact .non
 | some d =>
  obtain⟨v,hv,rv⟩:=r.get e;rw[hv];exact rv
theorem vals_map {α:Type}{f:α->V}{g:α->Value}(h:∀ i,RelV (f i) (g i)):∀ l:List α,Vals (l.map f) (l.map g)
 | []=>.nil
 | i::l=>.cons (h i) (vals_map h l)
theorem reps_map {α:Type}{f:α->D}{g:α->V}(h:∀ i,Rep X.K ι H (f i) (g i)):∀ l:List α,Reps X.K ι H (l.map f) (l.map g)
 | []=>.nil
 | i::l=>.cons (h i) (reps_map h l)
theorem strsA:∀ {xs:List Str} {vs:List V} {us:List Value},Reps X.K ι H (xs.map .str) vs->Vals vs us->StrsAre us xs
 | [],_,_,.nil,.nil=>.nil
 | x::xs,_,_,.cons r t,.cons g k=>by
  cases r;obtain⟨t',rfl⟩:=g;exact .cons x t' (strsA t k)
theorem ofStrsA:∀ {xs:List Str} {us:List Value},StrsAre us xs->Vals (xs.map V.str) us/\Reps X.K ι H (xs.map .str) (xs.map V.str)
 | _,_,.nil=>⟨.nil,.nil⟩
 | _,_,.cons x t h=>⟨.cons ⟨t,rfl⟩ (ofStrsA h).1,.cons (.str x) (ofStrsA h).2⟩
theorem ofIntsA:∀ {xs:List Int} {us:List Value},IntsAre us xs->Vals (xs.map V.int) us/\Reps X.K ι H (xs.map .int) (xs.map V.int)
 | _,_,.nil=>⟨.nil,.nil⟩
 | _,_,.cons x t h=>⟨.cons ⟨t,rfl⟩ (ofIntsA h).1,.cons (.int x) (ofIntsA h).2⟩
theorem rising_pw:∀ {p:Str} {l:List Str},risingS p l=true->(p::l).Pairwise fun a b=>leS a b=true
 | p,[],_=>List.pairwise_singleton _ _
 | p,x::r,h=>by
  have h:(!ltCps x.cps.toList p.cps.toList&&risingS x r)=true:=h;rw[Bool.and_eq_true,ltCps_eq]at h;have h2:=rising_pw h.2;refine List.pairwise_cons.mpr ⟨fun b hb=>?_,h2⟩;rcases List.mem_cons.mp hb with rfl | hb
  ·exact h.1
  ·exact leS_trans _ _ _ h.1 (List.rel_of_pairwise_cons h2 hb)
theorem sorted_pw {l:List Str}(h:sortedS l=true):l.Pairwise fun a b=>leS a b=true:=by
 cases l with
 | nil=>exact .nil
 | cons x r=>exact rising_pw h
theorem sort_tracked {A:Around}{E:Value->Shared->Prop}(hu:A.units + 10 < cLine)(I:Inv X pins σ H s){l:Addr}{vs:List V}{ds ys:List D}(hl:H l=some (.lst vs))(r:Reps X.K ι H ds vs)(hs:sortD ds=some ys){Q:Value->Shared->Prop}
  (q:∀ (ws:List V) (s':Shared),Reps X.K ι H ys ws->Inv X pins σ (upd H l (.lst ws)) s'->Q .none s'):wpAny (model X.prog X.w) A (call (.builtin "list.sort") [.ref l]) Q E s:=by
 obtain⟨hz,its,n,rv,hg⟩:=I.hok l _ hl;have hlen:ds.length=its.length:=by rw[r.length,rv.length]
 have fin:∀ (ws:List V) (us:List Value) (h':Heap) (c:Nat),Reps X.K ι H ys ws->Vals ws us->ws.length<=sizeLine->(∀ b o,b≠l->s.heap.get? b=some o->h'.get? b=some o)->h'.get? l=some (seqObj "list" us.toArray c)->Q .none { s with heap:=h' }:=fun ws us h' c hr hv hw kk hg' =>
  q ws _ hr (I.write (x:=l) (e:=l) (t':=s.toks) (by rw[hl];trivial) (.inl rfl) kk ⟨_,hg'⟩ ⟨hw,us,c,hv,hg'⟩)
 refine wpAny_call_entry slot_list_sort ⟨_,hg,rfl⟩ entry_list_sort ?_ (args_list_sort _);have hout:∀ {out:Array Value} (b:Addr) (o:Obj),b≠l->s.heap.get? b=some o->(sortedHeap s.heap l its out).get? b=some o:=fun b o hb e=>by
  rw[sortedHeap_old hb (Heap.lt_size e)];exact e
 unfold sortD at hs;split at hs
 ·rename_i ys' hf
  split at hs
  ·rename_i h64
   cases hs;have h64':its.length < 64:=by rw[<- hlen];exact h64
   unfold sortF at hf;split at hf
   ·rename_i xs hx
    cases hf;have ex:=allS_eq hx;subst ex;have hS:=strsA r rv;refine list_sort_treeK strKind_oneLt hg hS.keysOf (fun v₁ v₂ rest e=>keyKind_strs (by rw[<- e];exact hS)) h64' fun st' hp hs=>?_;obtain⟨ss',h1,h2,h3⟩:=sorted_out_str hS hp hs;have e:=sortS_uniq h2 (sorted_pw h3);subst e;obtain⟨g1,g2⟩:=ofStrsA (X:=X) (H:=H) (ι:=ι) h1;obtain⟨c,hc⟩:=sortedHeap_at (out:=(arrOf st').map (·.2)) hg;exact⟨_,rfl,fin _ _ _ c g2 g1 (by rw[List.length_map,(sortS_perm xs).length_eq,sizeLine_eq];rw[List.length_map]at h64;omega) hout (by rw[hc])⟩
   ·split at hf
    ·rename_i xs hx
     cases hf;have ex:=allI_eq hx;subst ex;have hS:=intsA r rv;refine list_sort_tree hg hS h64' fun out ss' h1 h2 h3=>?_;have e:=sortI_uniq h2 h3;subst e;obtain⟨g1,g2⟩:=ofIntsA (X:=X) (H:=H) (ι:=ι) h1;obtain⟨c,hc⟩:=sortedHeap_at (out:=out) hg;exact⟨_,rfl,fin _ _ _ c g2 g1 (by rw[List.length_map,(sortI_perm xs).length_eq,sizeLine_eq];rw[List.length_map]at h64;omega) hout (by rw[hc])⟩
    ·cases hf
  ·cases hs
 unfold sortQ at hs;split at hs
 ·rename_i ys' hp
  cases hs;unfold sortP at hp;split at hp
  ·rename_i gs hgs
   have eg:=gsP_eq hgs;subst eg;split at hp
   ·rename_i h2
    simp only[Bool.and_eq_true,decide_eq_true_eq]at h2;cases he:evalK (cmpP gs) (PySem.W.kas_sort (gs.map gD).length) with
    | none=>rw[he]at hp;cases hp
    | some p =>
     rw[he]at hp;simp only[Option.map_some,Option.some.injEq]at hp;subst hp;obtain⟨fs,f1,f2⟩:=g_firsts I r rv;have tk:∀ {h':Heap},(∀ b o,b≠l->s.heap.get? b=some o->h'.get? b=some o)->∀ b o,s.heap.get? b=some o->o.cls=.type "tuple"->h'.get? b=some o:=fun {h'} kk b o e hc=>kk b o (fun z=>by
      subst z;rw[hg]at e;cases e;exact absurd hc (by show ¬ (Value.type "list" = Value.type "tuple");decide)) e
     refine list_sort_any (κ:=tuples' false) (lt:=cmpP gs) (p:=p) hg (by omega) (by omega) (fun h' kk Q' hq=>?_) (fun h' kk i j b C hlt hC=>?_) (by rw[<- hlen];exact he) (fun h' c hps kk hg'=>?_)
     ·exact PySem.W.kat_kind (f1 h' (tk kk)).1 (by rw[f2];omega) ((f1 h' (tk kk)).2 _) (by decide) hq
     ·unfold cmpP at hlt
      split at hlt
      ·rename_i g1 g2 hx hy
       cases hlt;obtain⟨v1,hv1,q1⟩:=r.get (i:=i) (d:=gD g1) (by rw[List.getElem?_map,hx];rfl);obtain⟨v2,hv2,q2⟩:=r.get (i:=j) (d:=gD g2) (by rw[List.getElem?_map,hy];rfl);obtain⟨u1,hu1,ru1⟩:=rv.get hv1;obtain⟨u2,hu2,ru2⟩:=rv.get hv2;obtain⟨p1,a1⟩:=g_at I q1 ru1;obtain⟨p2,a2⟩:=g_at I q2 ru2;unfold PySem.W.kas_ask;have z1:its.getD i Value.none=u1:=by rw[List.getD_eq_getElem?_getD,hu1];rfl
       have z2:its.getD j Value.none=u2:=by rw[List.getD_eq_getElem?_getD,hu2];rfl
       rw[z1,z2];exact g_less (s:={ s with heap:=h' }) (a1.keeps (tk kk)) (a2.keeps (tk kk)) (by show A.units + 1 < cLine;omega) hC
      ·cases hlt
     ·refine⟨_,rfl,fin (p.toList.map fun i=>vs.getD i .non) _ h' c (reps_map (fun i=>reps_getD r i) _) (vals_map (fun i=>vals_getD rv i) _) ?_ kk hg'⟩
      rw[List.length_map,Array.length_toList,hps,sizeLine_eq];omega
   ·cases hp
  ·cases hp
 unfold sortT at hs;split at hs
 ·rename_i h2
  cases hs;exact list_sort_small hg (by rw[<- hlen];exact h2) fun h' c kk hg'=>⟨_,rfl,fin vs its h' c r rv hz kk hg'⟩
 ·rename_i h2
  split at hs
  ·rename_i hb
   simp only[Bool.and_eq_true,decide_eq_true_eq,Bool.or_eq_true]at hb;cases he:evalK (cmpT ds) (PySem.W.kas_sort ds.length) with
   | none=>rw[he]at hs;cases hs
   | some p =>
    rw[he]at hs;simp only[Option.map_some,Option.some.injEq]at hs;subst hs;have key:∀ T:Value,(T==T)=true->(∀ d∈ds,∃ x xs,d=.tup (x::xs)/\∀ (v:V) (u:Value),Rep X.K ι H x v->RelV v u->typeOf u=pure T)->T≠.type "tuple" ->
      wpAny (model X.prog X.w) A.in1 (Builtin.«list.sort» ⟨[.ref l],[]⟩) (fun fin s'=>∃ v,fin=.done (.ret v)/\Q v s') E s:=fun T hT hd hne=>by
     obtain⟨fs,f1,f2,f3⟩:=firsts_of I r rv hd;have tk:∀ {h':Heap},(∀ b o,b≠l->s.heap.get? b=some o->h'.get? b=some o)->∀ b o,s.heap.get? b=some o->o.cls=.type "tuple"->h'.get? b=some o:=fun {h'} kk b o e hc=>kk b o (fun z=>by
      subst z;rw[hg]at e;cases e;exact absurd hc (by show ¬ (Value.type "list" = Value.type "tuple");decide)) e
     refine list_sort_any (κ:=tuples' (T != Value.type "tuple")) (lt:=cmpT ds) (p:=p) hg (by first | lia | omega) (by first | lia | omega) (fun h' kk Q' hq=>?_) (fun h' kk i j b C hlt hC=>?_) (by rw[<- hlen];exact he) (fun h' c hps kk hg'=>?_)
     ·exact PySem.W.kat_kind (f1 h' (tk kk)) (by rw[f2];omega) (fun f hf=>PySem.W.Looks.of_pure (f3 f hf)) hT hq
     ·unfold cmpT at hlt
      split at hlt
      ·rename_i xs ys hx hy
       obtain⟨v1,hv1,q1⟩:=r.get hx;obtain⟨v2,hv2,q2⟩:=r.get hy;obtain⟨u1,hu1,ru1⟩:=rv.get hv1;obtain⟨u2,hu2,ru2⟩:=rv.get hv2;have hmx:=hd _ (List.mem_of_getElem? hx);have hmy:=hd _ (List.mem_of_getElem? hy);obtain⟨vs1,us1,g1,g2,a1,o1,n1,e1,ho1,hc1,hd1⟩:=tupAt_of (d:=.non) I q1 ru1;obtain⟨vs2,us2,k1,k2,a2,o2,n2,e2,ho2,hc2,hd2⟩:=tupAt_of (d:=.non) I q2 ru2;unfold PySem.W.kas_ask;have z1:its.getD i Value.none=.ref a1:=by rw[List.getD_eq_getElem?_getD,hu1,e1];rfl
       have z2:its.getD j Value.none=.ref a2:=by rw[List.getD_eq_getElem?_getD,hu2,e2];rfl
       rw[z1,z2];refine PySem.W.kat_lt (s:={ s with heap:=h' }) (tk kk _ _ ho1 hc1) hd1 (tk kk _ _ ho2 hc2) hd2 ?_;refine lex_wp (X:=X) (xs:=xs) (ys:=ys) g1 k1 (by simpa using g2) (by simpa using k2) hlt ?_ hC ?_
       ·have l1:=g1.length
        have l2:=g2.length;have l3:=k1.length;have l4:=k2.length;simp only[List.size_toArray];congr 1;rw[eq_iff_iff];first | lia | omega
       ·intro _ _
        obtain⟨x,xr,ex,hx'⟩:=hmx;obtain⟨y,yr,ey,hy'⟩:=hmy;cases ex;cases ey;rcases hb.2 with z | z
        ·have a1:=List.all_eq_true.mp z _ (List.mem_of_getElem? hx)
         have a2:=List.all_eq_true.mp z _ (List.mem_of_getElem? hy);cases x <;> simp[firstStr]at a1;cases y <;> simp[firstStr]at a2;exact⟨_,_,_,_,rfl,rfl,.inl ⟨_,_,rfl,rfl⟩⟩
        ·have a1:=List.all_eq_true.mp z _ (List.mem_of_getElem? hx)
         have a2:=List.all_eq_true.mp z _ (List.mem_of_getElem? hy);cases x <;> simp[firstInt]at a1;cases y <;> simp[firstInt]at a2;exact⟨_,_,_,_,rfl,rfl,.inr ⟨_,_,rfl,rfl⟩⟩
      ·cases hlt
     ·refine⟨_,rfl,fin (p.toList.map fun i=>vs.getD i .non) _ h' c (reps_map (fun i=>reps_getD r i) _) (vals_map (fun i=>vals_getD rv i) _) ?_ kk hg'⟩
      rw[List.length_map,Array.length_toList,hps,sizeLine_eq];omega
    rcases hb.2 with z | z
    ·refine key (.type "str") (by decide) (fun d hd=>?_) (by decide)
     have a1:=List.all_eq_true.mp z _ hd;cases d <;> simp[firstStr]at a1;rename_i ds';cases ds' with
     | nil=>simp[firstStr]at a1
     | cons x xs =>
      cases x <;> simp[firstStr]at a1;refine⟨_,_,rfl,fun v u r1 r2=>?_⟩;cases r1;obtain⟨t,rfl⟩:=r2;rfl
    ·refine key (.type "int") (by decide) (fun d hd=>?_) (by decide)
     have a1:=List.all_eq_true.mp z _ hd;cases d <;> simp[firstInt]at a1;rename_i ds';cases ds' with
     | nil=>simp[firstInt]at a1
     | cons x xs =>
      cases x <;> simp[firstInt]at a1;refine⟨_,_,rfl,fun v u r1 r2=>?_⟩;cases r1;obtain⟨t,rfl⟩:=r2;rfl
  ·cases hs
end
end L3
namespace L3
open PySem PySem.Spec PyProof.Rows L2
section
variable {X:Cx}
noncomputable def rItems:V->List V->Hp->VK->Prop:=fun x vs H Q=>∃ a kvs,x=.ref a/\vs=[]/\H a=some (.dK kvs)/\∀ p,H p=none->Q (.ref p) (upd H p (.ext fun h=>h.IsItemsView p a))
theorem mt_items:MtR X "dict.items" rItems:=by
 intro pins s σ H x xs v us Q I rx rv h;obtain⟨a,kvs,rfl,rfl,ha,q⟩:=h;cases rx;cases rv;obtain⟨z,hd,vs,rel,dd⟩:=dk_rd I.hok (.inl ha);refine call_meetsIn PySem.F.slot_dict_items dd.typeIs PySem.F.entry_dict_items (PySem.F.args_dict_items_1 _) (meets_dict_items (mixKind X.prog X.w) a hd) ⟨⟨vs,dd⟩,?_⟩;refine⟨.ref s.heap.objs.size,_,I.laid (t':=s.toks) (o:=.ext fun h=>h.IsItemsView s.heap.objs.size a) (fun b o e=>Heap.get?_push_of_some _ e) (Nat.le_refl _) ?_,rfl,q _ (I.hok.fresh (Nat.le_refl _))⟩;exact⟨⟨_,Heap.get?_push_size _ rfl,rfl,rfl⟩,⟨_,Heap.get?_push_size _ rfl⟩,fun h1 h2 ⟨o,e1,e2⟩ k=>⟨o,k o e1,e2⟩⟩
theorem call_sortedI (hc:X.calm=true)(hu:X.A.units + 100 < cLine):CallR X (.builtin "sorted") (fun xs H Q=>∃ p a ws ι M kvs ys,xs=[.ref p]/\H p=some (.ext fun h=>h.IsItemsView p a)/\H a=some (.dK ws)/\Sim X.K ι M H/\KR X.K ι H kvs ws/\sortD (dicItems kvs)=some ys /\
  ∀ v H' ι',Rep X.K ι' H' (.ob M.length) v->Sim X.K ι' (M++[.lst ys]) H'->Ext X.K ι H ι' H'->Q v H'):=by
 intro pins s σ H xs us Q I rv h;obtain⟨p,a,ws,ι,M,kvs,ys,rfl,hp,ha,S,kr,hs,k⟩:=h;obtain⟨u,rfl,ru⟩:=vals1 rv;cases ru;obtain⟨z,hd,rs,rel,dd⟩:=dk_rd I.hok (.inl ha);obtain⟨ep,hat⟩:=dd.dictAt;obtain⟨vw,_,_⟩:=I.hok p _ hp;have hh:X.A.in1.handled=none:=I.ok.hd hc;have hlen:rs.length<=sizeLine:=by rw[<- rel.length];exact z
 refine Calls.call_function_entry kind_sorted plain_sorted entry_sorted (args_sorted1 _) ?_;unfold Builtin.«sorted»;refine wpAny_bind (m:=checkCount "sorted" 1 1 _) (wpAny_pure ?_);refine wpAny_bind (PySem.W.kdx_collect (A:=X.A.in1) (knd:=mixKind X.prog X.w) (kvs:=rs) (ep:=ep) hh vw hat hlen fun h' tk as hk hl hG=>?_);have I1:Inv X pins σ H { s with heap:=h',toks:=tk }:=I.kept hk;have hnd:as.Nodup:=hG.rise.imp fun hlt=>Nat.ne_of_lt hlt;obtain⟨H2,I2,S2,X2,R2⟩:=adopt_all kvs ws rs as H I1 S kr rel hl hnd (fun b hb=>⟨I.hok.fresh (Nat.le_of_lt (hG.above b hb)),young_of I (Nat.le_of_lt (hG.above b hb))⟩) hG.pairs;refine wpAny_bind (wpAny_newList ?_ (by rw[List.length_map,hl];exact hlen));have rvs:∀ l:List Addr,Vals (l.map V.ref) (l.map Value.ref):=fun l=>by
  induction l with
  | nil=>exact .nil
  | cons x r ih=>exact .cons rfl ih
 have fr:H2 h'.objs.size=none:=I2.hok.fresh (Nat.le_refl _);have I3:Inv X pins σ (upd H2 h'.objs.size (.lst (as.map V.ref))) { s with heap:=h'.push { cls:=.type "list",data:=.seq (as.map Value.ref).toArray },toks:=tk } :=
  I2.laid (fun b o e=>Heap.get?_push_of_some _ e) (Nat.le_refl _) ⟨by rw[List.length_map,hl];exact hlen,as.map Value.ref,0,rvs as,Heap.get?_push_size _ rfl⟩
 have X3:Ext X.K ι H2 (ι++[h'.objs.size]) (upd H2 h'.objs.size (.lst (as.map V.ref))):=Ext.new fr;have R3:=R2.mono (Ext.tupN (ho:=.lst (as.map V.ref)) fr);refine wpAny_bind (wpAny_holding (sort_tracked (ι:=ι) (by first | (show X.A.units + 1 + 10 < cLine;omega) | (show X.A.units + 10 < cLine;omega)) I3 upd_same R3 hs fun ws' s' hr hI=>?_))
 refine wpAny_pure ⟨_,rfl,?_⟩;rw[upd_upd]at hI;have X4:Ext X.K ι H2 (ι++[h'.objs.size]) (upd H2 h'.objs.size (.lst ws')):=Ext.new fr;have W:Ext X.K ι (upd H2 h'.objs.size (.lst (as.map V.ref))) ι (upd (upd H2 h'.objs.size (.lst (as.map V.ref))) h'.objs.size (.lst ws')):=Ext.write upd_same (mut_l _);rw[upd_upd]at W;have R4:Reps X.K (ι++[h'.objs.size]) (upd H2 h'.objs.size (.lst ws')) ys ws':=hr.mono { W with pre:=fun i b e=>(by rw[List.getElem?_append_left (List.getElem?_eq_some_iff.mp e).1];exact e) };exact⟨.ref h'.objs.size,_,hI,rfl,k _ _ _ (.ob (by rw[<- S.len,List.getElem?_append_right (Nat.le_refl _),Nat.sub_self];rfl)) (S2.new fr ⟨ws',rfl,R4⟩) (X2.trans X4)⟩
end
section
variable {X:Cx}
theorem call_sortedL (hu:X.A.units + 100 < cLine):CallR X (.builtin "sorted") (fun xs H Q=>∃ p vs ι M ds ys,xs=[.ref p]/\SqL X.K H p vs/\Sim X.K ι M H/\Reps X.K ι H ds vs/\sortD ds=some ys /\
  ∀ v H' ι',Rep X.K ι' H' (.ob M.length) v->Sim X.K ι' (M++[.lst ys]) H'->Ext X.K ι H ι' H'->Q v H'):=by
 intro pins s σ H xs us Q I rv h;obtain⟨p,vs,ι,M,ds,ys,rfl,hp,S,r,hs,k⟩:=h;obtain⟨u,rfl,ru⟩:=vals1 rv;cases ru;obtain⟨its,rel,pl,hz⟩:=I.list hp;have hl:its.length<=sizeLine:=by rw[<- rel.length];exact hz
 refine Calls.call_function_entry kind_sorted plain_sorted entry_sorted (args_sorted1 _) ?_;unfold Builtin.«sorted»;refine wpAny_bind (m:=checkCount "sorted" 1 1 _) (wpAny_pure ?_);refine wpAny_bind (collect_list pl.isList ?_ hl);generalize hh:(s.heap.push (seqObj "list" #[] 0)).update s.heap.objs.size (Obj.mapSeq (·++its.toArray))=h';have keep:∀ b o,s.heap.get? b=some o->h'.get? b=some o:=fun b o q=>by
  have hlt:b < s.heap.objs.size:=Heap.lt_size q;rw[<- hh,Heap.get?_update_ne _ _ _ _ (Nat.ne_of_lt hlt),Heap.get?_push_ne _ _ _ (Nat.ne_of_lt hlt)];exact q
 have I1:Inv X pins σ H { s with heap:=h' }:=I.kept (t':=s.toks) keep;refine wpAny_bind (wpAny_newList ?_ hl);have fr:H h'.objs.size=none:=I1.hok.fresh (Nat.le_refl _);have I3:Inv X pins σ (upd H h'.objs.size (.lst vs)) { s with heap:=h'.push { cls:=.type "list",data:=.seq its.toArray } } :=
  I1.laid (t':=s.toks) (fun b o e=>Heap.get?_push_of_some _ e) (Nat.le_refl _) ⟨hz,its,0,rel,Heap.get?_push_size _ rfl⟩
 have R3:=r.mono (Ext.tupN (ho:=.lst vs) fr);refine wpAny_bind (wpAny_holding (sort_tracked (ι:=ι) (by first | (show X.A.units + 1 + 10 < cLine;omega) | (show X.A.units + 10 < cLine;omega)) I3 upd_same R3 hs fun ws' s' hr hI=>?_))
 refine wpAny_pure ⟨_,rfl,?_⟩;rw[upd_upd]at hI;have X4:Ext X.K ι H (ι++[h'.objs.size]) (upd H h'.objs.size (.lst ws')):=Ext.new fr;have W:Ext X.K ι (upd H h'.objs.size (.lst vs)) ι (upd (upd H h'.objs.size (.lst vs)) h'.objs.size (.lst ws')):=Ext.write upd_same (mut_l _);rw[upd_upd]at W;have R4:Reps X.K (ι++[h'.objs.size]) (upd H h'.objs.size (.lst ws')) ys ws':=hr.mono { W with pre:=fun i b e=>(by rw[List.getElem?_append_left (List.getElem?_eq_some_iff.mp e).1];exact e) };exact⟨.ref h'.objs.size,_,hI,rfl,k _ _ _ (.ob (by rw[<- S.len,List.getElem?_append_right (Nat.le_refl _),Nat.sub_self];rfl)) (S.new fr ⟨ws',rfl,R4⟩) X4⟩
end
theorem srt_l {Γ:Ctx}(hs:Γ.srt=sortD):SrtL Γ:=by
 intro S X f a p1 p4 fa C h hp ha;simp only[Bool.and_eq_true,beq_iff_eq]at h;obtain⟨⟨⟨h1,h2⟩,h3⟩,h4⟩:=h;subst h1;obtain⟨o1,o2,o3⟩:=okName_debug h2;refine PE.imp (pe_callB (call_sortedL C.hu) (C.glo h3) (C.bls _ (mem_of_contains h4)) PyProof.Rows.boot_sorted (pa_cons ha pa_nil (star_plain hp)) o3 o1 (star_plain hp) rfl) fun σ H Q q=>?_;obtain⟨ι,ρ,M,d,M',S',R,e,k⟩:=q;obtain⟨x,M1,e1,ea⟩:=bind_ok e;obtain⟨ds,M2,e2,eb⟩:=bind_ok ea;obtain⟨ys,M3,e3,ec⟩:=bind_ok eb;obtain⟨hy,hM3⟩:=lift_ok e3;rw[hM3]at ec;refine⟨ι,ρ,M,x,M1,S',R,e1,fun v1 H1 ι1 r1 S1 X1=>?_⟩;have fact:M2=M1/\∃ p vs,v1=.ref p/\SqL X.K H1 p vs/\Reps X.K ι1 H1 ds vs:=by
  cases r1 with
  | fl t q=>obtain⟨rfl,rfl⟩:=pure_ok e2;exact⟨rfl,_,_,rfl,t.seq,q⟩
  | ob t =>
   obtain⟨g,rfl⟩:=getL_ok e2;obtain⟨p,ws,g1,g2,g3,g4⟩:=sim_list S1 (.ob t) g;exact⟨rfl,p,ws,g1,SqL.of g3,g4⟩
  | _=>exact(stop_ok e2).elim
 obtain⟨rfl,p,vs,rfl,hq,hr⟩:=fact;obtain⟨rfl,rfl⟩:=newM_ok ec;exact⟨p,vs,ι1,_,ds,ys,rfl,hq,S1,hr,by rw[<- hs];exact hy,fun v H' ι' r' S'' X'=>k v H' ι' r' S'' (X1.trans X')⟩
theorem srt_i {Γ:Ctx}(hs:Γ.srt=sortD):SrtI Γ:=by
 intro S X f m o p1 p2 p3 p4 fo C h ho hb;simp only[Bool.and_eq_true,beq_iff_eq]at h;obtain⟨⟨⟨⟨⟨h1,h2⟩,h3⟩,h4⟩,h5⟩,h6⟩:=h;subst h1 h2;obtain⟨o1,o2,o3⟩:=okName_debug h4;have pi:=pe_bm0 (X:=X) (apos:=p2) (cpos:=p3) PySem.F.plainAttrs_dict PySem.F.slot_dict_items PySem.F.type_dict_items mt_items ho (hb _ _) (by simpa using h3);refine PE.imp (pe_callB (call_sortedI C.calm C.hu) (C.glo h5) (C.bls _ (mem_of_contains h6)) PyProof.Rows.boot_sorted (pa_cons pi pa_nil) o3 o1) fun σ H Q q=>?_;obtain⟨ι,ρ,M,d,M',S',R,e,k⟩:=q;obtain⟨x,M1,e1,e⟩:=bind_ok e;refine⟨ι,ρ,M,x,M1,S',R,e1,fun v1 H1 ι1 r1 S1 X1=>?_⟩;cases r1 with
 | ob t =>
  rename_i k0 a0;obtain⟨kvs,M2,e2,e⟩:=bind_ok e;have e20:=getD_ok e2;obtain⟨g,hM⟩:=e20;rw[hM]at e;obtain⟨ys,M3,e3,e⟩:=bind_ok e;obtain⟨hy,hM3⟩:=lift_ok e3;rw[hM3]at e;obtain⟨rfl,rfl⟩:=newM_ok e;obtain⟨a,ws,g1,g2,g3,g4⟩:=sim_dict S1 (.ob t) g;cases g1;refine⟨.inr (.inr (.inl ⟨rfl,.inl ⟨ws,g3⟩⟩)),_,ws,rfl,rfl,g3,fun p hp=>?_⟩;have X2:Ext X.K ι1 H1 ι1 (upd H1 p (.ext fun h=>h.IsItemsView p a0)):=Ext.tupN hp;refine⟨p,a0,ws,ι1,M1,kvs,ys,rfl,upd_same,by rw[upd_ne (ne_of_none g3 hp)];exact g3,S1.tupN hp,KR.mono X2 g4,by rw[<- hs];exact hy,fun v H' ι' r' S'' X'=>k v H' ι' r' S'' ((X1.trans X2).trans X')⟩
 | _=>exact(stop_ok e).elim
end L3
namespace L3
open PySem PySem.Spec PyProof.Rows L2
section
variable {prog:Program}{w:World}{A:Around}{E:Value->Shared->Prop}{s:Shared}
theorem it_rawT {a:Addr}{ob:Obj}{es:Array DictEntry}{ep:Nat}{Q:Value->Shared->Prop}(hn:(a==sysModules)=false)(g1:s.heap.get? a=some ob)(gx:ob.ExactDict)(g2:ob.data=.dict es ep)
  (q:Q (.ref s.heap.objs.size) { s with heap:=s.heap.push { cls:=.type "dict_keyiterator",data:=.fields #[.ref a,.int 0 0,.int es.size 0,.int ep 0] } }):wpAny (model prog w) A (pyIter (.ref a)) Q E s:=by
 have ty:s.TypeIs (.ref a) "dict":=⟨ob,g1,gx.1⟩;refine wpAny_pyIter_slot ty F.slot_dict_iter (wpAny_call_entry F.slot_dict_iter ty F.entry_dict_iter ?_ (F.args_dict_iter_1 _));unfold Builtin.«dict.__iter__»;refine wpAny_bind ?_;unfold Builtin.Dict.dictSlotNone;refine wpAny_bind (wpAny_notOrdered_dict ty ?_);show wpAny _ _ (pure (Value.ref a)) _ _ s;refine wpAny_pure ?_;show wpAny _ _ (Builtin.Dict.showsAll a >>= _) _ _ s;unfold Builtin.Dict.showsAll;rw[if_neg (by rw[hn];exact Bool.false_ne_true)];refine wpAny_bind (wpAny_pure (wpAny_bind (wpAny_dictEntries g1 g2 (wpAny_bind (wpAny_dictEpoch g1 g2 ?_)))));refine wpAny_bind (wpAny_newObj_type (wpAny_pure ⟨_,rfl,"dict_keyiterator",_,⟨_,Heap.get?_push_size _ rfl,rfl⟩,F.slot_dict_keyiterator_next.lookup,?_⟩));simpa [rawInt] using q
theorem nx_itemT {it a:Addr}{ob:Obj}{es:Array DictEntry}{i ep:Nat}{en:DictEntry}{Q:Option Value->Shared->Prop}(t:s.heap.IsKeyIter it a i es.size ep)(g1:s.heap.get? a=some ob)(g2:ob.data=.dict es ep)(hx:es[i]?=some en)
  (q:∀ h',h'.IsKeyIter it a (i + 1) es.size ep->Heap.SameBut it s.heap h'->Q (some en.key) { s with heap:=h' }):wpAny (model prog w) A (pyNext (.ref it)) Q E s:=by
 obtain⟨oi,k1,k2,k3⟩:=id t;unfold pyNext;refine wpAny_bind (wpAny_attempt (wpAny_callSpecial?_slot (name:=Str.ofString "__next__") t.typeIs F.slot_dict_keyiterator_next
  (wpAny_call_entry F.slot_dict_keyiterator_next t.typeIs F.entry_dict_keyiterator_next ?_ (F.args_dict_keyiterator_next_1 _))))
 refine wpAny_bind (wpAny_pure (wpAny_bind (wpAny_bind ?_)));first | refine wpAny_bind (wpAny_typeNameOfWhole_keyiter t.typeIs (wpAny_pure ?_)) | refine wpAny_bind (wpAny_typeNameOf_keyiter t.typeIs (wpAny_pure ?_))
 refine wpAny_bind (wpAny_fieldsOf k1 k3 ?_);simp only[show Builtin.Dict_items.ownsTuple "dict_keyiterator" = false by decide,Bool.false_eq_true,if_false];show wpAny _ _ (if (Value.ref a==Value.none)=true then _ else _) _ _ s;rw[if_neg (show ¬ ((Value.ref a==Value.none)=true) from Bool.false_ne_true)];refine wpAny_bind (wpAny_pure (wpAny_bind (wpAny_dictEntries g1 g2 ?_)));rw[if_neg (by simp)];refine wpAny_bind (wpAny_pure (wpAny_bind (wpAny_dictEpoch g1 g2 ?_)));rw[if_neg (by simp)];refine wpAny_pure ?_;obtain⟨lt,hxe⟩:=Array.getElem?_eq_some_iff.mp hx;simp only[show ¬ ((i:Int) < 0) from by omega,if_false,Int.toNat_natCast,Array.getElem?_eq_getElem lt,hxe];refine wpAny_bind ?_;first | refine wpAny_bind (wpAny_typeNameOfWhole_keyiter t.typeIs (wpAny_pure ?_)) | refine wpAny_bind (wpAny_typeNameOf_keyiter t.typeIs (wpAny_pure ?_))
 refine wpAny_bind (wpAny_isOneOf_keyiter t.typeIs ?_);show wpAny _ _ (setField (.ref it) 1 (rawInt ((i:Int) + 1)) >>= _) _ _ s;refine wpAny_bind (wpAny_setField k1 k3 (by simp) ?_);have t':(s.heap.update it (Obj.mapFields (·.setIfInBounds 1 (rawInt ((i:Int) + 1))))).IsKeyIter it a (i + 1) es.size ep :=
  ⟨_,Heap.get?_update_self _ k1 (Obj.isFreed_of_fields (Obj.data_mapFields k3 _)),(Obj.cls_mapFields ..).trans k2,by rw[Obj.data_mapFields k3];simp[rawInt]⟩
 refine wpAny_bind (wpAny_holding (wpAny_bind (wpAny_isOneOf_keyiter (s:={ s with heap:=s.heap.update it (Obj.mapFields (·.setIfInBounds 1 (rawInt ((i:Int) + 1)))) }) t'.typeIs ?_)));show wpAny _ _ (pure en.key) _ _ _;exact wpAny_pure (wpAny_pure ⟨_,rfl,wpAny_pure (q _ t' (Heap.SameBut.update ..))⟩)
theorem nx_endT {it a:Addr}{ob:Obj}{es:Array DictEntry}{i ep:Nat}{Q:Option Value->Shared->Prop}(hh:A.handled=none)(t:s.heap.IsKeyIter it a i es.size ep)(g1:s.heap.get? a=some ob)(g2:ob.data=.dict es ep)(ge:es.size<=i)
  (q:∀ h',Heap.ExtBut it s.heap h'->Q none { s with heap:=h' }):wpAny (model prog w) A (pyNext (.ref it)) Q E s:=by
 obtain⟨oi,k1,k2,k3⟩:=id t;unfold pyNext;refine wpAny_bind (wpAny_attempt (wpAny_callSpecial?_slot (name:=Str.ofString "__next__") t.typeIs F.slot_dict_keyiterator_next
  (wpAny_call_entry F.slot_dict_keyiterator_next t.typeIs F.entry_dict_keyiterator_next ?_ (F.args_dict_keyiterator_next_1 _))))
 refine wpAny_bind (wpAny_pure (wpAny_bind (wpAny_bind ?_)));first | refine wpAny_bind (wpAny_typeNameOfWhole_keyiter t.typeIs (wpAny_pure ?_)) | refine wpAny_bind (wpAny_typeNameOf_keyiter t.typeIs (wpAny_pure ?_))
 refine wpAny_bind (wpAny_fieldsOf k1 k3 ?_);simp only[show Builtin.Dict_items.ownsTuple "dict_keyiterator" = false by decide,Bool.false_eq_true,if_false];show wpAny _ _ (if (Value.ref a==Value.none)=true then _ else _) _ _ s;rw[if_neg (show ¬ ((Value.ref a==Value.none)=true) from Bool.false_ne_true)];refine wpAny_bind (wpAny_pure (wpAny_bind (wpAny_dictEntries g1 g2 ?_)));rw[if_neg (by simp)];refine wpAny_bind (wpAny_pure (wpAny_bind (wpAny_dictEpoch g1 g2 ?_)));rw[if_neg (by simp)];refine wpAny_pure ?_;simp only[show ¬ ((i:Int) < 0) from by omega,if_false,Int.toNat_natCast,Array.getElem?_eq_none ge];refine wpAny_bind ?_;first | refine wpAny_bind (wpAny_typeNameOfWhole_keyiter t.typeIs (wpAny_pure ?_)) | refine wpAny_bind (wpAny_typeNameOf_keyiter t.typeIs (wpAny_pure ?_))
 show wpAny _ _ (setField (.ref it) 0 .none >>= _) _ _ s;refine wpAny_bind (wpAny_setField k1 k3 (by simp) ?_);show wpAny _ _ (newExc (.type "StopIteration") [] >>= fun _=>_) _ _ _;refine wpAny_bind ?_;simp only[newExc,newTuple];refine wpAny_bind (wpAny_newObj_type (wpAny_bind (m:=firstArgMember _ _) (wpAny_of_eq (a:=Value.none) (by first | rfl | (simp only[firstArgMember];rfl)) ?_)) (by size_fits))
 refine wpAny_newObj_type ?_ (by size_fits);simp only[raiseNew];refine wpAny_bind (wpAny_handled ?_);rw[show A.in1.handled=none from hh];refine wpAny_bind (wpAny_pure (wpAny_throw ?_));exact wpAny_bind (wpAny_isInstance (T:="StopIteration") (b:=true) ⟨_,Heap.get?_push_size _ rfl,rfl⟩ isSubtype_stop (wpAny_pure (q _ (((Heap.SameBut.update ..).extBut.push _).push _))))
end
section
variable {prog:Program}{w:World}
theorem walks_raw {A:Around}(hh:A.handled=none){I d:Addr}(hne:d≠I){ob:Obj}{es:Array DictEntry}{ep:Nat}(g2:ob.data=.dict es ep) :
  Walks prog w A I [I,d] [I] es.size (fun i v=>∃ en,es[i]?=some en/\v=en.key) (fun i h=>h.IsKeyIter I d i es.size ep/\h.get? d=some ob) where
 sub:=fun b hb=>by simp at hb;simp[hb]
 frame:=fun _ _ _ st hk=>⟨st.1.at fun o e=>hk I (by simp) o e,hk d (by simp) ob st.2⟩
 item:=fun i s Q E hi st hQ=>by
  have hx:es[i]?=some es[i]:=Array.getElem?_eq_getElem hi;refine nx_itemT st.1 st.2 g2 hx fun h' hit' hs'=>?_;exact hQ _ h' s.toks ⟨_,hx,rfl⟩ ⟨hit',(hs'.2 d hne).trans st.2⟩ fun b o hb e=>hs'.extBut b o (fun h=>hb (by simp[h])) e
 done:=fun s Q E st hQ=>nx_endT hh st.1 st.2 g2 (Nat.le_refl _) fun h' he'=>hQ h' s.toks fun b o hb e=>he' b o (fun h=>hb (by simp[h])) e
 self:=fun _ _ _ _ st hQ=>wpAny_pyIter_keyiter st.1 hQ
theorem kdl_raw {d:Addr}{ob:Obj}{es:Array DictEntry}{ep:Nat}(lo:(d==sysModules)=false)(gx:ob.ExactDict)(g2:ob.data=.dict es ep) :
  PySem.W.KdlSrc prog w "dict" d d es.size (fun i v=>∃ en,es[i]?=some en/\v=en.key) (fun h=>h.get? d=some ob) where
 type:=fun _ hm=>⟨ob,hm,gx.1⟩
 there:=fun _ hm=>⟨Heap.lt_size hm,Heap.lt_size hm⟩
 keep:=fun _ _ hm hk=>hk d (.inl rfl) ob hm
 notList:=by decide
 notTuple:=by decide
 hint:=fun _ _ s _ hm hq=>PySem.W.kdl_hint_dict (s:=s) ⟨ob,hm,gx.1⟩ hq
 iter:=fun _ _ hh hm=>⟨_,_,(fun _ _ hq=>it_rawT lo hm gx g2 hq),walks_raw hh (Nat.ne_of_lt (Heap.lt_size hm)) g2,⟨⟨_,Heap.get?_push_size _ rfl,rfl,rfl⟩,Heap.get?_push_of_some _ hm⟩⟩
end
section
variable {X:Cx}{pins:List (Addr×Obj)}{σ:St}{H:Hp}{s:Shared}
theorem reps_dK {K:PySem.W.Frag}{ι:List Addr}{H:Hp}:∀ k:List Ky,Reps K ι H (k.map dK) (k.map kV)
 | []=>.nil
 | .inl _::r=>.cons (.int _) (reps_dK r)
 | .inr _::r=>.cons (.str _) (reps_dK r)
theorem reps_keys {K:PySem.W.Frag}{ι:List Addr}{H:Hp}:∀ {k:List (List Ky)} {bs:List Addr},Paired (fun (ks:List Key) c=>H c=some (.tup (ks.map kV))) k bs->Reps K ι H (k.map fun r=>.tup (r.map dK)) (bs.map V.ref)
 | _,_,.nil=>.nil
 | _,_,.cons h t=>.cons (.tup h (reps_dK _)) (reps_keys t)
theorem rep_key2 {K:PySem.W.Frag}{ι:List Addr}{H:Hp}{k:List (List Ky)}{a:Addr}(h:KeyAt H k a):Rep K ι H (keyD2 k) (.ref a):=by
 obtain⟨bs,h1,h2⟩:=h;exact .tup h1 (reps_keys h2)
theorem ktt_reps {K:PySem.W.Frag}{ι:List Addr}{H:Hp}:∀ {kvs:List (List (List Ky)×D)} {ws:List (List (List Key)×V)} {xs:List (List (List Key)×Addr×Value)},TR K ι H kvs ws->KTT H ws xs->Reps K ι H (kvs.map fun p=>keyD2 p.1) (xs.map fun x=>V.ref x.2.1)
 | _,_,_,.nil,.nil=>.nil
 | _,_,_,.cons r t,.cons g g'=>.cons (by dsimp only;rw[r.1];exact rep_key2 g.2.1) (ktt_reps t g')
theorem vals_of_arr {vs:List Value}:∀ {as:List Addr},vs.length=as.length->(∀ (j:Nat) (v:Value),vs[j]?=some v->∃ a,as[j]?=some a/\v=Value.ref a)->Vals (as.map V.ref) vs:=by
 induction vs with
 | nil =>
  intro as hl _;cases as with
  | nil=>exact .nil
  | cons _ _=>cases hl
 | cons v vs ih =>
  intro as hl h;cases as with
  | nil=>cases hl
  | cons a as =>
   obtain⟨b,e,rfl⟩:=h 0 v rfl;cases e;exact .cons rfl (ih (by simpa using hl) fun j v' e'=>by simpa using h (j + 1) v' (by simpa using e'))
theorem call_sortedT (hc:X.calm=true)(hu:X.A.units + 100 < cLine):CallR X (.builtin "sorted") (fun xs H Q=>∃ a ws ι M kvs ys,xs=[.ref a]/\H a=some (.dTT ws)/\Sim X.K ι M H/\TR X.K ι H kvs ws/\sortD (kvs.map fun p=>keyD2 p.1)=some ys /\
  ∀ v H' ι',Rep X.K ι' H' (.ob M.length) v->Sim X.K ι' (M++[.lst ys]) H'->Ext X.K ι H ι' H'->Q v H'):=by
 intro pins s σ H xs us Q I rv h;obtain⟨a,ws,ι,M,kvs,ys,rfl,ha,S,tr,hs,k⟩:=h;obtain⟨u,rfl,ru⟩:=vals1 rv;cases ru;obtain⟨zl,hd,xs,rel,ob,es,ep,g1,gx,g2,g3,_⟩:=(show ObjOk X.prog X.w H s.heap a (.dTT ws) from I.hok a _ ha);have lx:xs.length=es.size:=by rw[<- Array.length_toList,g3,List.length_map]
 have lz:es.size<=sizeLine:=by rw[<- lx,<- Paired.length rel];exact zl
 refine Calls.call_function_entry kind_sorted plain_sorted entry_sorted (args_sorted1 _) ?_;unfold Builtin.«sorted»;refine wpAny_bind (m:=checkCount "sorted" 1 1 _) (wpAny_pure ?_);refine wpAny_bind (PySem.W.kdu_collect (A:=X.A.in1) (kdl_raw hd gx g2) (I.ok.hd hc) g1 lz fun h' tk acc kk hacc=>?_);have g4:Vals (xs.map fun x=>V.ref x.2.1) acc.toList:=by
  have e0:(xs.map fun x=>V.ref x.2.1)=(xs.map (·.2.1)).map V.ref:=by rw[List.map_map];rfl
  rw[e0];refine vals_of_arr (by rw[Array.length_toList,hacc.1,List.length_map,lx]) fun j v e=>?_;rw[Array.getElem?_toList]at e;obtain⟨en,e1,rfl⟩:=hacc.2 j v e;rw[<- Array.getElem?_toList,g3,List.getElem?_map]at e1;obtain⟨x,hx,rfl⟩:=Option.map_eq_some_iff.mp e1;exact⟨x.2.1,by rw[List.getElem?_map,hx];rfl,rfl⟩
 have I1:Inv X pins σ H { s with heap:=h',toks:=tk }:=I.kept (t':=tk) kk;have R1:=ktt_reps tr rel;have hz:(xs.map fun x=>V.ref x.2.1).length<=sizeLine:=by rw[List.length_map,lx];exact lz
 refine wpAny_bind (wpAny_newList ?_ (by rw[<- g4.length];exact hz));have fr:H h'.objs.size=none:=I1.hok.fresh (Nat.le_refl _);have I3:Inv X pins σ (upd H h'.objs.size (.lst (xs.map fun x=>V.ref x.2.1))) { s with heap:=h'.push { cls:=.type "list",data:=.seq acc.toList.toArray },toks:=tk } :=
  I1.laid (t':=tk) (fun b o e=>Heap.get?_push_of_some _ e) (Nat.le_refl _) ⟨hz,acc.toList,0,g4,Heap.get?_push_size _ rfl⟩
 have R3:=R1.mono (Ext.tupN (K:=X.K) (ι:=ι) (ho:=.lst (xs.map fun x=>V.ref x.2.1)) fr);refine wpAny_bind (wpAny_holding (sort_tracked (ι:=ι) (by first | (show X.A.units + 1 + 10 < cLine;omega) | (show X.A.units + 10 < cLine;omega)) I3 upd_same R3 hs fun ws' s' hr hI=>?_))
 refine wpAny_pure ⟨_,rfl,?_⟩;rw[upd_upd]at hI;have X4:Ext X.K ι H (ι++[h'.objs.size]) (upd H h'.objs.size (.lst ws')):=Ext.new fr;have W:Ext X.K ι (upd H h'.objs.size (.lst (xs.map fun x=>V.ref x.2.1))) ι (upd (upd H h'.objs.size (.lst (xs.map fun x=>V.ref x.2.1))) h'.objs.size (.lst ws')):=Ext.write upd_same (mut_l _);rw[upd_upd]at W;have R4:Reps X.K (ι++[h'.objs.size]) (upd H h'.objs.size (.lst ws')) ys ws':=hr.mono { W with pre:=fun i b e=>(by rw[List.getElem?_append_left (List.getElem?_eq_some_iff.mp e).1];exact e) };exact⟨.ref h'.objs.size,_,hI,rfl,k _ _ _ (.ob (by rw[<- S.len,List.getElem?_append_right (Nat.le_refl _),Nat.sub_self];rfl)) (S.new fr ⟨ws',rfl,R4⟩) X4⟩
end
theorem srt_t {Γ:Ctx}(hs:Γ.srt=sortD):SrtT Γ:=by
 intro S X f a p1 p4 fa C h hp ha;simp only[Bool.and_eq_true,beq_iff_eq]at h;obtain⟨⟨⟨h1,h2⟩,h3⟩,h4⟩:=h;subst h1;obtain⟨o1,o2,o3⟩:=okName_debug h2;refine PE.imp (pe_callB (call_sortedT C.calm C.hu) (C.glo h3) (C.bls _ (mem_of_contains h4)) PyProof.Rows.boot_sorted (pa_cons ha pa_nil (star_plain hp)) o3 o1 (star_plain hp) rfl) fun σ H Q q=>?_;obtain⟨ι,ρ,M,d,M',S',R,e,k⟩:=q;obtain⟨x,M1,e1,e⟩:=bind_ok e;refine⟨ι,ρ,M,x,M1,S',R,e1,fun v1 H1 ι1 r1 S1 X1=>?_⟩;cases r1 with
 | ob t =>
  obtain⟨kvs,M2,e2,ea⟩:=bind_ok e;obtain⟨g,rfl⟩:=getT_ok e2;obtain⟨ys,M3,e3,eb⟩:=bind_ok ea;obtain⟨hx,rfl⟩:=lift_ok e3;obtain⟨rfl,rfl⟩:=newM_ok eb;rw[hs]at hx;obtain⟨a',ws,g1,g2,g3,g4⟩:=sim_tt S1 (.ob t) g;cases g1;exact⟨_,ws,ι1,_,kvs,ys,rfl,g3,S1,g4,hx,fun v H' ι' r' S'' X'=>k v H' ι' r' S'' (X1.trans X')⟩
 | _=>exact(stop_ok e).elim
end L3
namespace L3
open PySem PySem.Spec PyProof.Rows L2
section
variable {X:Cx}{pins:List (Addr×Obj)}{σ:St}{H:Hp}{s:Shared}
end
theorem srt_s {Γ:Ctx}:SrtS Γ:=trivial
theorem srt_d {Γ:Ctx}:SrtD Γ:=trivial
theorem srt_ok {Γ:Ctx}(hs:Γ.srt=sortD):SrtOk Γ:=⟨srt_i hs,srt_l hs,srt_s,srt_d,srt_t hs⟩
end L3
namespace L3
open PySem PySem.Spec PySem.Calls PyProof.Rows L2
noncomputable def heapK (h:Heap):PySem.W.Frag:=(List.range h.objs.size).filterMap fun a=>(h.get? a).map fun o=>(a,o)
theorem look_fm {h:Heap}{a:Addr}:∀ l:List Nat,(l.filterMap fun a=>(h.get? a).map fun o=>(a,o)).lookup a=if a∈l then h.get? a else none
 | []=>rfl
 | b::l=>by
  rw[List.filterMap_cons];by_cases e:a=b
  ·subst e
   rw[if_pos (List.mem_cons_self ..)];cases g:h.get? a with
   | none =>
    simp only[Option.map_none];rw[look_fm l,g];split <;> rfl
   | some o=>simp only[Option.map_some,List.lookup_cons_self]
  ·have hb:(a==b)=false:=by simpa using e
   have hm:(a∈b::l)=(a∈l):=by simp[e]
   simp only[hm];cases g:h.get? b with
   | none=>simp only[Option.map_none];exact look_fm l
   | some o=>simp only[Option.map_some,List.lookup_cons,hb];exact look_fm l
theorem heapK_look {h:Heap}{a:Addr}{o:Obj}(e:h.get? a=some o):(heapK h).lookup a=some o:=by
 unfold heapK;rw[look_fm,if_pos,e];rw[List.mem_range];unfold Heap.get? at e;by_cases q:a < h.objs.size
 ·exact q
 ·rw[Array.getElem?_eq_none (Nat.le_of_not_lt q)]at e
  simp at e
theorem heapK_in (h:Heap):(heapK h).In h:=by
 intro a o e;unfold heapK at e;rw[look_fm]at e;split at e
 ·exact e
 ·cases e
theorem code_in {h:Heap}{cd:Value}{x:Str}(c:h.CodeRec cd x):PySem.W.codeIn (heapK h) cd x=true:=by
 obtain⟨c,o,vs,t,rfl,e,d,v⟩:=c;have e':=heapK_look e;obtain⟨oc,od,da,sl⟩:=o;cases d;unfold PySem.W.codeIn;simp only[e'];rw[<- Array.getElem?_toList]at v;cases q:vs.toList with
 | nil=>rw[q]at v;cases v
 | cons y r =>
  cases r with
  | nil=>rw[q]at v;cases v
  | cons z r =>
   rw[q]at v;cases v;simp
noncomputable def defPos:Stmt->Pos
 | .FunctionDef _ _ _ _ _ _ _ _ _ pos=>pos
 | _=>⟨0,0,0,0⟩
noncomputable def recT (x:Str)(st:Stmt):DefRec:=⟨x,defArgs st,defBody st,defScope st,defPos st⟩
section
variable {q:Program}{lo:List Str}{mean:ExcName->Option Value}{mg mb:Str->Option Value}{h:Heap}{es:List Ent}{gls bls:List Str}{gl:Str->Option D}
theorem DefR.mkT (T:Top q lo mean mg mb h){rs:List DefRec}(hr:recsOf q=rs)(i:Nat){e:Ent}(hm:rs[i]?=some (recT e.x e.st))
  (hb:∀ (kV doc pm:Value) (an:Option Addr) (cdv ct:Value) (us:List Value),us.length=e.ps.length->bindArgs (PySem.W.fnOf e.x e.x (defArgs e.st) (defBody e.st) (defScope e.st) .none kV doc pm an cdv ct) ⟨us,[]⟩=pure (e.ps.zip us))
  (S:FnScope e.N e.ps (defScope e.st)) (hc:cSs ⟨defScope e.st,e.N,es.map (·.x),gls,bls⟩ 200 (defBody e.st)=some e.b) (ht:(tabOf es).lookup e.x=some ⟨e.N.length,e.ps.length,e.b⟩):DefR (heapK h) mg es gls bls e:=by
 obtain⟨a,o,pm,code,doc,h1,h2,h3,h4⟩:=T.fn _ (List.mem_of_getElem? (hr ▸ hm));obtain⟨oc,od,da,sl⟩:=o;cases h3;have l:=heapK_look h2;have F:Fun (heapK h) e.x e.x e.st a _:=fun_mk (st:=e.st) (cdv:=code) l (code_in h4) (by unfold PySem.W.keepIn;simp only[l]);exact⟨a,_,F,h1,F.binds hb,S,hc,ht⟩
noncomputable def freeB (q:Program)(lo bls:List Str):Bool:=bls.all fun x=>!(startupNames.contains x||lo.contains x||((recsOf q).map (·.name)).contains x||((litsOf q).map (·.1)).contains x||((clssOf q lo).map (·.name)).contains x)
theorem free_of (T:Top q lo mean mg mb h)(e:freeB q lo bls=true):∀ x∈bls,mg x=none:=by
 intro x hx
 have:=List.all_eq_true.mp e x hx
 simp only[Bool.not_eq_true',Bool.or_eq_false_iff,List.contains_eq_mem,decide_eq_false_iff_not]at this;obtain⟨⟨⟨⟨h1,h2⟩,h3⟩,h4⟩,h5⟩:=this;exact T.free x h1 h2 h3 h4 h5
theorem law_mkT {srt:List D->Option (List D)}{wh:Nat}{P:Program}{w:World}(hsrt:∀ k,SrtOk (CtxN (tabOf es) gl srt wh k))(hd:∀ e∈es,DefR (heapK h) mg es gls bls e)(hg:∀ x∈gls,GlR (heapK h) mg gl x)(hb:∀ x∈bls,mg x=none)(k:Nat){e:Ent}(he:e∈es){x:Str}(hx:e.ps=[x])
  (hb1:∀ (kV doc pm:Value) (an:Option Addr) (cdv ct u:Value),bindArgs (PySem.W.fnOf e.x e.x (defArgs e.st) (defBody e.st) (defScope e.st) .none kV doc pm an cdv ct) ⟨[u],[]⟩=pure [(x,u)]) {fa:Addr} (hfa:mg e.x=some (.ref fa)) :
  ∃ fd:FuncData,(∀ (s:Shared) (u:Value),BindsTo s fd ⟨[u],[]⟩ [(x,u)])/\∀ base:Heap,(heapK h).In base->base.Ns mainGlobals mg->FnOk P w (heapK h) mg base CX0 k fa fd [x] (spOf (heapK h) 1 ((CtxN (tabOf es) gl srt wh k).fn e.x)):=by
 obtain⟨fa',fd,F,hm,_⟩:=hd e he;rw[hfa]at hm;cases hm;refine⟨fd,fun s u=>?_,fun base _ _=>?_⟩
 ·obtain⟨_,_,kV,doc,pm,an,cdv,ct,_,rfl,_⟩:=F.ex
  exact .of_eq (hb1 kV doc pm an cdv ct u)
 ·have:=law_fn (P:=P) (w:=w) (base:=base) hsrt hd hg hb k he F hfa
  rw[hx]at this;exact this
end
theorem walkT {l:PySem.W.OpenLaw}{q:Program}{loose:List Str}{XP:(Str->Option Value)->Heap->Prop}{YP:World->Heap->Prop}{d:DefRec}{x:Str}{k:Nat}{g:List D->Mo D}(hk:Room k callerA)(hn:l.most=some 63)(hdf:d.params.defaults=[])
  (hg:∀ ns:List Int,ns.length<=63->∃ M',g [.fl (ns.map .int)] []=some (.ok (.bl true),M'))
  (F:∀ (w:World) (mean:ExcName->Option Value) (mg mb:Str->Option Value) (fa:Addr) (h:Heap),Top q (PySem.W.looseW q loose) mean mg mb h->mg d.name=some (.ref fa) ->
   ∃ fd:FuncData,(∀ (s:Shared) (u:Value),BindsTo s fd ⟨[u],[]⟩ [(x,u)])/\∀ base:Heap,(heapK h).In base->base.Ns mainGlobals mg->FnOk l.prog w (heapK h) mg base CX0 k fa fd [x] (spOf (heapK h) 1 g)) :
  PySem.W.WalkO q loose XP YP l.row.toRowW d [] (fun f vs=>PySem.call f vs):=by
 refine Att.attach_call hn hdf fun w s₀ s₁ mg mb fa o pm cd doc a vs ns G Y ho hd hcd hmg hobj hints hlen hg'=>?_;obtain⟨fd,hb,hF⟩:=F w _ mg mb fa _ G.T hmg;exact law_call (heapK_in _) G.T.g G.T.b G.T.builtins G.T.nolimit hg' hobj hints (Nat.le_trans hlen (by decide)) hk hF hb (fun H hO hS=>sp_law hO hS (hg ns hlen)) fun _ _ _ z=>z
end L3
namespace L3
open PySem
theorem q_semE_var {Γ:Ctx}:∀ i ρ,semE Γ (.var i) ρ=(varD ρ i):=fun _ _=>rfl
theorem q_semE_cint {Γ:Ctx}:∀ i ρ,semE Γ (.cint i) ρ=(pure (.int i)):=fun _ _=>rfl
theorem q_semE_cbl {Γ:Ctx}:∀ b ρ,semE Γ (.cbl b) ρ=(pure (.bl b)):=fun _ _=>rfl
theorem q_semE_cnon {Γ:Ctx}:∀ ρ,semE Γ (.cnon) ρ=(pure .non):=fun _=>rfl
theorem q_semE_cstr {Γ:Ctx}:∀ x ρ,semE Γ (.cstr x) ρ=(pure (.str x)):=fun _ _=>rfl
theorem q_semE_glb {Γ:Ctx}:∀ x ρ,semE Γ (.glb x) ρ=(lift (Γ.gl x)):=fun _ _=>rfl
theorem q_semE_bin {Γ:Ctx}:∀ op a b ρ,semE Γ (.bin op a b) ρ=(do let x <- semE Γ a ρ;let y <- semE Γ b ρ;opD op x y):=fun _ _ _ _=>rfl
theorem q_semE_cmp {Γ:Ctx}:∀ op a b ρ,semE Γ (.cmp op a b) ρ=(do let x <- semE Γ a ρ;let y <- semE Γ b ρ;let k <- cmpD op x y;pure (.bl k)):=fun _ _ _ _=>rfl
theorem q_semE_cmp2 {Γ:Ctx}:∀ op op' a b c ρ,semE Γ (.cmp2 op op' a b c) ρ=(do
  let x <- semE Γ a ρ
  let y <- semE Γ b ρ
  let k <- cmpD op x y
  if k=true then do let z <- semE Γ c ρ;let k' <- cmpD op' y z;pure (.bl k') else pure (.bl false)):=fun _ _ _ _ _ _=>rfl
theorem q_semE_and {Γ:Ctx}:∀ a b ρ,semE Γ (.and a b) ρ=(do let x <- semE Γ a ρ;let k <- lift (boolD x);if k=true then semE Γ b ρ else pure (.bl false)):=fun _ _ _=>rfl
theorem q_semE_or {Γ:Ctx}:∀ a b ρ,semE Γ (.or a b) ρ=(do let x <- semE Γ a ρ;let k <- lift (boolD x);if k=true then pure (.bl true) else semE Γ b ρ):=fun _ _ _=>rfl
theorem q_semE_not {Γ:Ctx}:∀ a ρ,semE Γ (.not a) ρ=(do let x <- semE Γ a ρ;let k <- lift (boolD x);pure (.bl (!k))):=fun _ _=>rfl
theorem q_semE_ifE {Γ:Ctx}:∀ c a b ρ,semE Γ (.ifE c a b) ρ=(do let k <- semC Γ c ρ;if k=true then semE Γ a ρ else semE Γ b ρ):=fun _ _ _ _=>rfl
theorem q_semE_tup {Γ:Ctx}:∀ es ρ,semE Γ (.tup es) ρ=(do let xs <- semEs Γ es ρ;need (xs.length<=sizeLine);pure (.tup xs)):=fun _ _=>rfl
theorem q_semE_lst {Γ:Ctx}:∀ es ρ,semE Γ (.lst es) ρ=(do let xs <- semEs Γ es ρ;need (xs.length<=sizeLine);newM (.lst xs)):=fun _ _=>rfl
theorem q_semE_dic0 {Γ:Ctx}:∀ ρ,semE Γ (.dic0) ρ=(newM (.dic [])):=fun _=>rfl
theorem q_semE_dtt0 {Γ:Ctx}:∀ ρ,semE Γ (.dtt0) ρ=(newM (.dtt [])):=fun _=>rfl
theorem q_semE_idx {Γ:Ctx}:∀ a b ρ,semE Γ (.idx a b) ρ=(do let x <- semE Γ a ρ;let y <- semE Γ b ρ;getIx x y):=fun _ _ _=>rfl
theorem q_semE_slc {Γ:Ctx}:∀ a lo hi ρ,semE Γ (.slc a lo hi) ρ=(do let x <- semE Γ a ρ;let l <- semO Γ lo ρ;let h <- semO Γ hi ρ;sliceD x l h):=fun _ _ _ _=>rfl
theorem q_semE_call {Γ:Ctx}:∀ f es ρ,semE Γ (.call f es) ρ=(do let xs <- semEs Γ es ρ;Γ.fn f xs):=fun _ _ _=>rfl
theorem q_semE_blt {Γ:Ctx}:∀ b es ρ,semE Γ (.blt b es) ρ=(do let xs <- semEs Γ es ρ;blD b xs):=fun _ _ _=>rfl
theorem q_semE_sortItems {Γ:Ctx}:∀ a ρ,semE Γ (.sortItems a) ρ=(do
  let x <- semE Γ a ρ
  (match x with
  | .ob k=>do let kvs <- getD k;let ys <- lift (Γ.srt (dicItems kvs));newM (.lst ys)
  | _=>Mo.stop)):=fun _ _=>rfl
theorem q_semE_comp {Γ:Ctx}:∀ j it c e ρ,semE Γ (.comp j it c e) ρ=(do
  let s <- semT Γ it ρ
  need (s.ds.length<=sizeLine)
  let ys <- compD s.ck (semCo Γ c) (semE Γ e) (ρ.set j none) s.ds
  newM (.lst ys)):=fun _ _ _ _ _=>rfl
theorem q_semE_sortL {Γ:Ctx}:∀ a ρ,semE Γ (.sortL a) ρ=(do
  let x <- semE Γ a ρ
  let ds <- lstD x
  let ys <- lift (Γ.srt ds)
  newM (.lst ys)):=fun _ _=>rfl
theorem q_semE_revL {Γ:Ctx}:∀ a ρ,semE Γ (.revL a) ρ=(do
  let x <- semE Γ a ρ
  let ds <- lstD x
  newM (.lst ds.reverse)):=fun _ _=>rfl
theorem q_semE_neg {Γ:Ctx}:∀ a ρ,semE Γ (.neg a) ρ=(do
  let x <- semE Γ a ρ
  (match x with
  | .int i=>pure (.int (-i))
  | _=>Mo.stop)):=fun _ _=>rfl
theorem q_semE_isI {Γ:Ctx}:∀ a t ρ,semE Γ (.isI a t) ρ=(do let x <- semE Γ a ρ;let k <- tyD t x;pure (.bl k)):=fun _ _ _=>rfl
theorem q_semE_mth {Γ:Ctx}:∀ m a es ρ,semE Γ (.mth m a es) ρ=(do let x <- semE Γ a ρ;rcvD m x;let xs <- semEs Γ es ρ;mtD m x xs):=fun _ _ _ _=>rfl
theorem q_semEs_nil {Γ:Ctx}:∀ ρ,semEs Γ (.nil) ρ=(pure []):=fun _=>rfl
theorem q_semEs_cons {Γ:Ctx}:∀ e es ρ,semEs Γ (.cons e es) ρ=(do let x <- semE Γ e ρ;let xs <- semEs Γ es ρ;pure (x::xs)):=fun _ _ _=>rfl
theorem q_semO_none {Γ:Ctx}:∀ ρ,semO Γ (.none) ρ=(pure none):=fun _=>rfl
theorem q_semO_some {Γ:Ctx}:∀ e ρ,semO Γ (.some e) ρ=(do
  let x <- semE Γ e ρ
  (match x with
  | .int i=>pure (some i)
  | _=>Mo.stop)):=fun _ _=>rfl
theorem q_semT_seq {Γ:Ctx}:∀ e ρ,semT Γ (.seq e) ρ=(do let x <- semE Γ e ρ;srcD x):=fun _ _=>rfl
theorem q_semT_rng1 {Γ:Ctx}:∀ a ρ,semT Γ (.rng1 a) ρ=(do
  let x <- semE Γ a ρ
  (match x with
  | .int i=>do need (small i);pure ⟨none,rngD 0 i⟩
  | _=>Mo.stop)):=fun _ _=>rfl
theorem q_semT_rng2 {Γ:Ctx}:∀ a b ρ,semT Γ (.rng2 a b) ρ=(do
  let x <- semE Γ a ρ
  let y <- semE Γ b ρ
  (match x,y with
  | .int i,.int j=>do need (small i/\small j);pure ⟨none,rngD i j⟩
  | _,_=>Mo.stop)):=fun _ _ _=>rfl
theorem q_semC_cmp {Γ:Ctx}:∀ e ρ,semC Γ (.cmp e) ρ=(do let x <- semE Γ e ρ;lift (boolD x)):=fun _ _=>rfl
theorem q_semC_tru {Γ:Ctx}:∀ e ρ,semC Γ (.tru e) ρ=(do let x <- semE Γ e ρ;truD x):=fun _ _=>rfl
theorem q_semC_not {Γ:Ctx}:∀ c ρ,semC Γ (.not c) ρ=(do let k <- semC Γ c ρ;pure (!k)):=fun _ _=>rfl
theorem q_semC_and {Γ:Ctx}:∀ a b ρ,semC Γ (.and a b) ρ=(do let k <- semC Γ a ρ;if k=true then semC Γ b ρ else pure false):=fun _ _ _=>rfl
theorem q_semC_or {Γ:Ctx}:∀ a b ρ,semC Γ (.or a b) ρ=(do let k <- semC Γ a ρ;if k=true then pure true else semC Γ b ρ):=fun _ _ _=>rfl
theorem q_semCo_none {Γ:Ctx}:∀ ρ,semCo Γ (.none) ρ=(pure true):=fun _=>rfl
theorem q_semCo_some {Γ:Ctx}:∀ c ρ,semCo Γ (.some c) ρ=(semC Γ c ρ):=fun _ _=>rfl
theorem q_semP_seq {Γ:Ctx}:∀ e ρ,semP Γ (.seq e) ρ=(do let x <- semE Γ e ρ;srcD x):=fun _ _=>rfl
theorem q_semP_enum {Γ:Ctx}:∀ e ρ,semP Γ (.enum e) ρ=(do let x <- semE Γ e ρ;enumS x):=fun _ _=>rfl
theorem q_semS_set {Γ:Ctx}:∀ i e ρ,semS Γ (.set i e) ρ=(do let x <- semE Γ e ρ;pure (.nx (ρ.set i (some x)))):=fun _ _ _=>rfl
theorem q_semS_setIx {Γ:Ctx}:∀ o i e ρ,semS Γ (.setIx o i e) ρ=(do let v <- semE Γ e ρ;let x <- semE Γ o ρ;let y <- semE Γ i ρ;setIx x y v;pure (.nx ρ)):=fun _ _ _ _=>rfl
theorem q_semS_expr {Γ:Ctx}:∀ e ρ,semS Γ (.expr e) ρ=(do let _ <- semE Γ e ρ;pure (.nx ρ)):=fun _ _=>rfl
theorem q_semS_ret {Γ:Ctx}:∀ e ρ,semS Γ (.ret e) ρ=(do let x <- semE Γ e ρ;pure (.rt x)):=fun _ _=>rfl
theorem q_semS_retN {Γ:Ctx}:∀ ρ,semS Γ (.retN) ρ=(pure (.rt .non)):=fun _=>rfl
theorem q_semS_pass {Γ:Ctx}:∀ ρ,semS Γ (.pass) ρ=(pure (.nx ρ)):=fun _=>rfl
theorem q_semS_brk {Γ:Ctx}:∀ ρ,semS Γ (.brk) ρ=(pure (.bk ρ)):=fun _=>rfl
theorem q_semS_cnt {Γ:Ctx}:∀ ρ,semS Γ (.cnt) ρ=(pure (.ct ρ)):=fun _=>rfl
theorem q_semS_halt {Γ:Ctx}:∀ ρ,semS Γ (.halt) ρ=(Mo.stop):=fun _=>rfl
theorem q_semS_ifS {Γ:Ctx}:∀ c a b ρ,semS Γ (.ifS c a b) ρ=(do let k <- semC Γ c ρ;if k=true then semSs Γ a ρ else semSs Γ b ρ):=fun _ _ _ _=>rfl
theorem q_semS_forS {Γ:Ctx}:∀ i it b ρ,semS Γ (.forS i it b) ρ=(do let s <- semT Γ it ρ;loopD s.ck i (semSs Γ b) s.ds ρ):=fun _ _ _ _=>rfl
theorem q_semS_forP {Γ:Ctx}:∀ i j it b ρ,semS Γ (.forP i j it b) ρ=(do let s <- semP Γ it ρ;loopP s.ck i j (semSs Γ b) s.ds ρ):=fun _ _ _ _ _=>rfl
theorem q_semS_whileS {Γ:Ctx}:∀ c b ρ,semS Γ (.whileS c b) ρ=(whileD (semC Γ c) (semSs Γ b) Γ.wh ρ):=fun _ _ _=>rfl
theorem q_semSs_nil {Γ:Ctx}:∀ ρ,semSs Γ (.nil) ρ=(pure (.nx ρ)):=fun _=>rfl
theorem q_semSs_cons {Γ:Ctx}:∀ s r ρ,semSs Γ (.cons s r) ρ=(do
  let f <- semS Γ s ρ
  (match f with
  | .nx ρ'=>semSs Γ r ρ'
  | .rt v=>pure (.rt v)
  | .bk ρ'=>pure (.bk ρ')
  | .ct ρ'=>pure (.ct ρ'))):=fun _ _ _=>rfl
end L3
namespace L3
open PySem
theorem need_run {p:Prop}[Decidable p](h:p)(M:MH):need p M=some (.ok (),M):=by unfold need;rw[if_pos h];rfl
theorem lift_run {α:Type}(a:α)(M:MH):lift (some a) M=some (.ok a,M):=rfl
theorem getM_run {i:Nat}{o:MO}{M:MH}(h:M[i]?=some o):getM i M=some (.ok o,M):=by unfold getM;rw[h]
theorem getL_run {i:Nat}{ds:List D}{M:MH}(h:M[i]?=some (.lst ds)):getL i M=some (.ok ds,M):=by unfold getL;rw[h]
theorem getD_run {i:Nat}{ds:List (Ky×D)}{M:MH}(h:M[i]?=some (.dic ds)):getD i M=some (.ok ds,M):=by unfold getD;rw[h]
theorem newM_run (o:MO)(M:MH):newM o M=some (.ok (.ob M.length),M++[o]):=rfl
theorem putM_run {i:Nat}{o:MO}{M:MH}(h:i < M.length):putM i o M=some (.ok (),M.set i o):=by unfold putM;rw[if_pos h]
theorem atD_nat {α:Type}{xs:List α}{j:Nat}{v:α}(h:xs[j]?=some v):atD xs (j:Int)=some v:=by
 have hj:j < xs.length:=(List.getElem?_eq_some_iff.mp h).1;unfold atD ixD;rw[if_pos (by first | lia | omega),if_pos (by first | lia | omega)]
 simpa using h
theorem get_new (M:MH)(o:MO):(M++[o])[M.length]?=some o:=by simp
structure Gr (M M':MH):Prop where
 keep:∀ (i:Nat) (o:MO),M[i]?=some o->M'[i]?=some o
 len:M.length<=M'.length
theorem Gr.refl {M:MH}:Gr M M:=⟨fun _ _ h=>h,Nat.le_refl _⟩
theorem Gr.trans {M M1 M2:MH}(a:Gr M M1)(b:Gr M1 M2):Gr M M2:=⟨fun i o e=>b.keep i o (a.keep i o e),Nat.le_trans a.len b.len⟩
theorem Gr.app (M X:MH):Gr M (M++X):=⟨fun i o e=>by rw[List.getElem?_append_left (List.getElem?_eq_some_iff.mp e).1];exact e,by rw[List.length_append];omega⟩
theorem Gr.snoc {M M1:MH}(g:Gr M M1)(o:MO):Gr M (M1++[o]):=g.trans (Gr.app _ _)
theorem Gr.set {M M1:MH}(g:Gr M M1){j:Nat}(h:M.length<=j)(o:MO):Gr M (M1.set j o):=⟨fun i q e=>by
 have hi:i < M.length:=(List.getElem?_eq_some_iff.mp e).1;rw[List.getElem?_set_ne (by first | lia | omega)]
 exact g.keep i q e,by rw[List.length_set];exact g.len⟩
theorem set_get {M:MH}{j:Nat}{o q:MO}(h:M[j]?=some q):(M.set j o)[j]?=some o:=List.getElem?_set_self (List.getElem?_eq_some_iff.mp h).1
theorem lt_of_get {α:Type}{M:List α}{j:Nat}{q:α}(h:M[j]?=some q):j < M.length:=(List.getElem?_eq_some_iff.mp h).1
theorem mapM_bools (bs:List Bool):(bs.map D.bl).mapM boolD=some bs:=by
 induction bs with
 | nil=>rfl
 | cons b r ih=>rw[List.map_cons,List.mapM_cons,ih];rfl
theorem mapM_strs (bs:List Str):(bs.map D.str).mapM strD=some bs:=by
 induction bs with
 | nil=>rfl
 | cons b r ih=>rw[List.map_cons,List.mapM_cons,ih];rfl
theorem ev_var {Γ:Ctx}{ρ:Ev}{M:MH}{d:D}{i:Nat}(h:ρ[i]?=some (some d)):semE Γ (.var i) ρ M=some (.ok d,M):=by
 show varD ρ i M=_;unfold varD;rw[h];rfl
theorem rng_len {lo hi:Int}:(rngD lo hi).length=(hi - lo).toNat:=by unfold rngD;rw[List.length_map,List.length_range]
theorem rng_get {lo hi:Int}{j:Nat}{d:D}(h:(rngD lo hi)[j]?=some d):d=.int (lo + j)/\j < (hi - lo).toNat:=by
 unfold rngD at h;rw[List.getElem?_map]at h;cases q:(List.range (hi - lo).toNat)[j]? with
 | none=>rw[q]at h;cases h
 | some n =>
  rw[q]at h;obtain⟨h1,h2⟩:=List.getElem?_eq_some_iff.mp q;rw[List.length_range]at h1;rw[List.getElem_range]at h2;subst h2;cases h;exact⟨rfl,h1⟩
end L3
namespace L3
open PySem
theorem atD_in {α:Type}{xs:List α}{i:Int}(h0:0<=i)(h1:i < xs.length):∃ v,atD xs i=some v/\v∈xs:=by
 obtain⟨n,rfl⟩:=Int.eq_ofNat_of_zero_le h0;have hj:n < xs.length:=by first | lia | omega
 exact⟨xs[n],atD_nat (List.getElem?_eq_getElem hj),List.getElem_mem hj⟩
theorem len_app (x y:Str):(x++y).length=x.length + y.length:=by
 show (x.cps++y.cps).size=x.cps.size + y.cps.size;simp
theorem len_toList (x:Str):x.cps.toList.length=x.length:=by simp[Str.length]
theorem line_big:(100000:Nat)<=sizeLine:=by unfold sizeLine;decide
end L3
namespace L3
open PySem
noncomputable def Wp {α:Type}(m:Mo α)(M:MH)(Q:α->MH->Prop):Prop:=∃ a M',m M=some (.ok a,M')/\Q a M'
inductive Dum {α:Type} (Q:α->MH->Prop):Type where
 | mk
noncomputable def W {α:Type}(m:Mo α)(M:MH)(Q:α->MH->Prop)(_:Dum Q:=.mk):Prop:=Wp m M Q
theorem W_eq {α:Type}{m:Mo α}{M:MH}{Q R:α->MH->Prop}(h:∀ a M,Q a M=R a M):W m M Q=W m M R:=by
 have:Q=R:=funext fun a=>funext fun M=>h a M
 subst this;rfl
theorem W.mono {α:Type}{m:Mo α}{M:MH}{Q R:α->MH->Prop}(h:W m M Q)(f:∀ a M',Q a M'->R a M'):W m M R:=by
 obtain⟨a,M',e,q⟩:=h;exact⟨a,M',e,f a M' q⟩
theorem W.of {α:Type}{m:Mo α}{M M':MH}{a:α}{Q:α->MH->Prop}(e:m M=some (.ok a,M'))(q:Q a M'):W m M Q:=⟨a,M',e,q⟩
theorem w_pure {α:Type}(a:α)(M:MH)(Q:α->MH->Prop):W (pure a:Mo α) M Q=Q a M:=by
 refine propext ⟨fun ⟨b,M',e,q⟩=>?_,fun q=>⟨a,M,rfl,q⟩⟩;cases e;exact q
theorem w_ret {α:Type}(a:α)(M:MH)(Q:α->MH->Prop):W (fun M=>some (.ok a,M)) M Q=Q a M:=w_pure a M Q
theorem w_bind {α β:Type}(m:Mo α)(k:α->Mo β)(M:MH)(Q:β->MH->Prop):W (m >>= k) M Q=W m M fun a M'=>W (k a) M' Q:=by
 refine propext ⟨fun ⟨b,M',e,q⟩=>?_,fun ⟨a,M1,e,b,M2,e2,q⟩=>⟨b,M2,by rw[ok_bind e];exact e2,q⟩⟩;obtain⟨a,M1,e1,e2⟩:=bind_ok e;exact⟨a,M1,e1,b,M',e2,q⟩
theorem w_need {p:Prop}[Decidable p](M:MH)(Q:Unit->MH->Prop):W (need p) M Q=(p/\Q () M):=by
 refine propext ⟨fun ⟨b,M',e,q⟩=>?_,fun ⟨hp,q⟩=>⟨(),M,need_run hp M,q⟩⟩;unfold need at e;split at e
 ·rename_i hp
  cases e;exact⟨hp,q⟩
 ·cases e
theorem w_lift {α:Type}(o:Option α)(M:MH)(Q:α->MH->Prop):W (lift o) M Q = ∃ a,o=some a/\Q a M:=by
 refine propext ⟨fun ⟨b,M',e,q⟩=>?_,fun ⟨a,ho,q⟩=>⟨a,M,by rw[ho];rfl,q⟩⟩;cases o with
 | none=>cases e
 | some a=>cases e;exact⟨_,rfl,q⟩
theorem w_getM (i:Nat)(M:MH)(Q:MO->MH->Prop):W (getM i) M Q = ∃ o,M[i]?=some o/\Q o M:=by
 refine propext ⟨fun ⟨b,M',e,q⟩=>?_,fun ⟨a,ho,q⟩=>⟨a,M,getM_run ho,q⟩⟩;unfold getM at e;split at e
 ·rename_i o h;cases e;exact⟨_,h,q⟩
 ·cases e
theorem w_getL (i:Nat)(M:MH)(Q:List D->MH->Prop):W (getL i) M Q = ∃ ds,M[i]?=some (.lst ds)/\Q ds M:=by
 refine propext ⟨fun ⟨b,M',e,q⟩=>?_,fun ⟨a,ho,q⟩=>⟨a,M,getL_run ho,q⟩⟩;unfold getL at e;split at e
 ·rename_i o h;cases e;exact⟨_,h,q⟩
 ·cases e
theorem w_getD (i:Nat)(M:MH)(Q:List (Ky×D)->MH->Prop):W (getD i) M Q = ∃ ds,M[i]?=some (.dic ds)/\Q ds M:=by
 refine propext ⟨fun ⟨b,M',e,q⟩=>?_,fun ⟨a,ho,q⟩=>⟨a,M,getD_run ho,q⟩⟩;unfold getD at e;split at e
 ·rename_i o h;cases e;exact⟨_,h,q⟩
 ·cases e
theorem w_newM (o:MO)(M:MH)(Q:D->MH->Prop):W (newM o) M Q=Q (.ob M.length) (M++[o]):=by
 refine propext ⟨fun ⟨b,M',e,q⟩=>?_,fun q=>⟨_,_,newM_run o M,q⟩⟩;cases e;exact q
theorem w_putM (i:Nat)(o:MO)(M:MH)(Q:Unit->MH->Prop):W (putM i o) M Q=(i < M.length/\Q () (M.set i o)):=by
 refine propext ⟨fun ⟨b,M',e,q⟩=>?_,fun ⟨h,q⟩=>⟨_,_,putM_run h,q⟩⟩;unfold putM at e;split at e
 ·rename_i h;cases e;exact⟨h,q⟩
 ·cases e
theorem w_stop {α:Type}(M:MH)(Q:α->MH->Prop):W (Mo.stop:Mo α) M Q=False:=by
 refine propext ⟨fun ⟨b,M',e,q⟩=>?_,fun q=>q.elim⟩;cases e
theorem w_if {α:Type}(b:Bool)(m n:Mo α)(M:MH)(Q:α->MH->Prop):W (if b=true then m else n) M Q=((b=true->W m M Q)/\(b=false->W n M Q)):=by
 cases b <;> simp
section
variable {α β:Type}
theorem v_pure (a:α)(M:MH)(Q:α->MH->Prop):Wp (pure a:Mo α) M Q=Q a M:=w_pure a M Q
theorem v_bind (m:Mo α)(k:α->Mo β)(M:MH)(Q:β->MH->Prop):Wp (m >>= k) M Q=Wp m M fun a M'=>Wp (k a) M' Q:=w_bind m k M Q
theorem v_need {p:Prop}[Decidable p](M:MH)(Q:Unit->MH->Prop):Wp (need p) M Q=(p/\Q () M):=w_need M Q
theorem v_lift (o:Option α)(M:MH)(Q:α->MH->Prop):Wp (lift o) M Q = ∃ a,o=some a/\Q a M:=w_lift o M Q
theorem v_getM (i:Nat)(M:MH)(Q:MO->MH->Prop):Wp (getM i) M Q = ∃ o,M[i]?=some o/\Q o M:=w_getM i M Q
theorem v_getL (i:Nat)(M:MH)(Q:List D->MH->Prop):Wp (getL i) M Q = ∃ ds,M[i]?=some (.lst ds)/\Q ds M:=w_getL i M Q
theorem v_getD (i:Nat)(M:MH)(Q:List (Ky×D)->MH->Prop):Wp (getD i) M Q = ∃ ds,M[i]?=some (.dic ds)/\Q ds M:=w_getD i M Q
theorem v_newM (o:MO)(M:MH)(Q:D->MH->Prop):Wp (newM o) M Q=Q (.ob M.length) (M++[o]):=w_newM o M Q
theorem v_putM (i:Nat)(o:MO)(M:MH)(Q:Unit->MH->Prop):Wp (putM i o) M Q=(i < M.length/\Q () (M.set i o)):=w_putM i o M Q
theorem v_stop (M:MH)(Q:α->MH->Prop):Wp (Mo.stop:Mo α) M Q=False:=w_stop M Q
theorem v_if (b:Bool)(m n:Mo α)(M:MH)(Q:α->MH->Prop):Wp (if b=true then m else n) M Q=((b=true->Wp m M Q)/\(b=false->Wp n M Q)):=w_if b m n M Q
end
section
variable {Γ:Ctx}{ρ:Ev}{M:MH}{a b c:IE}{Q:D->MH->Prop}{es:IEs}
theorem we_var {i:Nat}:W (semE Γ (.var i) ρ) M Q = ∃ d,ρ[i]?=some (some d)/\Q d M:=by
 refine propext ⟨fun ⟨b,M',e,q⟩=>?_,fun ⟨d,h,q⟩=>⟨d,M,ev_var h,q⟩⟩;simp only[q_semE_var]at e;unfold varD at e;cases h:ρ[i]? with
 | none=>rw[h]at e;cases e
 | some o =>
  rw[h]at e;cases o with
  | none=>cases e
  | some d=>cases e;exact⟨_,rfl,q⟩
theorem we_int {i:Int}:W (semE Γ (.cint i) ρ) M Q=Q (.int i) M:=w_pure _ M Q
theorem we_bl {i:Bool}:W (semE Γ (.cbl i) ρ) M Q=Q (.bl i) M:=w_pure _ M Q
theorem we_non:W (semE Γ .cnon ρ) M Q=Q .non M:=w_pure _ M Q
theorem we_str {i:Str}:W (semE Γ (.cstr i) ρ) M Q=Q (.str i) M:=w_pure _ M Q
theorem we_glb {i:Str}:W (semE Γ (.glb i) ρ) M Q = ∃ d,Γ.gl i=some d/\Q d M:=w_lift _ M Q
theorem we_bin {op:Operator}:W (semE Γ (.bin op a b) ρ) M Q=W (semE Γ a ρ) M fun x M1=>W (semE Γ b ρ) M1 fun y M2=>W (opD op x y) M2 Q:=by
 delta W;simp only[q_semE_bin,v_bind]
theorem we_cmp {op:CmpOp}:W (semE Γ (.cmp op a b) ρ) M Q=W (semE Γ a ρ) M fun x M1=>W (semE Γ b ρ) M1 fun y M2=>W (cmpD op x y) M2 fun k M3=>Q (.bl k) M3:=by
 delta W;simp only[q_semE_cmp,v_bind,v_pure]
theorem we_cmp2 {op op':CmpOp}:W (semE Γ (.cmp2 op op' a b c) ρ) M Q=W (semE Γ a ρ) M fun x M1=>W (semE Γ b ρ) M1 fun y M2=>W (cmpD op x y) M2 fun k M3=>(k=true->W (semE Γ c ρ) M3 fun z M4=>W (cmpD op' y z) M4 fun k' M5=>Q (.bl k') M5)/\(k=false->Q (.bl false) M3):=by
 delta W;simp only[q_semE_cmp2,v_bind,v_pure,v_if]
theorem we_and:W (semE Γ (.and a b) ρ) M Q=W (semE Γ a ρ) M fun x M1=>∃ k,boolD x=some k/\(k=true->W (semE Γ b ρ) M1 Q)/\(k=false->Q (.bl false) M1):=by
 delta W;simp only[q_semE_and,v_bind,v_pure,v_if,v_lift]
theorem we_or:W (semE Γ (.or a b) ρ) M Q=W (semE Γ a ρ) M fun x M1=>∃ k,boolD x=some k/\(k=true->Q (.bl true) M1)/\(k=false->W (semE Γ b ρ) M1 Q):=by
 delta W;simp only[q_semE_or,v_bind,v_pure,v_if,v_lift]
theorem we_not:W (semE Γ (.not a) ρ) M Q=W (semE Γ a ρ) M fun x M1=>∃ k,boolD x=some k/\Q (.bl (!k)) M1:=by
 delta W;simp only[q_semE_not,v_bind,v_pure,v_lift]
theorem we_ifE {q:IC}:W (semE Γ (.ifE q a b) ρ) M Q=W (semC Γ q ρ) M fun k M1=>(k=true->W (semE Γ a ρ) M1 Q)/\(k=false->W (semE Γ b ρ) M1 Q):=by
 delta W;simp only[q_semE_ifE,v_bind,v_if]
theorem we_tup:W (semE Γ (.tup es) ρ) M Q=W (semEs Γ es ρ) M fun xs M1=>xs.length<=sizeLine/\Q (.tup xs) M1:=by
 delta W;simp only[q_semE_tup,v_bind,v_pure,v_need]
theorem we_lst:W (semE Γ (.lst es) ρ) M Q=W (semEs Γ es ρ) M fun xs M1=>xs.length<=sizeLine/\Q (.ob M1.length) (M1++[.lst xs]):=by
 delta W;simp only[q_semE_lst,v_bind,v_newM,v_need]
theorem we_dic0:W (semE Γ .dic0 ρ) M Q=Q (.ob M.length) (M++[.dic []]):=w_newM _ M Q
theorem we_dtt0:W (semE Γ .dtt0 ρ) M Q=Q (.ob M.length) (M++[.dtt []]):=w_newM _ M Q
theorem we_idx:W (semE Γ (.idx a b) ρ) M Q=W (semE Γ a ρ) M fun x M1=>W (semE Γ b ρ) M1 fun y M2=>W (getIx x y) M2 Q:=by
 delta W;simp only[q_semE_idx,v_bind]
theorem we_slc {lo hi:IEo}:W (semE Γ (.slc a lo hi) ρ) M Q=W (semE Γ a ρ) M fun x M1=>W (semO Γ lo ρ) M1 fun l M2=>W (semO Γ hi ρ) M2 fun h M3=>W (sliceD x l h) M3 Q:=by
 delta W;simp only[q_semE_slc,v_bind]
theorem we_call {f:Str}:W (semE Γ (.call f es) ρ) M Q=W (semEs Γ es ρ) M fun xs M1=>W (Γ.fn f xs) M1 Q:=by
 delta W;simp only[q_semE_call,v_bind]
theorem we_blt {f:Bl}:W (semE Γ (.blt f es) ρ) M Q=W (semEs Γ es ρ) M fun xs M1=>W (blD f xs) M1 Q:=by
 delta W;simp only[q_semE_blt,v_bind]
theorem we_comp {j:Nat}{it:IT}{cc:ICo}:W (semE Γ (.comp j it cc a) ρ) M Q=W (semT Γ it ρ) M fun s M1=>s.ds.length<=sizeLine/\W (compD s.ck (semCo Γ cc) (semE Γ a) (ρ.set j none) s.ds) M1 fun ys M2=>Q (.ob M2.length) (M2++[.lst ys]):=by
 delta W;simp only[q_semE_comp,v_bind,v_newM,v_need]
theorem wes_nil {Q:List D->MH->Prop}:W (semEs Γ .nil ρ) M Q=Q [] M:=w_pure _ M Q
theorem wes_cons {Q:List D->MH->Prop}:W (semEs Γ (.cons a es) ρ) M Q=W (semE Γ a ρ) M fun x M1=>W (semEs Γ es ρ) M1 fun xs M2=>Q (x::xs) M2:=by
 delta W;simp only[q_semEs_cons,v_bind,v_pure]
theorem wo_none {Q:Option Int->MH->Prop}:W (semO Γ .none ρ) M Q=Q none M:=w_pure _ M Q
theorem wo_some {Q:Option Int->MH->Prop}:W (semO Γ (.some a) ρ) M Q=W (semE Γ a ρ) M fun x M1=>∃ i,x=.int i/\Q (some i) M1:=by
 delta W;simp only[q_semO_some,v_bind];refine congrArg _ (funext fun x=>funext fun M1=>?_);cases x <;> simp[v_stop,v_pure]
theorem wt_seq {Q:Src->MH->Prop}:W (semT Γ (.seq a) ρ) M Q=W (semE Γ a ρ) M fun x M1=>W (srcD x) M1 Q:=by
 delta W;simp only[q_semT_seq,v_bind]
theorem wt_rng1 {Q:Src->MH->Prop}:W (semT Γ (.rng1 a) ρ) M Q=W (semE Γ a ρ) M fun x M1=>∃ i,x=.int i/\small i/\Q ⟨none,rngD 0 i⟩ M1:=by
 delta W;simp only[q_semT_rng1,v_bind];refine congrArg _ (funext fun x=>funext fun M1=>?_);cases x <;> simp[v_stop,v_pure,v_bind,v_need]
section
variable {Q:Bool->MH->Prop}{q r:IC}
theorem wc_cmp:W (semC Γ (.cmp a) ρ) M Q=W (semE Γ a ρ) M fun x M1=>∃ k,boolD x=some k/\Q k M1:=by delta W;simp only[q_semC_cmp,v_bind,v_lift]
theorem wc_tru:W (semC Γ (.tru a) ρ) M Q=W (semE Γ a ρ) M fun x M1=>W (truD x) M1 Q:=by delta W;simp only[q_semC_tru,v_bind]
theorem wc_not:W (semC Γ (.not q) ρ) M Q=W (semC Γ q ρ) M fun k M1=>Q (!k) M1:=by delta W;simp only[q_semC_not,v_bind,v_pure]
theorem wc_and:W (semC Γ (.and q r) ρ) M Q=W (semC Γ q ρ) M fun k M1=>(k=true->W (semC Γ r ρ) M1 Q)/\(k=false->Q false M1):=by delta W;simp only[q_semC_and,v_bind,v_if,v_pure]
theorem wc_or:W (semC Γ (.or q r) ρ) M Q=W (semC Γ q ρ) M fun k M1=>(k=true->Q true M1)/\(k=false->W (semC Γ r ρ) M1 Q):=by delta W;simp only[q_semC_or,v_bind,v_if,v_pure]
theorem wco_none:W (semCo Γ .none ρ) M Q=Q true M:=w_pure _ M Q
theorem wco_some:W (semCo Γ (.some q) ρ) M Q=W (semC Γ q ρ) M Q:=by delta W;simp only[q_semCo_some]
end
section
variable {Q:Fl->MH->Prop}{s:IS}{r s1 s2:ISs}{q:IC}
noncomputable def nxt (Γ:Ctx)(r:ISs)(Q:Fl->MH->Prop)(f:Fl)(M:MH):Prop:=match f with
 | .nx ρ=>W (semSs Γ r ρ) M Q
 | .rt v=>Q (.rt v) M
 | .bk ρ=>Q (.bk ρ) M
 | .ct ρ=>Q (.ct ρ) M
theorem nxt_nx:nxt Γ r Q (.nx ρ) M=W (semSs Γ r ρ) M Q:=rfl
theorem nxt_rt {v:D}:nxt Γ r Q (.rt v) M=Q (.rt v) M:=rfl
theorem nxt_bk:nxt Γ r Q (.bk ρ) M=Q (.bk ρ) M:=rfl
theorem nxt_ct:nxt Γ r Q (.ct ρ) M=Q (.ct ρ) M:=rfl
theorem ws_nil:W (semSs Γ .nil ρ) M Q=Q (.nx ρ) M:=w_pure _ M Q
theorem ws_cons:W (semSs Γ (.cons s r) ρ) M Q=W (semS Γ s ρ) M (nxt Γ r Q):=by
 delta W;simp only[q_semSs_cons,v_bind];refine congrArg _ (funext fun f=>funext fun M1=>?_);cases f <;> simp[nxt,v_pure,W]
theorem ws_set {i:Nat}:W (semS Γ (.set i a) ρ) M Q=W (semE Γ a ρ) M fun x M1=>Q (.nx (ρ.set i (some x))) M1:=by delta W;simp only[q_semS_set,v_bind,v_pure]
theorem ws_setIx:W (semS Γ (.setIx a b c) ρ) M Q=W (semE Γ c ρ) M fun v M1=>W (semE Γ a ρ) M1 fun x M2=>W (semE Γ b ρ) M2 fun y M3=>W (setIx x y v) M3 fun _ M4=>Q (.nx ρ) M4:=by delta W;simp only[q_semS_setIx,v_bind,v_pure]
theorem ws_expr:W (semS Γ (.expr a) ρ) M Q=W (semE Γ a ρ) M fun _ M1=>Q (.nx ρ) M1:=by delta W;simp only[q_semS_expr,v_bind,v_pure]
theorem ws_ret:W (semS Γ (.ret a) ρ) M Q=W (semE Γ a ρ) M fun x M1=>Q (.rt x) M1:=by delta W;simp only[q_semS_ret,v_bind,v_pure]
theorem ws_retN:W (semS Γ .retN ρ) M Q=Q (.rt .non) M:=w_pure _ M Q
theorem ws_pass:W (semS Γ .pass ρ) M Q=Q (.nx ρ) M:=w_pure _ M Q
theorem ws_brk:W (semS Γ .brk ρ) M Q=Q (.bk ρ) M:=w_pure _ M Q
theorem ws_cnt:W (semS Γ .cnt ρ) M Q=Q (.ct ρ) M:=w_pure _ M Q
theorem ws_if:W (semS Γ (.ifS q s1 s2) ρ) M Q=W (semC Γ q ρ) M fun k M1=>(k=true->W (semSs Γ s1 ρ) M1 Q)/\(k=false->W (semSs Γ s2 ρ) M1 Q):=by delta W;simp only[q_semS_ifS,v_bind,v_if]
noncomputable def selS:Bool->ISs->ISs->ISs
 | true,a,_=>a
 | false,_,b=>b
theorem sel_t {a b:ISs}:selS true a b=a:=rfl
theorem sel_f {a b:ISs}:selS false a b=b:=rfl
theorem ws_sel:W (semS Γ (.ifS q s1 s2) ρ) M Q=W (semC Γ q ρ) M fun k M1=>W (semSs Γ (selS k s1 s2) ρ) M1 Q:=by
 rw[ws_if];refine congrArg _ (funext fun k=>funext fun M1=>?_);cases k <;> simp[selS]
theorem ws_for {i:Nat}{it:IT}:W (semS Γ (.forS i it s1) ρ) M Q=W (semT Γ it ρ) M fun s M1=>W (loopD s.ck i (semSs Γ s1) s.ds ρ) M1 Q:=by delta W;simp only[q_semS_forS,v_bind]
end
noncomputable def endF (Q:D->MH->Prop)(f:Fl)(M:MH):Prop:=match f with
 | .nx _=>Q .non M
 | .rt v=>Q v M
 | _=>False
theorem end_nx:endF Q (.nx ρ) M=Q .non M:=rfl
theorem end_rt {v:D}:endF Q (.rt v) M=Q v M:=rfl
theorem wf {n p:Nat}{b:ISs}{xs:List D}:W (do need (xs.length=p);semF Γ n b xs:Mo D) M Q=(xs.length=p/\W (semSs Γ b (xs.map some++List.replicate (n - xs.length) none)) M (endF Q)):=by
 rw[w_bind,w_need];unfold semF;rw[w_bind];refine congrArg _ (W_eq fun f M1=>?_);cases f <;> simp[endF,w_pure,w_stop]
end
end L3
namespace L3
open PySem
section
variable {M:MH}{Q:D->MH->Prop}{B:Bool->MH->Prop}{U:Unit->MH->Prop}{S:Src->MH->Prop}{x y v:D}
theorem p_addI {i j:Int}:W (opD .Add (.int i) (.int j)) M Q=Q (.int (i + j)) M:=w_pure _ M Q
theorem p_subI {i j:Int}:W (opD .Sub (.int i) (.int j)) M Q=Q (.int (i - j)) M:=w_pure _ M Q
theorem p_addS {i j:Str}:W (opD .Add (.str i) (.str j)) M Q=(i.length + j.length<=sizeLine/\Q (.str (i++j)) M):=by
 show W (need _ >>= fun _=>pure _) M Q=_;rw[w_bind,w_need,w_pure]
theorem p_addT {i j:List D}:W (opD .Add (.tup i) (.tup j)) M Q=(i.length + j.length<=sizeLine/\Q (.tup (i++j)) M):=by
 show W (need _ >>= fun _=>pure _) M Q=_;rw[w_bind,w_need,w_pure]
theorem p_addL {i j:Nat}:W (opD .Add (.ob i) (.ob j)) M Q = ∃ xs,M[i]?=some (.lst xs)/\∃ ys,M[j]?=some (.lst ys)/\xs.length + ys.length<=sizeLine/\Q (.ob M.length) (M++[.lst (xs++ys)]):=by
 show W (getL i >>= fun xs=>getL j >>= fun ys=>need _ >>= fun _=>newM _) M Q=_;delta W;simp only[v_bind,v_getL,v_need,v_newM]
theorem p_mul {i j:Int}:W (opD .Mult (.int i) (.int j)) M Q=(((-(2 ^ 64) < i/\i < 2 ^ 64)\/(-(2 ^ 64) < j/\j < 2 ^ 64))/\Q (.int (i * j)) M):=by
 show W (need _ >>= fun _=>pure _) M Q=_;rw[w_bind,w_need,w_pure]
theorem p_div {i j:Int}:W (opD .FloorDiv (.int i) (.int j)) M Q=((0 < j/\j < 1073741824)/\Q (.int (i / j)) M):=by
 show W (need _ >>= fun _=>pure _) M Q=_;rw[w_bind,w_need,w_pure]
theorem p_mod {i j:Int}:W (opD .Mod (.int i) (.int j)) M Q=(0 < j/\Q (.int (i % j)) M):=by
 show W (need _ >>= fun _=>pure _) M Q=_;rw[w_bind,w_need,w_pure]
theorem p_eq:W (cmpD .Eq x y) M B = ∃ b,eqO M 20 x y=some b/\B b M:=by
 show W (eqMo x y) M B=_;refine propext ⟨fun ⟨b,M',e,q⟩=>?_,fun ⟨b,e,q⟩=>⟨b,M,by unfold eqMo;rw[e],q⟩⟩;unfold eqMo at e;cases h:eqO M 20 x y with
 | none=>rw[h]at e;cases e
 | some k=>rw[h]at e;cases e;exact⟨_,rfl,q⟩
theorem p_ne:W (cmpD .NotEq x y) M B = ∃ b,eqO M 20 x y=some b/\B (!b) M:=by
 show W (cmpD .Eq x y >>= fun b=>pure (!b)) M B=_;rw[w_bind]
 have:∀ b M,W (pure (!b):Mo Bool) M B=B (!b) M:=fun b M=>w_pure _ M B
 rw[W_eq this,p_eq]
theorem eo_flat {n:Nat}(h1:flatD x=true)(h2:flatD y=true):eqO M (n + 1) x y=some (eqF x y):=by
 cases x <;> cases y <;> first | exact absurd h1 Bool.false_ne_true | exact absurd h2 Bool.false_ne_true | rfl
theorem eo_int {n:Nat}{i j:Int}:eqO M (n + 1) (.int i) (.int j)=some (i==j):=rfl
theorem eo_str {n:Nat}{i j:Str}:eqO M (n + 1) (.str i) (.str j)=some (i==j):=rfl
theorem eo_bl {n:Nat}{i j:Bool}:eqO M (n + 1) (.bl i) (.bl j)=some (i==j):=rfl
theorem eo_nn {n:Nat}:eqO M (n + 1) .non .non=some true:=rfl
theorem eo_ns {n:Nat}{j:Str}:eqO M (n + 1) .non (.str j)=some false:=rfl
theorem eo_sn {n:Nat}{j:Str}:eqO M (n + 1) (.str j) .non=some false:=rfl
theorem eo_tup {n:Nat}{i j:List D}:eqO M (n + 1) (.tup i) (.tup j)=eqL (eqO M n) i j:=rfl
theorem p_eqI {i j:Int}:W (cmpD .Eq (.int i) (.int j)) M B=B (i==j) M:=by rw[p_eq];simp[eo_int]
theorem p_eqS {i j:Str}:W (cmpD .Eq (.str i) (.str j)) M B=B (i==j) M:=by rw[p_eq];simp[eo_str]
theorem p_ltI {i j:Int}:W (cmpD .Lt (.int i) (.int j)) M B=B (decide (i < j)) M:=w_pure _ M B
theorem p_leI {i j:Int}:W (cmpD .LtE (.int i) (.int j)) M B=B (decide (i<=j)) M:=w_pure _ M B
theorem p_gtI {i j:Int}:W (cmpD .Gt (.int i) (.int j)) M B=B (decide (j < i)) M:=w_pure _ M B
theorem p_geI {i j:Int}:W (cmpD .GtE (.int i) (.int j)) M B=B (decide (j<=i)) M:=w_pure _ M B
theorem p_leS {i j:Str}:W (cmpD .LtE (.str i) (.str j)) M B=B (!decide (j.cps.toList < i.cps.toList)) M:=w_pure _ M B
theorem p_ltS {i j:Str}:W (cmpD .Lt (.str i) (.str j)) M B=B (decide (i.cps.toList < j.cps.toList)) M:=w_pure _ M B
theorem p_in:W (cmpD .In x y) M B=W (inD x y) M B:=rfl
theorem p_notIn:W (cmpD .NotIn x y) M B=W (inD x y) M fun k M1=>B (!k) M1:=by
 show W (inD x y >>= fun b=>pure (!b)) M B=_;delta W;simp only[v_bind,v_pure]
theorem p_inS {i j:Str}:W (inD (.str i) (.str j)) M B=B (strOcc j i) M:=w_pure _ M B
theorem w_inMo {ds:List D}:W (inMo x ds) M B = ∃ b,inL M x ds=some b/\B b M:=by
 refine propext ⟨fun ⟨b,M',e,q⟩=>?_,fun ⟨b,e,q⟩=>⟨b,M,by unfold inMo;rw[e],q⟩⟩;unfold inMo at e;cases h:inL M x ds with
 | none=>rw[h]at e;cases e
 | some k=>rw[h]at e;cases e;exact⟨_,rfl,q⟩
theorem inL_flat (h1:flatD x=true):∀ {ds:List D},ds.all flatD=true->inL M x ds=some (ds.any fun d=>eqF d x)
 | [],_=>rfl
 | d::ds,h=>by
  rw[List.all_cons,Bool.and_eq_true]at h;unfold inL;rw[eo_flat h.1 h1,inL_flat h1 h.2];rfl
theorem p_inT {ds:List D}:W (inD x (.tup ds)) M B = ∃ b,inL M x ds=some b/\B b M:=w_inMo
theorem p_is:W (cmpD .Is x y) M B=(isN y=true/\B (isN x) M):=by
 show W (need _ >>= fun _=>pure _) M B=_;rw[w_bind,w_need,w_pure]
theorem p_isnot:W (cmpD .IsNot x y) M B=(isN y=true/\B (!isN x) M):=by
 show W (need _ >>= fun _=>pure _) M B=_;rw[w_bind,w_need,w_pure]
theorem g_tup {ds:List D}{i:Int}:W (getIx (.tup ds) (.int i)) M Q = ∃ d,atD ds i=some d/\Q d M:=w_lift _ M Q
theorem g_fl {ds:List D}{i:Int}:W (getIx (.fl ds) (.int i)) M Q = ∃ d,atD ds i=some d/\Q d M:=w_lift _ M Q
theorem g_str {t:Str}{i:Int}:W (getIx (.str t) (.int i)) M Q=(t.length<=sizeLine/\∃ c,atD t.cps.toList i=some c/\Q (sgn c) M):=by
 show W (need _ >>= fun _=>lift (atD t.cps.toList i) >>= fun c=>pure (sgn c)) M Q=_;delta W;simp only[v_bind,v_need,v_lift,v_pure]
noncomputable def obIx (o:MO)(y:D)(M:MH)(Q:D->MH->Prop):Prop:=match o with
 | .lst ds=>∃ i,y=.int i/\∃ d,atD ds i=some d/\Q d M
 | .dic kvs=>∃ k,kyD y=some k/\∃ d,kvGet kvs k=some d/\Q d M
 | .dtt kvs=>∃ k,kyT y=some k/\∃ d,tkGet kvs k=some d/\Q d M
theorem g_obl {ds:List D}{i:Int}:obIx (.lst ds) (.int i) M Q = ∃ d,atD ds i=some d/\Q d M:=by simp[obIx]
theorem g_obd {kvs:List (Ky×D)}:obIx (.dic kvs) y M Q = ∃ k,kyD y=some k/\∃ d,kvGet kvs k=some d/\Q d M:=rfl
theorem g_obt {kvs:List (List (List Ky)×D)}:obIx (.dtt kvs) y M Q = ∃ k,kyT y=some k/\∃ d,tkGet kvs k=some d/\Q d M:=rfl
theorem g_ob {j:Nat}:W (getIx (.ob j) y) M Q = ∃ o,M[j]?=some o/\obIx o y M Q:=by
 have e:getIx (.ob j) y=(getM j >>= fun o=>(match o with
  | .lst ds=>(match y with
   | .int i=>lift (atD ds i)
   | _=>Mo.stop)
  | .dic kvs=>(do let q <- lift (kyD y);lift (kvGet kvs q))
  | .dtt kvs=>(do let q <- lift (kyT y);lift (tkGet kvs q))
  ):Mo D):=by cases y <;> rfl
 rw[e,w_bind,w_getM];refine congrArg _ (funext fun o=>congrArg _ ?_);cases o with
 | lst ds=>cases y <;> simp[obIx,w_stop,w_lift]
 | dic kvs=>simp[obIx,w_bind,w_lift]
 | dtt kvs=>simp[obIx,w_bind,w_lift]
noncomputable def obSet (j:Nat)(o:MO)(y v:D)(M:MH)(U:Unit->MH->Prop):Prop:=match o with
 | .lst ds=>∃ i,y=.int i/\∃ n,ixD ds.length i=some n/\U () (M.set j (.lst (ds.set n v)))
 | .dic kvs=>∃ k,kyD y=some k/\kvs.length < sizeLine/\U () (M.set j (.dic (kvPut kvs k v)))
 | .dtt kvs=>∃ k,kyT y=some k/\kvs.length < sizeLine/\U () (M.set j (.dtt (tkPut kvs k v)))
theorem t_obl {j:Nat}{ds:List D}{i:Int}:obSet j (.lst ds) (.int i) v M U = ∃ n,ixD ds.length i=some n/\U () (M.set j (.lst (ds.set n v))):=by simp[obSet]
theorem t_obd {j:Nat}{kvs:List (Ky×D)}:obSet j (.dic kvs) y v M U = ∃ k,kyD y=some k/\kvs.length < sizeLine/\U () (M.set j (.dic (kvPut kvs k v))):=rfl
theorem t_obt {j:Nat}{kvs:List (List (List Ky)×D)}:obSet j (.dtt kvs) y v M U = ∃ k,kyT y=some k/\kvs.length < sizeLine/\U () (M.set j (.dtt (tkPut kvs k v))):=rfl
theorem t_ob {j:Nat}:W (setIx (.ob j) y v) M U = ∃ o,M[j]?=some o/\obSet j o y v M U:=by
 show W (getM j >>= _) M U=_;rw[w_bind,w_getM];refine congrArg _ (funext fun o=>?_);refine propext (and_congr_right fun h=>?_);have hl:j < M.length:=(List.getElem?_eq_some_iff.mp h).1;cases o with
 | lst ds=>cases y <;> simp[obSet,w_stop,w_lift,w_bind,w_putM,hl]
 | dic kvs=>simp[obSet,w_bind,w_lift,w_need,w_putM,hl]
 | dtt kvs=>simp[obSet,w_bind,w_lift,w_need,w_putM,hl]
theorem z_str {t:Str}{lo hi:Option Int}:W (sliceD (.str t) lo hi) M Q=(t.length<=sizeLine/\Q (.str ⟨(cutD t.cps.toList lo hi).toArray⟩) M):=by
 show W (need _ >>= fun _=>pure _) M Q=_;rw[w_bind,w_need,w_pure]
theorem z_lst {j:Nat}{lo hi:Option Int}:W (sliceD (.ob j) lo hi) M Q = ∃ ds,M[j]?=some (.lst ds)/\Q (.ob M.length) (M++[.lst (cutD ds lo hi)]):=by
 show W (getL j >>= fun ds=>newM _) M Q=_;delta W;simp only[v_bind,v_getL,v_newM]
theorem z_tup {ds:List D}{lo hi:Option Int}:W (sliceD (.tup ds) lo hi) M Q=Q (.tup (cutD ds lo hi)) M:=w_pure _ M Q
theorem z_fl {ds:List D}{lo hi:Option Int}:W (sliceD (.fl ds) lo hi) M Q=Q (.ob M.length) (M++[.lst (cutD ds lo hi)]):=w_newM _ M Q
theorem k_lenS {t:Str}:W (blD .len [.str t]) M Q=(t.length<=sizeLine/\Q (.int t.length) M):=by
 show W (need _ >>= fun _=>pure _) M Q=_;rw[w_bind,w_need,w_pure]
noncomputable def obG (o:MO)(p:Prop):Prop:=match o with
 | .dtt _=>False
 | _=>p
theorem og_l {ds:List D}{p:Prop}:obG (.lst ds) p=p:=rfl
theorem og_d {ds:List (Ky×D)}{p:Prop}:obG (.dic ds) p=p:=rfl
noncomputable def lenO (o:MO):Int:=match o with
 | .lst ds=>ds.length
 | .dic kvs=>kvs.length
 | .dtt _=>0
theorem k_lenO {j:Nat}:W (blD .len [.ob j]) M Q = ∃ o,M[j]?=some o/\obG o (Q (.int (lenO o)) M):=by
 show W (getM j >>= _) M Q=_;rw[w_bind,w_getM];refine congrArg _ (funext fun o=>congrArg _ ?_);cases o <;> simp[lenO,obG,w_pure,w_stop]
theorem k_lenl {ds:List D}:lenO (.lst ds)=ds.length:=rfl
theorem k_lend {ds:List (Ky×D)}:lenO (.dic ds)=ds.length:=rfl
theorem k_lenT {ds:List D}:W (blD .len [.tup ds]) M Q=Q (.int ds.length) M:=w_pure _ M Q
theorem k_lenF {ds:List D}:W (blD .len [.fl ds]) M Q=Q (.int ds.length) M:=w_pure _ M Q
theorem k_tupL {j:Nat}:W (blD .tuple [.ob j]) M Q = ∃ ds,M[j]?=some (.lst ds)/\Q (.tup ds) M:=by
 show W (getL j >>= fun ds=>pure _) M Q=_;delta W;simp only[v_bind,v_getL,v_pure]
theorem k_all {j:Nat}:W (blD .all [.ob j]) M Q = ∃ ds,M[j]?=some (.lst ds)/\∃ bs,ds.mapM boolD=some bs/\Q (.bl (bs.all id)) M:=by
 show W (getL j >>= fun ds=>lift (ds.mapM boolD) >>= fun bs=>pure _) M Q=_;delta W;simp only[v_bind,v_getL,v_lift,v_pure]
theorem k_any {j:Nat}:W (blD .any [.ob j]) M Q = ∃ ds,M[j]?=some (.lst ds)/\∃ bs,ds.mapM boolD=some bs/\Q (.bl (bs.any id)) M:=by
 show W (getL j >>= fun ds=>lift (ds.mapM boolD) >>= fun bs=>pure _) M Q=_;delta W;simp only[v_bind,v_getL,v_lift,v_pure]
theorem k_max {i j:Int}:W (blD .max2 [.int i,.int j]) M Q=Q (.int (max i j)) M:=by
 have e:max i j=if j > i then j else i:=by split <;> omega
 rw[e];exact w_pure _ M Q
theorem y_tup {ds:List D}:W (srcD (.tup ds)) M S=S ⟨none,ds⟩ M:=w_pure _ M S
theorem y_fl {ds:List D}:W (srcD (.fl ds)) M S=S ⟨none,ds⟩ M:=w_pure _ M S
theorem y_lst {j:Nat}:W (srcD (.ob j)) M S = ∃ ds,M[j]?=some (.lst ds)/\S ⟨some (j,ds),ds⟩ M:=by
 show W (getL j >>= fun ds=>pure _) M S=_;delta W;simp only[v_bind,v_getL,v_pure]
theorem u_bl {b:Bool}:W (truD (.bl b)) M B=B b M:=w_pure _ M B
theorem u_tup {ds:List D}:W (truD (.tup ds)) M B=B (!ds.isEmpty) M:=w_pure _ M B
theorem u_int {b:Int}:W (truD (.int b)) M B=B (b != 0) M:=w_pure _ M B
theorem b_bl {b:Bool}:boolD (.bl b)=some b:=rfl
theorem w_compI {ck:Option (Nat×List D)}{c:Ev->Mo Bool}{e:Ev->Mo D}{ρ:Ev}{ds:List D}{L:List D->MH->Prop}(I:Nat->List D->MH->Prop)(h0:I 0 [] M)(hs:∀ n ys M,I n ys M->okM ck M)
  (h:∀ (n:Nat) (d:D) (ys:List D) (M:MH),ds[n]?=some d->I n ys M->W (c (some d::ρ)) M fun b M1=>(b=true->W (e (some d::ρ)) M1 fun y M2=>I (n + 1) (ys++[y]) M2)/\(b=false->I (n + 1) ys M1))
  (q:∀ ys M,I ds.length ys M->L ys M):W (compD ck c e ρ ds) M L:=by
 suffices H:∀ (r:List D) (n:Nat) (ys:List D) (M:MH),(∀ j d,r[j]?=some d->ds[n + j]?=some d)->n + r.length=ds.length->I n ys M->W (compD ck c e ρ r) M fun zs M'=>L (ys++zs) M' by
  simpa using H ds 0 [] M (fun j d e=>by simpa using e) (by simp) h0
 intro r;induction r with
 | nil =>
  intro n ys M _ hn hI;unfold compD;rw[w_bind];refine W.of (show stand ck M=some (.ok (),M) from if_pos (hs _ _ _ hI)) ?_;rw[w_pure,List.append_nil]
  have:n=ds.length:=by simpa using hn
  exact q _ _ (this ▸ hI)
 | cons d r ih =>
  intro n ys M hr hn hI;unfold compD;rw[w_bind];refine W.of (show stand ck M=some (.ok (),M) from if_pos (hs _ _ _ hI)) ?_;rw[w_bind];have hd:ds[n]?=some d:=by simpa using hr 0 d rfl
  have hr':∀ j d',r[j]?=some d'->ds[n + 1 + j]?=some d':=fun j d' e=>by
   have:=hr (j + 1) d' (by simpa using e)
   rwa [show n + (j + 1)=n + 1 + j by omega]at this
  have hn':n + 1 + r.length=ds.length:=by rw[List.length_cons]at hn;first | lia | omega
  refine(h n d ys M hd hI).mono fun b M1 hb=>?_;rw[w_if];refine⟨fun hb'=>?_,fun hb'=>ih (n + 1) ys M1 hr' hn' (hb.2 hb')⟩;rw[w_bind];refine(hb.1 hb').mono fun y M2 hI2=>?_;rw[w_bind];refine(ih (n + 1) (ys++[y]) M2 hr' hn' hI2).mono fun zs M3 hL=>?_;rw[w_pure];simpa using hL
noncomputable def loopF (I:Nat->Ev->MH->Prop)(F:Fl->MH->Prop)(n:Nat)(f:Fl)(M1:MH):Prop:=match f with
 | .nx ρ'=>I (n + 1) ρ' M1
 | .ct ρ'=>I (n + 1) ρ' M1
 | .bk ρ'=>F (.nx ρ') M1
 | .rt v=>F (.rt v) M1
theorem lf_nx {I:Nat->Ev->MH->Prop}{F:Fl->MH->Prop}{n:Nat}{ρ:Ev}:loopF I F n (.nx ρ) M=I (n + 1) ρ M:=rfl
theorem lf_ct {I:Nat->Ev->MH->Prop}{F:Fl->MH->Prop}{n:Nat}{ρ:Ev}:loopF I F n (.ct ρ) M=I (n + 1) ρ M:=rfl
theorem lf_bk {I:Nat->Ev->MH->Prop}{F:Fl->MH->Prop}{n:Nat}{ρ:Ev}:loopF I F n (.bk ρ) M=F (.nx ρ) M:=rfl
theorem lf_rt {I:Nat->Ev->MH->Prop}{F:Fl->MH->Prop}{n:Nat}{v:D}:loopF I F n (.rt v) M=F (.rt v) M:=rfl
theorem w_loop {ck:Option (Nat×List D)}{i:Nat}{body:Ev->Mo Fl}{ds:List D}{ρ:Ev}{F:Fl->MH->Prop}(I:Nat->Ev->MH->Prop)(h0:I 0 ρ M)(hs:∀ n ρ M,I n ρ M->okM ck M)
  (h:∀ (n:Nat) (d:D) (ρ:Ev) (M:MH),ds[n]?=some d->I n ρ M->W (body (ρ.set i (some d))) M (loopF I F n))
  (q:∀ ρ M,I ds.length ρ M->F (.nx ρ) M):W (loopD ck i body ds ρ) M F:=by
 suffices H:∀ (r:List D) (n:Nat) (ρ:Ev) (M:MH),(∀ j d,r[j]?=some d->ds[n + j]?=some d)->n + r.length=ds.length->I n ρ M->W (loopD ck i body r ρ) M F from
  H ds 0 ρ M (fun j d e=>by simpa using e) (by simp) h0
 intro r;induction r with
 | nil =>
  intro n ρ M _ hn hI;unfold loopD;rw[w_bind];refine W.of (show stand ck M=some (.ok (),M) from if_pos (hs _ _ _ hI)) ?_;rw[w_pure]
  have:n=ds.length:=by simpa using hn
  exact q _ _ (this ▸ hI)
 | cons d r ih =>
  intro n ρ M hr hn hI;unfold loopD;rw[w_bind];refine W.of (show stand ck M=some (.ok (),M) from if_pos (hs _ _ _ hI)) ?_;rw[w_bind];have hd:ds[n]?=some d:=by simpa using hr 0 d rfl
  have hr':∀ j d',r[j]?=some d'->ds[n + 1 + j]?=some d':=fun j d' e=>by
   have:=hr (j + 1) d' (by simpa using e)
   rwa [show n + (j + 1)=n + 1 + j by omega]at this
  have hn':n + 1 + r.length=ds.length:=by rw[List.length_cons]at hn;first | lia | omega
  refine(h n d ρ M hd hI).mono fun f M1 hf=>?_;cases f with
  | nx ρ'=>exact ih (n + 1) ρ' M1 hr' hn' hf
  | ct ρ'=>exact ih (n + 1) ρ' M1 hr' hn' hf
  | bk ρ'=>exact(w_pure _ _ _).mpr hf
  | rt v=>exact(w_pure _ _ _).mpr hf
end
end L3
namespace L3
open PySem
theorem ky_str {x:Str}:kyD (.str x)=some (.inr x):=rfl
theorem ky_int {x:Int}:kyD (.int x)=some (.inl x):=rfl
theorem eq_str {a b:Str}:eqF (.str a) (.str b)=(a==b):=rfl
theorem eq_int {a b:Int}:eqF (.int a) (.int b)=(a==b):=rfl
end L3
namespace L3
open PySem
section
variable {Γ:Ctx}{ρ:Ev}{M:MH}{a b c:IE}{Q:D->MH->Prop}{es:IEs}{x y:D}{B:Bool->MH->Prop}
theorem we_neg:W (semE Γ (.neg a) ρ) M Q=W (semE Γ a ρ) M fun x M1=>∃ i,x=.int i/\Q (.int (-i)) M1:=by
 delta W;simp only[q_semE_neg,v_bind];refine congrArg _ (funext fun x=>funext fun M1=>?_);cases x <;> simp[v_stop,v_pure]
theorem q_semE_srtT {Γ:Ctx}:∀ a ρ,semE Γ (.srtT a) ρ=(do let x <- semE Γ a ρ;keyTT Γ.srt x):=fun _ _=>rfl
theorem we_srtT:W (semE Γ (.srtT a) ρ) M Q=W (semE Γ a ρ) M fun x M1=>W (keyTT Γ.srt x) M1 Q:=by delta W;simp only[q_semE_srtT,v_bind]
theorem we_sortL:W (semE Γ (.sortL a) ρ) M Q=W (semE Γ a ρ) M fun x M1=>W (lstD x) M1 fun ds M2=>∃ ys,Γ.srt ds=some ys/\Q (.ob M2.length) (M2++[.lst ys]):=by
 delta W;simp only[q_semE_sortL,v_bind,v_lift,v_newM]
theorem we_revL:W (semE Γ (.revL a) ρ) M Q=W (semE Γ a ρ) M fun x M1=>W (lstD x) M1 fun ds M2=>Q (.ob M2.length) (M2++[.lst ds.reverse]):=by
 delta W;simp only[q_semE_revL,v_bind,v_newM]
theorem we_isI {t:Ty}:W (semE Γ (.isI a t) ρ) M Q=W (semE Γ a ρ) M fun x M1=>W (tyD t x) M1 fun k M2=>Q (.bl k) M2:=by
 delta W;simp only[q_semE_isI,v_bind,v_pure]
theorem we_mth {m:Mt}:W (semE Γ (.mth m a es) ρ) M Q=W (semE Γ a ρ) M fun x M1=>W (rcvD m x) M1 fun _ M2=>W (semEs Γ es ρ) M2 fun xs M3=>W (mtD m x xs) M3 Q:=by
 delta W;simp only[q_semE_mth,v_bind]
theorem p_pow {i j:Int}:W (opD .Pow (.int i) (.int j)) M Q=((0<=j/\j<=1000000/\i.natAbs < 2 ^ 64)/\Q (.int (i ^ j.toNat)) M):=by
 show W (need _ >>= fun _=>pure _) M Q=_;rw[w_bind,w_need,w_pure]
theorem q_non {t:Ty}:W (tyD t .non) M B=B false M:=w_pure _ M B
theorem q_bl {t:Ty}{k:Bool}:W (tyD t (.bl k)) M B=B (t==.bool||t==.int) M:=w_pure _ M B
theorem q_int {t:Ty}{k:Int}:W (tyD t (.int k)) M B=B (t==.int) M:=w_pure _ M B
theorem q_str {t:Ty}{k:Str}:W (tyD t (.str k)) M B=B (t==.str) M:=w_pure _ M B
theorem q_tup {t:Ty}{k:List D}:W (tyD t (.tup k)) M B=B (t==.tuple) M:=w_pure _ M B
theorem q_fl {t:Ty}{k:List D}:W (tyD t (.fl k)) M B=B (t==.list) M:=w_pure _ M B
theorem i_tup {ds:List D}{L:List D->MH->Prop}:W (itemsD (.tup ds)) M L=L ds M:=w_pure _ M L
theorem i_fl {ds:List D}{L:List D->MH->Prop}:W (itemsD (.fl ds)) M L=L ds M:=w_pure _ M L
theorem i_ob {k:Nat}{L:List D->MH->Prop}:W (itemsD (.ob k)) M L = ∃ ds,M[k]?=some (.lst ds)/\L ds M:=w_getL k M L
theorem l_fl {ds:List D}{L:List D->MH->Prop}:W (lstD (.fl ds)) M L=L ds M:=w_pure _ M L
theorem l_ob {k:Nat}{L:List D->MH->Prop}:W (lstD (.ob k)) M L = ∃ ds,M[k]?=some (.lst ds)/\L ds M:=w_getL k M L
theorem k_listI:W (blD .list [x]) M Q=W (itemsD x) M fun ds M1=>Q (.ob M1.length) (M1++[.lst ds]):=by
 show W (itemsD x >>= fun ds=>newM (.lst ds)) M Q=_;delta W;simp only[v_bind,v_newM]
section
variable {U:Unit->MH->Prop}
theorem r_append {k:Nat}:W (rcvD .append (.ob k)) M U = ∃ ds,M[k]?=some (.lst ds)/\U () M:=by
 show W (getL k >>= fun _=>pure ()) M U=_;delta W;simp only[v_bind,v_getL,v_pure]
theorem r_insert {k:Nat}:W (rcvD .insert (.ob k)) M U = ∃ ds,M[k]?=some (.lst ds)/\U () M:=r_append
theorem r_extend {k:Nat}:W (rcvD .extend (.ob k)) M U = ∃ ds,M[k]?=some (.lst ds)/\U () M:=r_append
theorem r_join {k:Str}:W (rcvD .join (.str k)) M U=U () M:=w_pure _ M U
end
theorem w_set {β:Type}{k:Nat}{o:MO}{r:β}{R:β->MH->Prop}{ds:List D}(h:M[k]?=some (.lst ds)):W (putM k o >>= fun _=>pure r) M R=R r (M.set k o):=by
 rw[w_bind,w_putM];have e:W (pure r:Mo β) (M.set k o) R=R r (M.set k o):=w_pure _ _ _;rw[e];simp[lt_of_get h]
theorem m_append {k:Nat}:W (mtD .append (.ob k) [y]) M Q = ∃ ds,M[k]?=some (.lst ds)/\ds.length < sizeLine/\Q .non (M.set k (.lst (ds++[y]))):=by
 show W (getL k >>= fun ds=>need _ >>= fun _=>putM k _ >>= fun _=>pure D.non) M Q=_;rw[w_bind,w_getL];refine congrArg _ (funext fun ds=>propext (and_congr_right fun h=>?_));rw[w_bind,w_need,w_set h]
theorem m_insert {k:Nat}{i:Int}:W (mtD .insert (.ob k) [.int i,y]) M Q = ∃ ds,M[k]?=some (.lst ds)/\(ds.length < sizeLine/\-(2 ^ 62)<=i/\i < 2 ^ 62)/\Q .non (M.set k (.lst (insD ds i y))):=by
 show W (getL k >>= fun ds=>need _ >>= fun _=>putM k _ >>= fun _=>pure D.non) M Q=_;rw[w_bind,w_getL];refine congrArg _ (funext fun ds=>propext (and_congr_right fun h=>?_));rw[w_bind,w_need,w_set h]
theorem m_join {t:Str}{k:Nat}:W (mtD .join (.str t) [.ob k]) M Q = ∃ ds,M[k]?=some (.lst ds)/\∃ ys,ds.mapM strD=some ys/\(ys.map (·.length)).sum + ys.length * t.length<=16777216/\Q (.str (joinS t ys)) M:=by
 show W (getL k >>= fun ds=>lift _ >>= fun ys=>need _ >>= fun _=>pure _) M Q=_;delta W;simp only[v_bind,v_getL,v_need,v_lift,v_pure]
theorem m_extendL {k j:Nat}:W (mtD .extend (.ob k) [.ob j]) M Q = ∃ es,M[j]?=some (.lst es)/\∃ ds,M[k]?=some (.lst ds)/\(ds.length + es.length<=sizeLine/\(j==k)=false)/\Q .non (M.set k (.lst (ds++es))):=by
 show W (getL j >>= fun es=>getL k >>= fun ds=>need _ >>= fun _=>putM k _ >>= fun _=>pure D.non) M Q=_;rw[w_bind,w_getL];refine congrArg _ (funext fun es=>propext (and_congr_right fun h0=>?_));rw[w_bind,w_getL];refine exists_congr fun ds=>and_congr_right fun h=>?_;rw[w_bind,w_need,w_set h];rfl
theorem ws_halt {F:Fl->MH->Prop}:W (semS Γ .halt ρ) M F=False:=w_stop M F
end
section
variable {α:Type}{a b c d e f g:α}{l:List α}
theorem at0:atD (a::l) 0=some a:=by simp[atD,ixD]
theorem at1:atD (a::b::l) 1=some b:=atD_nat (j:=1) rfl
theorem at2:atD (a::b::c::l) 2=some c:=atD_nat (j:=2) rfl
theorem at3:atD (a::b::c::d::l) 3=some d:=atD_nat (j:=3) rfl
theorem at4:atD (a::b::c::d::e::l) 4=some e:=atD_nat (j:=4) rfl
theorem at6:atD (a::b::c::d::e::f::g::l) 6=some g:=atD_nat (j:=6) rfl
end
theorem cut_hi {α:Type}(xs:List α){v:Int}(h:0<=v):cutD xs none (some v)=xs.take v.toNat:=by
 unfold cutD;simp only[cutIx];rw[if_neg (by first | lia | omega),Nat.sub_zero,List.drop_zero]
 by_cases h2:v.toNat<=xs.length
 ·rw[Nat.min_eq_left h2]
 ·rw[Nat.min_eq_right (by first | lia | omega),List.take_length,List.take_of_length_le (by first | lia | omega)]
theorem cut_lo {α:Type}(xs:List α){v:Int}(h:0<=v):cutD xs (some v) none=xs.drop v.toNat:=by
 unfold cutD;simp only[cutIx];rw[if_neg (by first | lia | omega)]
 by_cases h2:v.toNat<=xs.length
 ·rw[Nat.min_eq_left h2,List.take_of_length_le (by rw[List.length_drop];exact Nat.le_refl _)]
 ·rw[Nat.min_eq_right (by first | lia | omega),List.drop_length,List.drop_of_length_le (by first | lia | omega)]
  simp
theorem nodup_map_range {α:Type}{f:Nat->α}{m:Nat}(h:∀ i j,i < m->j < m->f i=f j->i=j):((List.range m).map f).Nodup:=by
 rw[List.Nodup,List.pairwise_map];refine(List.nodup_range (n:=m)).imp_of_mem fun {a b} ha hb hne he=>hne (h a b (List.mem_range.mp ha) (List.mem_range.mp hb) he)
theorem eqL_refl {f:D->D->Option Bool}:∀ {xs:List D},(∀ x∈xs,f x x=some true)->eqL f xs xs=some true
 | [],_=>rfl
 | x::xs,h=>by
  unfold eqL;rw[h x List.mem_cons_self,eqL_refl fun y hy=>h y (List.mem_cons_of_mem _ hy)];rfl
theorem eqF_refl {x:D}(h:flatD x=true):eqF x x=true:=by
 cases x <;> first | rfl | exact absurd h Bool.false_ne_true | simp[eqF]
theorem eo_reflF {M:MH}{n:Nat}{x:D}(h:flatD x=true):eqO M (n + 1) x x=some true:=by rw[eo_flat h h,eqF_refl h]
noncomputable def plainD:Nat->D->Bool
 | 0,_=>false
 | n + 1,.tup ds=>ds.all (plainD n)
 | _ + 1,d=>flatD d
theorem eo_reflP {M:MH}:∀ {n:Nat} {x:D},plainD n x=true->eqO M n x x=some true
 | 0,_,h=>by cases h
 | n + 1,x,h=>by
  cases x with
  | tup ds =>
   rw[eo_tup];exact eqL_refl fun y hy=>eo_reflP (List.all_eq_true.mp h y hy)
  | fl ds=>cases h
  | ob i=>cases h
  | _=>exact eo_reflF rfl
theorem eo_ob {M:MH}{n i j:Nat}{xs ys:List D}(h1:M[i]?=some (.lst xs))(h2:M[j]?=some (.lst ys)):eqO M (n + 1) (.ob i) (.ob j)=if xs.length=ys.length then eqL (eqO M n) xs ys else some false:=by
 show (match M[i]?,M[j]? with
   | some (.lst xs),some (.lst ys)=>if xs.length=ys.length then eqL (eqO M n) xs ys else some false
   | _,_=>none)=_
 rw[h1,h2]
theorem eo_obP {M:MH}{n i j:Nat}{xs:List D}(h1:M[i]?=some (.lst xs))(h2:M[j]?=some (.lst xs))(h:∀ x∈xs,plainD n x=true):eqO M (n + 1) (.ob i) (.ob j)=some true:=by
 rw[eo_ob h1 h2,if_pos rfl];exact eqL_refl fun x hx=>eo_reflP (h x hx)
noncomputable def dropS:Nat->ISs->ISs
 | 0,s=>s
 | n + 1,.cons _ r=>dropS n r
 | _ + 1,.nil=>.nil
theorem drop_0 {s:ISs}:dropS 0 s=s:=rfl
noncomputable def cutS:Nat->ISs->ISs->ISs
 | 0,_,t=>t
 | n + 1,.cons s r,t=>.cons s (cutS n r t)
 | _ + 1,.nil,t=>t
theorem cut_0 {s t:ISs}:cutS 0 s t=t:=rfl
theorem cut_s {n:Nat}{s:IS}{r t:ISs}:cutS (n + 1) (.cons s r) t=.cons s (cutS n r t):=rfl
theorem cut_S:∀ (n:Nat) (b:ISs),b=cutS n b (dropS n b)
 | 0,_=>rfl
 | n + 1,.cons s r=>congrArg _ (cut_S n r)
 | _ + 1,.nil=>rfl
theorem drop_s {n:Nat}{s:IS}{r:ISs}:dropS (n + 1) (.cons s r)=dropS n r:=rfl
end L3
namespace L3
open PySem
section
variable {Γ:Ctx}{ρ:Ev}{M:MH}{Q:D->MH->Prop}{x y v:D}{a:IE}{s1:ISs}{U:Unit->MH->Prop}{B:Bool->MH->Prop}{S:Src->MH->Prop}{F:Fl->MH->Prop}
theorem k_minL {j:Nat}:W (blD .minL [.ob j]) M Q = ∃ ds,M[j]?=some (.lst ds)/\∃ ns,allI ds=some ns/\ns≠[]/\Q (.int (minI ns)) M:=by
 show W (getL j >>= fun ds=>lift (allI ds) >>= fun ns=>need (ns≠[]) >>= fun _=>pure _) M Q=_;delta W;simp only[v_bind,v_getL,v_lift,v_need,v_pure]
theorem w_getT (i:Nat)(M:MH)(Q:List (List (List Ky)×D)->MH->Prop):W (getT i) M Q = ∃ ds,M[i]?=some (.dtt ds)/\Q ds M:=by
 refine propext ⟨fun ⟨b,M',e,q⟩=>?_,fun ⟨a,ho,q⟩=>⟨a,M,by unfold getT;rw[ho],q⟩⟩;unfold getT at e;split at e
 ·rename_i o h;cases e;exact⟨_,h,q⟩
 ·cases e
theorem v_getT (i:Nat)(M:MH)(Q:List (List (List Ky)×D)->MH->Prop):Wp (getT i) M Q = ∃ ds,M[i]?=some (.dtt ds)/\Q ds M:=w_getT i M Q
theorem r_sdf {k:Nat}:W (rcvD .sdf (.ob k)) M U = ∃ ds,M[k]?=some (.dtt ds)/\U () M:=by
 show W (getT k >>= fun _=>pure ()) M U=_;delta W;simp only[v_bind,v_getT,v_pure]
theorem m_sdf {k:Nat}:W (mtD .sdf (.ob k) [y,v]) M Q = ∃ kvs,M[k]?=some (.dtt kvs)/\∃ q,kyT y=some q/\kvs.length < sizeLine/\W (sdfD k kvs q v) M Q:=by
 show W (getT k >>= fun kvs=>lift (kyT y) >>= fun q=>need _ >>= fun _=>sdfD k kvs q v) M Q=_;delta W;simp only[v_bind,v_getT,v_lift,v_need]
theorem y_srtT {srt:List D->Option (List D)}{k:Nat}:W (keyTT srt (.ob k)) M Q = ∃ kvs,M[k]?=some (.dtt kvs)/\∃ ys,srt (kvs.map fun p=>keyD2 p.1)=some ys/\Q (.ob M.length) (M++[.lst ys]):=by
 show W (getT k >>= fun kvs=>lift _ >>= fun ys=>newM _) M Q=_;delta W;simp only[v_bind,v_getT,v_lift,v_newM]
theorem wp_enum:W (semP Γ (.enum a) ρ) M S=W (semE Γ a ρ) M fun x M1=>W (enumS x) M1 S:=by delta W;simp only[q_semP_enum,v_bind]
theorem y_enumF {ds:List D}:W (enumS (.fl ds)) M S=S ⟨none,enumD ds⟩ M:=w_pure _ M S
theorem y_enumT {ds:List D}:W (enumS (.tup ds)) M S=S ⟨none,enumD ds⟩ M:=w_pure _ M S
theorem y_enumO {j:Nat}:W (enumS (.ob j)) M S = ∃ ds,M[j]?=some (.lst ds)/\S ⟨some (j,ds),enumD ds⟩ M:=by
 show W (getL j >>= fun ds=>pure _) M S=_;delta W;simp only[v_bind,v_getL,v_pure]
theorem ws_forP {i j:Nat}{it:IP}:W (semS Γ (.forP i j it s1) ρ) M F=W (semP Γ it ρ) M fun s M1=>W (loopP s.ck i j (semSs Γ s1) s.ds ρ) M1 F:=by delta W;simp only[q_semS_forP,v_bind]
noncomputable def truO:MO->Bool
 | .lst ds=>!ds.isEmpty
 | .dic kvs=>!kvs.isEmpty
 | .dtt _=>false
theorem u_ob {k:Nat}:W (truD (.ob k)) M B = ∃ o,M[k]?=some o/\obG o (B (truO o) M):=by
 show W (getM k >>= _) M B=_;rw[w_bind,w_getM];refine congrArg _ (funext fun o=>congrArg _ ?_);cases o <;> simp[truO,obG,w_pure,w_stop]
theorem u_lst {ds:List D}:truO (.lst ds) = !ds.isEmpty:=rfl
theorem enumG {ds:List D}{n:Nat}{d:D}(h:(enumD ds)[n]?=some d):∃ x,ds[n]?=some x/\d=.tup [.int n,x]:=by
 unfold enumD at h;rw[List.getElem?_mapIdx]at h;obtain⟨x,h1,h2⟩:=Option.map_eq_some_iff.mp h;exact⟨x,h1,h2.symm⟩
theorem enumN {ds:List D}:(enumD ds).length=ds.length:=List.length_mapIdx
theorem w_loopP {ck:Option (Nat×List D)}{i j:Nat}{body:Ev->Mo Fl}{ds:List D}(I:Nat->Ev->MH->Prop)(h0:I 0 ρ M)(hs:∀ n ρ M,I n ρ M->okM ck M)
  (h:∀ (n:Nat) (d:D) (ρ:Ev) (M:MH),ds[n]?=some d->I n ρ M->∃ x y,d=.tup [x,y]/\W (body ((ρ.set i (some x)).set j (some y))) M (loopF I F n))
  (q:∀ ρ M,I ds.length ρ M->F (.nx ρ) M):W (loopP ck i j body ds ρ) M F:=by
 suffices H:∀ (r:List D) (n:Nat) (ρ:Ev) (M:MH),(∀ j d,r[j]?=some d->ds[n + j]?=some d)->n + r.length=ds.length->I n ρ M->W (loopP ck i j body r ρ) M F from
  H ds 0 ρ M (fun j d e=>by simpa using e) (by simp) h0
 intro r;induction r with
 | nil =>
  intro n ρ M _ hn hI;unfold loopP;rw[w_bind];refine W.of (show stand ck M=some (.ok (),M) from if_pos (hs _ _ _ hI)) ?_;rw[w_pure]
  have:n=ds.length:=by simpa using hn
  exact q _ _ (this ▸ hI)
 | cons d r ih =>
  intro n ρ M hr hn hI;unfold loopP;rw[w_bind];refine W.of (show stand ck M=some (.ok (),M) from if_pos (hs _ _ _ hI)) ?_;have hd:ds[n]?=some d:=by simpa using hr 0 d rfl
  have hr':∀ j d',r[j]?=some d'->ds[n + 1 + j]?=some d':=fun j d' e=>by
   have:=hr (j + 1) d' (by simpa using e)
   rwa [show n + (j + 1)=n + 1 + j by omega]at this
  have hn':n + 1 + r.length=ds.length:=by rw[List.length_cons]at hn;first | lia | omega
  obtain⟨x,y,rfl,hw⟩:=h n d ρ M hd hI;rw[w_bind,w_lift];refine⟨(x,y),rfl,?_⟩;rw[w_bind];refine hw.mono fun f M1 hf=>?_;cases f with
  | nx ρ'=>exact ih (n + 1) ρ' M1 hr' hn' hf
  | ct ρ'=>exact ih (n + 1) ρ' M1 hr' hn' hf
  | bk ρ'=>exact(w_pure _ _ _).mpr hf
  | rt v=>exact(w_pure _ _ _).mpr hf
end
end L3
namespace L3
open PySem
section
variable {Γ:Ctx}{ρ:Ev}{M:MH}{Q:D->MH->Prop}{d:D}{e:IE}{r:ISs}{F:Fl->MH->Prop}{y:Option D}
theorem v0_:W (semE Γ (.var 0) (some d::ρ)) M Q=Q d M:=by rw[we_var];simp
theorem v1_ {o0:Option D}:W (semE Γ (.var 1) (o0::some d::ρ)) M Q=Q d M:=by rw[we_var];simp
theorem v2_ {o0 o1:Option D}:W (semE Γ (.var 2) (o0::o1::some d::ρ)) M Q=Q d M:=by rw[we_var];simp
theorem v3_ {o0 o1 o2:Option D}:W (semE Γ (.var 3) (o0::o1::o2::some d::ρ)) M Q=Q d M:=by rw[we_var];simp
theorem v4_ {o0 o1 o2 o3:Option D}:W (semE Γ (.var 4) (o0::o1::o2::o3::some d::ρ)) M Q=Q d M:=by rw[we_var];simp
theorem v5_ {o0 o1 o2 o3 o4:Option D}:W (semE Γ (.var 5) (o0::o1::o2::o3::o4::some d::ρ)) M Q=Q d M:=by rw[we_var];simp
theorem v6_ {o0 o1 o2 o3 o4 o5:Option D}:W (semE Γ (.var 6) (o0::o1::o2::o3::o4::o5::some d::ρ)) M Q=Q d M:=by rw[we_var];simp
theorem v7_ {o0 o1 o2 o3 o4 o5 o6:Option D}:W (semE Γ (.var 7) (o0::o1::o2::o3::o4::o5::o6::some d::ρ)) M Q=Q d M:=by rw[we_var];simp
theorem v8_ {o0 o1 o2 o3 o4 o5 o6 o7:Option D}:W (semE Γ (.var 8) (o0::o1::o2::o3::o4::o5::o6::o7::some d::ρ)) M Q=Q d M:=by rw[we_var];simp
theorem v9_ {o0 o1 o2 o3 o4 o5 o6 o7 o8:Option D}:W (semE Γ (.var 9) (o0::o1::o2::o3::o4::o5::o6::o7::o8::some d::ρ)) M Q=Q d M:=by rw[we_var];simp
theorem v10_ {o0 o1 o2 o3 o4 o5 o6 o7 o8 o9:Option D}:W (semE Γ (.var 10) (o0::o1::o2::o3::o4::o5::o6::o7::o8::o9::some d::ρ)) M Q=Q d M:=by rw[we_var];simp
theorem v11_ {o0 o1 o2 o3 o4 o5 o6 o7 o8 o9 o10:Option D}:W (semE Γ (.var 11) (o0::o1::o2::o3::o4::o5::o6::o7::o8::o9::o10::some d::ρ)) M Q=Q d M:=by rw[we_var];simp
theorem v12_ {o0 o1 o2 o3 o4 o5 o6 o7 o8 o9 o10 o11:Option D}:W (semE Γ (.var 12) (o0::o1::o2::o3::o4::o5::o6::o7::o8::o9::o10::o11::some d::ρ)) M Q=Q d M:=by rw[we_var];simp
theorem v13_ {o0 o1 o2 o3 o4 o5 o6 o7 o8 o9 o10 o11 o12:Option D}:W (semE Γ (.var 13) (o0::o1::o2::o3::o4::o5::o6::o7::o8::o9::o10::o11::o12::some d::ρ)) M Q=Q d M:=by rw[we_var];simp
theorem v14_ {o0 o1 o2 o3 o4 o5 o6 o7 o8 o9 o10 o11 o12 o13:Option D}:W (semE Γ (.var 14) (o0::o1::o2::o3::o4::o5::o6::o7::o8::o9::o10::o11::o12::o13::some d::ρ)) M Q=Q d M:=by rw[we_var];simp
theorem v15_ {o0 o1 o2 o3 o4 o5 o6 o7 o8 o9 o10 o11 o12 o13 o14:Option D}:W (semE Γ (.var 15) (o0::o1::o2::o3::o4::o5::o6::o7::o8::o9::o10::o11::o12::o13::o14::some d::ρ)) M Q=Q d M:=by rw[we_var];simp
theorem s0_:W (semSs Γ (.cons (.set 0 e) r) (y::ρ)) M F=W (semE Γ e (y::ρ)) M fun x M1=>W (semSs Γ r (some x::ρ)) M1 F:=by rw[ws_cons,ws_set];rfl
theorem s1_ {o0:Option D}:W (semSs Γ (.cons (.set 1 e) r) (o0::y::ρ)) M F=W (semE Γ e (o0::y::ρ)) M fun x M1=>W (semSs Γ r (o0::some x::ρ)) M1 F:=by rw[ws_cons,ws_set];rfl
theorem s2_ {o0 o1:Option D}:W (semSs Γ (.cons (.set 2 e) r) (o0::o1::y::ρ)) M F=W (semE Γ e (o0::o1::y::ρ)) M fun x M1=>W (semSs Γ r (o0::o1::some x::ρ)) M1 F:=by rw[ws_cons,ws_set];rfl
theorem s3_ {o0 o1 o2:Option D}:W (semSs Γ (.cons (.set 3 e) r) (o0::o1::o2::y::ρ)) M F=W (semE Γ e (o0::o1::o2::y::ρ)) M fun x M1=>W (semSs Γ r (o0::o1::o2::some x::ρ)) M1 F:=by rw[ws_cons,ws_set];rfl
theorem s4_ {o0 o1 o2 o3:Option D}:W (semSs Γ (.cons (.set 4 e) r) (o0::o1::o2::o3::y::ρ)) M F=W (semE Γ e (o0::o1::o2::o3::y::ρ)) M fun x M1=>W (semSs Γ r (o0::o1::o2::o3::some x::ρ)) M1 F:=by rw[ws_cons,ws_set];rfl
theorem s5_ {o0 o1 o2 o3 o4:Option D}:W (semSs Γ (.cons (.set 5 e) r) (o0::o1::o2::o3::o4::y::ρ)) M F=W (semE Γ e (o0::o1::o2::o3::o4::y::ρ)) M fun x M1=>W (semSs Γ r (o0::o1::o2::o3::o4::some x::ρ)) M1 F:=by rw[ws_cons,ws_set];rfl
theorem s6_ {o0 o1 o2 o3 o4 o5:Option D}:W (semSs Γ (.cons (.set 6 e) r) (o0::o1::o2::o3::o4::o5::y::ρ)) M F=W (semE Γ e (o0::o1::o2::o3::o4::o5::y::ρ)) M fun x M1=>W (semSs Γ r (o0::o1::o2::o3::o4::o5::some x::ρ)) M1 F:=by rw[ws_cons,ws_set];rfl
theorem s7_ {o0 o1 o2 o3 o4 o5 o6:Option D}:W (semSs Γ (.cons (.set 7 e) r) (o0::o1::o2::o3::o4::o5::o6::y::ρ)) M F=W (semE Γ e (o0::o1::o2::o3::o4::o5::o6::y::ρ)) M fun x M1=>W (semSs Γ r (o0::o1::o2::o3::o4::o5::o6::some x::ρ)) M1 F:=by rw[ws_cons,ws_set];rfl
theorem s8_ {o0 o1 o2 o3 o4 o5 o6 o7:Option D}:W (semSs Γ (.cons (.set 8 e) r) (o0::o1::o2::o3::o4::o5::o6::o7::y::ρ)) M F=W (semE Γ e (o0::o1::o2::o3::o4::o5::o6::o7::y::ρ)) M fun x M1=>W (semSs Γ r (o0::o1::o2::o3::o4::o5::o6::o7::some x::ρ)) M1 F:=by rw[ws_cons,ws_set];rfl
theorem s9_ {o0 o1 o2 o3 o4 o5 o6 o7 o8:Option D}:W (semSs Γ (.cons (.set 9 e) r) (o0::o1::o2::o3::o4::o5::o6::o7::o8::y::ρ)) M F=W (semE Γ e (o0::o1::o2::o3::o4::o5::o6::o7::o8::y::ρ)) M fun x M1=>W (semSs Γ r (o0::o1::o2::o3::o4::o5::o6::o7::o8::some x::ρ)) M1 F:=by rw[ws_cons,ws_set];rfl
theorem s10_ {o0 o1 o2 o3 o4 o5 o6 o7 o8 o9:Option D}:W (semSs Γ (.cons (.set 10 e) r) (o0::o1::o2::o3::o4::o5::o6::o7::o8::o9::y::ρ)) M F=W (semE Γ e (o0::o1::o2::o3::o4::o5::o6::o7::o8::o9::y::ρ)) M fun x M1=>W (semSs Γ r (o0::o1::o2::o3::o4::o5::o6::o7::o8::o9::some x::ρ)) M1 F:=by rw[ws_cons,ws_set];rfl
theorem s11_ {o0 o1 o2 o3 o4 o5 o6 o7 o8 o9 o10:Option D}:W (semSs Γ (.cons (.set 11 e) r) (o0::o1::o2::o3::o4::o5::o6::o7::o8::o9::o10::y::ρ)) M F=W (semE Γ e (o0::o1::o2::o3::o4::o5::o6::o7::o8::o9::o10::y::ρ)) M fun x M1=>W (semSs Γ r (o0::o1::o2::o3::o4::o5::o6::o7::o8::o9::o10::some x::ρ)) M1 F:=by rw[ws_cons,ws_set];rfl
theorem s12_ {o0 o1 o2 o3 o4 o5 o6 o7 o8 o9 o10 o11:Option D}:W (semSs Γ (.cons (.set 12 e) r) (o0::o1::o2::o3::o4::o5::o6::o7::o8::o9::o10::o11::y::ρ)) M F=W (semE Γ e (o0::o1::o2::o3::o4::o5::o6::o7::o8::o9::o10::o11::y::ρ)) M fun x M1=>W (semSs Γ r (o0::o1::o2::o3::o4::o5::o6::o7::o8::o9::o10::o11::some x::ρ)) M1 F:=by rw[ws_cons,ws_set];rfl
theorem s13_ {o0 o1 o2 o3 o4 o5 o6 o7 o8 o9 o10 o11 o12:Option D}:W (semSs Γ (.cons (.set 13 e) r) (o0::o1::o2::o3::o4::o5::o6::o7::o8::o9::o10::o11::o12::y::ρ)) M F=W (semE Γ e (o0::o1::o2::o3::o4::o5::o6::o7::o8::o9::o10::o11::o12::y::ρ)) M fun x M1=>W (semSs Γ r (o0::o1::o2::o3::o4::o5::o6::o7::o8::o9::o10::o11::o12::some x::ρ)) M1 F:=by rw[ws_cons,ws_set];rfl
theorem s14_ {o0 o1 o2 o3 o4 o5 o6 o7 o8 o9 o10 o11 o12 o13:Option D}:W (semSs Γ (.cons (.set 14 e) r) (o0::o1::o2::o3::o4::o5::o6::o7::o8::o9::o10::o11::o12::o13::y::ρ)) M F=W (semE Γ e (o0::o1::o2::o3::o4::o5::o6::o7::o8::o9::o10::o11::o12::o13::y::ρ)) M fun x M1=>W (semSs Γ r (o0::o1::o2::o3::o4::o5::o6::o7::o8::o9::o10::o11::o12::o13::some x::ρ)) M1 F:=by rw[ws_cons,ws_set];rfl
theorem s15_ {o0 o1 o2 o3 o4 o5 o6 o7 o8 o9 o10 o11 o12 o13 o14:Option D}:W (semSs Γ (.cons (.set 15 e) r) (o0::o1::o2::o3::o4::o5::o6::o7::o8::o9::o10::o11::o12::o13::o14::y::ρ)) M F=W (semE Γ e (o0::o1::o2::o3::o4::o5::o6::o7::o8::o9::o10::o11::o12::o13::o14::y::ρ)) M fun x M1=>W (semSs Γ r (o0::o1::o2::o3::o4::o5::o6::o7::o8::o9::o10::o11::o12::o13::o14::some x::ρ)) M1 F:=by rw[ws_cons,ws_set];rfl
end
end L3
local macro_rules | `(tactic| walk_at $s:str)=>do
 unless s.getString=="wp"||s.getString=="ws" do Lean.Macro.throwUnsupported
 let a <- (("v0_ v1_ v2_ v3_ v4_ v5_ v6_ v7_ v8_ v9_ v10_ v11_ v12_ v13_ v14_ v15_ s0_ s1_ s2_ s3_ s4_ s5_ s6_ s7_ s8_ s9_ s10_ s11_ s12_ s13_ s14_ s15_".splitOn " ").toArray.map fun s=>Lean.mkIdent (`L3++s.toName)).mapM fun i=>`(Lean.Parser.Tactic.simpLemma| ↓ $i:ident)
 let b <- ((("lf_nx u_tup lf_ct lf_bk lf_rt k_minL r_sdf m_sdf we_srtT y_srtT we_dtt0 g_obt t_obt og_l og_d wp_enum y_enumF y_enumT y_enumO ws_forP u_ob u_lst w_bind w_pure we_var we_int we_bl we_non we_str we_glb we_bin we_cmp we_cmp2 we_and we_or we_not we_ifE we_tup we_lst we_dic0 we_idx we_slc we_call we_blt we_comp we_sortL we_revL we_neg we_isI we_mth ws_halt wes_nil wes_cons wo_none wo_some wt_seq wt_rng1 wc_cmp wc_tru wc_not wc_and wc_or wco_none wco_some nxt_nx nxt_rt nxt_bk nxt_ct ws_nil ws_cons ws_set ws_setIx ws_expr ws_ret ws_retN ws_pass ws_brk ws_cnt ws_if ws_for end_nx end_rt p_addI p_subI p_addS p_addT p_addL p_mul p_div p_mod p_eqI p_eqS p_pow p_ltI p_leI p_gtI p_geI p_leS p_ltS p_in p_notIn p_inS p_inT w_inMo p_is p_isnot g_tup g_fl g_str g_obl g_obd g_ob t_obl t_obd t_ob z_str z_lst z_fl z_tup k_lenS k_lenO k_lenl k_lend k_lenT k_lenF k_tupL k_listI i_tup i_fl i_ob l_fl l_ob q_non q_bl q_int q_str q_tup q_fl r_append r_insert r_extend r_join m_append m_insert m_join m_extendL at0 at1 at2 at3 at4 at6 k_all k_any k_max y_tup y_fl y_lst u_bl u_int b_bl w_lift w_need w_newM w_getL w_getM ky_str ky_int D.int.injEq D.bl.injEq D.ob.injEq MO.lst.injEq MO.dic.injEq MO.dtt.injEq".replace " ws_if " (if s.getString=="wp" then " ws_if " else " ws_sel sel_t sel_f ")).splitOn " ").toArray.map fun s=>Lean.mkIdent (`L3++s.toName)).mapM fun i=>`(Lean.Parser.Tactic.simpLemma| $i:ident)
 let c <- (("List.getElem?_cons_zero List.getElem?_cons_succ List.set_cons_zero List.set_cons_succ Option.some.injEq exists_eq_left' List.map_cons List.map_nil List.cons_append List.nil_append List.replicate_succ List.replicate_zero List.length_cons List.length_nil true_and and_true Nat.reduceAdd Nat.reduceSub".splitOn " ").toArray.map fun s=>Lean.mkIdent s.toName).mapM fun i=>`(Lean.Parser.Tactic.simpLemma| $i:ident)
 let l:=a++b++c
 `(tactic| try simp only[$l,*])
local macro_rules | `(tactic| walk_at "wq")=>`(tactic| (walk_at "wp";try simp only[Bool.not_true,Bool.not_false,Bool.false_eq_true,Bool.true_eq_false,false_implies,true_implies,implies_true,true_and,and_true]))
local macro_rules | `(tactic| walk_at "wr")=>`(tactic| (walk_at "ws";try simp only[Bool.not_true,Bool.not_false,Bool.false_eq_true,Bool.true_eq_false,false_implies,true_implies,implies_true,true_and,and_true]))
local macro_rules | `(tactic| walk_at "o")=>`(tactic| first | decide | exact L3.le_line (by decide) | lia | omega)
namespace L3
open PySem PySem.W PyProof.Rows
noncomputable def EvP {α:Type}(lt:Nat->Nat->Option Bool)(t:KasT α)(P:α->Prop):Prop:=∃ a,evalK lt t=some a/\P a
section
variable {lt:Nat->Nat->Option Bool}{n:Nat}
theorem EvP.ret {α:Type}{a:α}{P:α->Prop}(h:P a):EvP lt (.ret a) P:=⟨a,rfl,h⟩
theorem EvP.ask {α:Type}{i j:Nat}{k:Bool->KasT α}{P:α->Prop}{b:Bool}(e:lt i j=some b)(h:EvP lt (k b) P):EvP lt (.ask i j k) P:=by
 obtain⟨a,h1,h2⟩:=h;exact⟨a,by unfold evalK;rw[e];exact h1,h2⟩
theorem EvP.bind {α β:Type}{f:α->KasT β}{P:α->Prop}{R:β->Prop}:∀ {t:KasT α},EvP lt t P->(∀ a,P a->EvP lt (f a) R)->EvP lt (t.bind f) R
 | .ret a,⟨b,e,h⟩,g=>by cases e;exact g _ h
 | .ask i j k,⟨b,e,h⟩,g=>by
  unfold evalK at e;cases q:lt i j with
  | none=>rw[q]at e;cases e
  | some c =>
   rw[q]at e;exact EvP.ask q (EvP.bind ⟨b,e,h⟩ g)
noncomputable def Ord (n:Nat)(p:Array Nat):Prop:=p.toList.Perm (List.range n)
theorem Ord.below {p:Array Nat}(h:Ord n p)(hn:0 < n)(i:Nat):p.getD i 0 < n:=by
 by_cases hi:i < p.size
 ·have:p.getD i 0∈p.toList:=by
   rw[Array.getD_eq_getD_getElem?,Array.getElem?_eq_getElem hi];exact Array.getElem_mem_toList hi
  exact List.mem_range.mp (h.mem_iff.mp this)
 ·rw[Array.getD_eq_getD_getElem?,Array.getElem?_eq_none (by omega)]
  exact hn
theorem Ord.rev {p:Array Nat}(h:Ord n p)(i j:Nat):Ord n (kas_rev p i j):=(mirror_perm p i j _).toList.trans h
theorem Ord.bub {p:Array Nat}(h:Ord n p)(i j:Nat):Ord n (bubble p i j):=(bubble_perm p i j).toList.trans h
variable (hl:∀ i j,i < n->j < n->∃ b,lt i j=some b)(hn:0 < n)
include hl hn
theorem asc_ev {p:Array Nat}(h:Ord n p):∀ (f m:Nat),EvP lt (kas_asc p f m) fun _=>True
 | 0,_=>.ret trivial
 | f + 1,m=>by
  obtain⟨b,e⟩:=hl _ _ (h.below hn m) (h.below hn (m - 1));refine EvP.ask e ?_;cases b with
  | true=>exact .ret trivial
  | false=>exact asc_ev h f (m + 1)
theorem desc_ev:∀ (f:Nat) {p:Array Nat} (m q:Nat),Ord n p->EvP lt (kas_desc f p m q) fun r=>Ord n r.1
 | 0,_,_,_,h=>.ret h
 | f + 1,p,m,q,h=>by
  obtain⟨b,e⟩:=hl _ _ (h.below hn m) (h.below hn (m - 1));refine EvP.ask e ?_;cases b with
  | true =>
   show EvP lt (if q > 0 then _ else _) _;split
   ·exact desc_ev f _ _ (h.rev _ _)
   ·exact desc_ev f _ _ h
  | false =>
   obtain⟨c,e2⟩:=hl _ _ (h.below hn (m - 1)) (h.below hn m);refine EvP.ask e2 ?_;cases c with
   | true=>exact .ret h
   | false=>exact desc_ev f _ _ h
theorem tail3_ev {p:Array Nat}(h:Ord n p)(m r:Nat):EvP lt (kas_tail3 m r p) fun r=>Ord n r.2 :=
 EvP.bind (asc_ev hl hn (h.rev 0 m) _ _) fun _ _=>.ret (h.rev 0 m)
theorem descPart_ev {p:Array Nat}(h:Ord n p)(m r:Nat):EvP lt (kas_descPart m r p) fun r=>Ord n r.2 :=
 EvP.bind (desc_ev hl hn _ _ _ h) fun a ha=>by
  split
  ·exact tail3_ev hl hn (ha.rev _ _) _ _
  ·exact tail3_ev hl hn ha _ _
theorem count_ev {p:Array Nat}(h:Ord n p)(r:Nat):EvP lt (kas_count r p) fun r=>Ord n r.2 :=
 EvP.bind (asc_ev hl hn h _ _) fun m _=>by
  split
  ·exact .ret h
  ·split
   ·obtain⟨b,e⟩:=hl _ _ (h.below hn 0) (h.below hn (m - 1))
    refine EvP.ask e ?_;cases b with
    | true=>exact .ret h
    | false=>exact descPart_ev hl hn (h.rev _ _) _ _
   ·exact descPart_ev hl hn h _ _
theorem place_ev {p:Array Nat}(h:Ord n p)(k:Nat):∀ (f l r:Nat),EvP lt (kas_place p k f l r) fun _=>True
 | 0,_,_=>.ret trivial
 | f + 1,l,r=>by
  unfold kas_place;split
  ·exact .ret trivial
  ·obtain⟨b,e⟩:=hl _ _ (h.below hn k) (h.below hn ((l + r) / 2))
   refine EvP.ask e ?_;cases b with
   | true=>exact place_ev h k f _ _
   | false=>exact place_ev h k f _ _
theorem bin_ev:∀ (f:Nat) {p:Array Nat} (k:Nat),Ord n p->EvP lt (kas_bin f p k) fun r=>Ord n r
 | 0,_,_,h=>.ret h
 | f + 1,p,k,h=>EvP.bind (place_ev hl hn h _ _ _ _) fun l _=>bin_ev f _ (h.bub _ _)
theorem sort_ev:EvP lt (kas_sort n) fun r=>Ord n r :=
 EvP.bind (count_ev hl hn (p:=(List.range n).toArray) (List.Perm.refl _) _) fun r h=>by
  split
  ·exact bin_ev hl hn _ _ h
  ·exact .ret h
end
theorem sortT_perm {ds:List D}(h:ds.length < 64)(hf:ds.all firstStr=true\/ds.all firstInt=true)(hl:∀ i j,i < ds.length->j < ds.length->∃ b,cmpT ds i j=some b):∃ ys,sortT ds=some ys/\ys.Perm ds:=by
 unfold sortT;split
 ·exact⟨ds,rfl,List.Perm.refl _⟩
 ·rename_i h2
  have hc:(decide (ds.length < 64)&&(ds.all firstStr||ds.all firstInt))=true:=by
   rw[decide_eq_true h,Bool.true_and,Bool.or_eq_true];exact hf
  rw[if_pos hc];obtain⟨p,e,ho⟩:=sort_ev hl (by omega);rw[e];refine⟨_,rfl,?_⟩
  have:=ho.map fun i=>ds.getD i .non
  refine this.trans (List.Perm.of_eq ?_);apply List.ext_getElem?;intro i;rw[List.getElem?_map];by_cases hi:i < ds.length
  ·rw[List.getElem?_range hi,List.getElem?_eq_getElem hi]
   simp[List.getD_eq_getElem?_getD,List.getElem?_eq_getElem hi]
  ·rw[List.getElem?_eq_none (by rw[List.length_range];omega),List.getElem?_eq_none (by omega)]
   rfl
end L3
namespace L3
open PySem
noncomputable def prD (p:Str×Str):D:=.tup [.str p.1,.str p.2]
noncomputable def unD:D->Str×Str
 | .tup [.str a,.str b]=>(a,b)
 | _=>("","")
noncomputable def look (ps:List (Str×Str))(n:Str):Option Str:=(ps.find? fun p=>decide (p.1=n)).map (·.2)
theorem unD_prD (p:Str×Str):unD (prD p)=p:=rfl
end L3
namespace L3
open PySem PySem.W PyProof.Rows
theorem nd_ne {α:Type}{l:List α}(nd:l.Nodup){i j:Nat}(hi:i < l.length)(hj:j < l.length)(hij:i≠j):l[i]≠l[j]:=by
 have pw:=List.pairwise_iff_getElem.mp nd;rcases Nat.lt_or_gt_of_ne hij with z | z
 ·exact pw i j hi hj z
 ·exact fun e=>pw j i hj hi z e.symm
noncomputable def ga (p:Array Nat)(i:Nat):Nat:=p.getD i 0
theorem ga_eq {p q:Array Nat}{i j:Nat}(h:p[i]?=q[j]?):ga p i=ga q j:=by
 unfold ga;rw[Array.getD_eq_getD_getElem?,Array.getD_eq_getD_getElem?,h]
section
variable {lt:Nat->Nat->Option Bool}{n:Nat}{R:Nat->Nat->Bool}
noncomputable def Srt (R:Nat->Nat->Bool)(p:Array Nat)(m:Nat):Prop:=∀ i j,i < j->j < m->R (ga p i) (ga p j)=true
noncomputable def Dsc (R:Nat->Nat->Bool)(p:Array Nat)(m:Nat):Prop:=∀ i j,i < j->j < m->R (ga p j) (ga p i)=true
structure Tot (lt:Nat->Nat->Option Bool) (R:Nat->Nat->Bool) (n:Nat):Prop where
 is:∀ i j,i < n->j < n->lt i j=some (R i j)
 tr:∀ i j k,i < n->j < n->k < n->R i j=true->R j k=true->R i k=true
 tot:∀ i j,i < n->j < n->i≠j->R i j=false->R j i=true
theorem Ord.size {p:Array Nat}(h:Ord n p):p.size=n:=by rw[<- Array.length_toList,List.Perm.length_eq h,List.length_range]
theorem Ord.ne {p:Array Nat}(h:Ord n p){i j:Nat}(hi:i < n)(hj:j < n)(hij:i≠j):ga p i≠ga p j:=by
 have nd:p.toList.Nodup:=(List.Perm.nodup_iff h).mpr List.nodup_range;have si:=h.size;have e:∀ k,k < n->∃ hk:k < p.toList.length,ga p k=p.toList[k]:=fun k hk=>⟨by rw[Array.length_toList,si];exact hk,by
  unfold ga;rw[Array.getD_eq_getD_getElem?,Array.getElem?_eq_getElem (by omega)]
  rfl⟩
 obtain⟨h1,e1⟩:=e i hi;obtain⟨h2,e2⟩:=e j hj;rw[e1,e2];intro z;exact nd_ne nd h1 h2 hij z
theorem Ord.lo {p:Array Nat}(h:Ord n p)(hn:0 < n)(i:Nat):ga p i < n:=h.below hn i
variable (T:Tot lt R n)(hn:0 < n)
include T hn
theorem asc_up {p:Array Nat}(h:Ord n p):∀ (f m:Nat),1<=m->m + f<=n->Srt R p m->EvP lt (kas_asc p f m) fun r=>m<=r/\r<=m + f/\Srt R p r/\(r < m + f->R (ga p r) (ga p (r - 1))=true)
 | 0,m,_,_,hs=>.ret ⟨Nat.le_refl _,Nat.le_refl _,hs,fun z=>absurd z (Nat.lt_irrefl _)⟩
 | f + 1,m,h1,h2,hs=>by
  refine EvP.ask (T.is _ _ (h.below hn m) (h.below hn (m - 1))) ?_;cases e:R (p.getD m 0) (p.getD (m - 1) 0) with
  | true=>exact .ret ⟨Nat.le_refl _,by omega,hs,fun _=>e⟩
  | false =>
   have up:=T.tot _ _ (h.below hn m) (h.below hn (m - 1)) (h.ne (i:=m) (j:=m - 1) (by omega) (by omega) (by omega)) e;have hs':Srt R p (m + 1):=fun i j hij hj=>by
    by_cases hm:j=m
    ·subst hm
     by_cases hi:i=j - 1
     ·subst hi;exact up
     ·exact T.tr _ _ _ (h.lo hn _) (h.lo hn (j - 1)) (h.lo hn _) (hs i (j - 1) (by omega) (by omega)) up
    ·exact hs i j hij (by omega)
   obtain⟨a,e1,a1,a2,a3,a4⟩:=asc_up h f (m + 1) (by omega) (by omega) hs';exact⟨a,e1,by omega,by omega,a3,fun z=>a4 (by omega)⟩
theorem desc_up {p:Array Nat}(h:Ord n p):∀ (f m:Nat),1<=m->m + f<=n->Dsc R p m->EvP lt (kas_desc f p m 0) fun r=>r.1=p/\r.2.2=0/\m<=r.2.1/\r.2.1<=m + f/\Dsc R p r.2.1
 | 0,m,_,_,hs=>.ret ⟨rfl,rfl,Nat.le_refl _,Nat.le_refl _,hs⟩
 | f + 1,m,h1,h2,hs=>by
  refine EvP.ask (T.is _ _ (h.below hn m) (h.below hn (m - 1))) ?_;cases e:R (p.getD m 0) (p.getD (m - 1) 0) with
  | true =>
   show EvP lt (kas_desc f p (m + 1) 0) _;have hs':Dsc R p (m + 1):=fun i j hij hj=>by
    by_cases hm:j=m
    ·subst hm
     by_cases hi:i=j - 1
     ·subst hi;exact e
     ·exact T.tr _ _ _ (h.lo hn _) (h.lo hn (j - 1)) (h.lo hn _) e (hs i (j - 1) (by omega) (by omega))
    ·exact hs i j hij (by omega)
   obtain⟨a,e1,a1,a2,a3,a4,a5⟩:=desc_up h f (m + 1) (by omega) (by omega) hs';exact⟨a,e1,a1,a2,by omega,by omega,a5⟩
  | false =>
   have up:=T.tot _ _ (h.below hn m) (h.below hn (m - 1)) (h.ne (i:=m) (j:=m - 1) (by omega) (by omega) (by omega)) e;refine EvP.ask (T.is _ _ (h.below hn (m - 1)) (h.below hn m)) ?_;have up:R (p.getD (m - 1) 0) (p.getD m 0)=true:=up;rw[up];exact .ret ⟨rfl,rfl,Nat.le_refl _,Nat.le_add_right _ _,hs⟩
theorem tail3_up {p:Array Nat}(h:Ord n p){m:Nat}(h1:1<=m)(h2:m<=n)(hd:Dsc R p m):EvP lt (kas_tail3 m n p) fun r=>Ord n r.2/\1<=r.1/\r.1<=n/\Srt R r.2 r.1:=by
 have ho:=h.rev 0 m;have hs:Srt R (kas_rev p 0 m) m:=fun i j hij hj=>by
  have g:∀ k,k < m->ga (kas_rev p 0 m) k=ga p (m - 1 - k):=fun k hk=>ga_eq (by
   unfold kas_rev;rw[getElem?_mirror_all (by rw[h.size];exact h2),if_pos ⟨Nat.zero_le _,hk⟩];congr 1
   omega)
  rw[g i (by omega),g j hj];exact hd _ _ (by omega) (by omega)
 exact EvP.bind (asc_up T hn ho (n - m) m h1 (by omega) hs) fun a ha=>.ret ⟨ho,by show 1<=a;omega,by show a<=n;omega,ha.2.2.1⟩
theorem count_up {p:Array Nat}(h:Ord n p):EvP lt (kas_count n p) fun r=>Ord n r.2/\1<=r.1/\r.1<=n/\Srt R r.2 r.1 :=
 EvP.bind (asc_up T hn h (n - 1) 1 (Nat.le_refl _) (by omega) (fun i j hij hj=>by omega)) fun m hm=>by
  obtain⟨m1,m2,m3,m4⟩:=hm;split
  ·exact .ret ⟨h,m1,by show m<=n;omega,m3⟩
  ·rename_i hne
   have hne:m≠n:=by simpa using hne
   split
   ·rename_i hm
    refine EvP.ask (T.is _ _ (h.below hn 0) (h.below hn (m - 1))) ?_;have up:R (p.getD 0 0) (p.getD (m - 1) 0)=true:=m3 0 (m - 1) (by omega) (by omega);rw[up];exact .ret ⟨h,m1,by show m<=n;omega,m3⟩
   ·rename_i hm
    have e:m=1:=by omega
    subst e;refine EvP.bind (desc_up T hn h (n - 2) 2 (by omega) (by omega) (fun i j hij hj=>?_)) fun r hr=>?_
    ·have ei:i=0:=by omega
     have ej:j=1:=by omega
     subst ei ej;exact m4 (by omega)
    ·obtain⟨r1,r2,r3,r4,r5⟩:=hr
     rw[if_neg (by omega),r1];exact tail3_up T hn h (by omega) (by omega) r5
theorem place_up {p:Array Nat}(h:Ord n p){k:Nat}(hk:k < n)(hs:Srt R p k):∀ (f l r:Nat),r - l<=f->r<=k->l<=r->(∀ i,i < l->R (ga p i) (ga p k)=true)->(∀ i,r<=i->i < k->R (ga p k) (ga p i)=true) ->
  EvP lt (kas_place p k f l r) fun a=>a<=k/\(∀ i,i < a->R (ga p i) (ga p k)=true)/\(∀ i,a<=i->i < k->R (ga p k) (ga p i)=true)
 | 0,l,r,h0,h1,h2,hl,hr=>.ret ⟨by omega,hl,fun i a b=>hr i (by omega) b⟩
 | f + 1,l,r,h0,h1,h2,hl,hr=>by
  unfold kas_place;split
  ·exact .ret ⟨by omega,hl,fun i a b=>hr i (by omega) b⟩
  ·rename_i hlr
   refine EvP.ask (T.is _ _ (h.below hn k) (h.below hn ((l + r) / 2))) ?_;have hm:(l + r) / 2 < k:=by omega
   cases e:R (p.getD k 0) (p.getD ((l + r) / 2) 0) with
   | true =>
    refine place_up h hk hs f l ((l + r) / 2) (by omega) (by omega) (by omega) hl fun i a b=>?_;by_cases z:i=(l + r) / 2
    ·subst z;exact e
    ·exact T.tr _ _ _ (h.lo hn _) (h.lo hn ((l + r) / 2)) (h.lo hn _) e (hs _ _ (by omega) b)
   | false =>
    have up:=T.tot _ _ (h.below hn k) (h.below hn ((l + r) / 2)) (h.ne (i:=k) (j:=(l + r) / 2) hk (by omega) (by omega)) e;refine place_up h hk hs f ((l + r) / 2 + 1) r (by omega) h1 (by omega) (fun i a=>?_) hr;by_cases z:i=(l + r) / 2
    ·subst z;exact up
    ·exact T.tr _ _ _ (h.lo hn _) (h.lo hn ((l + r) / 2)) (h.lo hn _) (hs _ _ (by omega) hm) up
theorem bin_up:∀ (f:Nat) {p:Array Nat} (k:Nat),Ord n p->k + f=n->Srt R p k->EvP lt (kas_bin f p k) fun r=>Ord n r/\Srt R r n
 | 0,_,k,h,e,hs=>.ret ⟨h,(by have e2:k=n:=(by omega);subst e2;exact hs)⟩
 | f + 1,p,k,h,e,hs=>EvP.bind (place_up T hn h (k:=k) (by omega) hs k 0 k (by omega) (Nat.le_refl _) (Nat.zero_le _) (fun i z=>absurd z (Nat.not_lt_zero _)) (fun i a b=>absurd b (by omega))) fun l hl=>by
   obtain⟨l1,l2,l3⟩:=hl;refine bin_up f (k + 1) (h.bub _ _) (by omega) fun i j hij hj=>?_;have g:=getElem?_bubble (xs:=p) (src:=k) (by rw[h.size];omega) (k - l) (by omega);have g0:∀ i,i < l->ga (bubble p k (k - l)) i=ga p i:=fun i hi=>ga_eq (by rw[g,if_neg (by omega),if_neg (by omega)]);have g1:ga (bubble p k (k - l)) l=ga p k:=ga_eq (by rw[g,if_pos (by omega)]);have g2:∀ i,l < i->i<=k->ga (bubble p k (k - l)) i=ga p (i - 1):=fun i a b=>ga_eq (by rw[g,if_neg (by omega),if_pos (by omega)]);rcases Nat.lt_trichotomy i l with hi | hi | hi
   ·rw[g0 i hi]
    rcases Nat.lt_trichotomy j l with hj' | hj' | hj'
    ·rw[g0 j hj'];exact hs _ _ hij (by omega)
    ·subst hj';rw[g1];exact l2 i hi
    ·rw[g2 j hj' (by omega)];exact hs _ _ (by omega) (by omega)
   ·subst hi
    rw[g1,g2 j hij (by omega)];exact l3 _ (by omega) (by omega)
   ·rw[g2 i hi (by omega),g2 j (by omega) (by omega)]
    exact hs _ _ (by omega) (by omega)
theorem sort_up:EvP lt (kas_sort n) fun r=>Ord n r/\Srt R r n :=
 EvP.bind (count_up T hn (p:=(List.range n).toArray) (List.Perm.refl _)) fun r h=>by
  obtain⟨h1,h2,h3,h4⟩:=h;split
  ·rename_i hlt
   rw[Nat.max_eq_left h2];exact bin_up T hn _ _ h1 (by omega) h4
  ·have:r.1=n:=by omega
   rw[this]at h4;exact .ret ⟨h1,h4⟩
end
noncomputable def ltS (a b:Str):Bool:=decide (a.cps.toList < b.cps.toList)
theorem ltS_tot {a b:Str}(h:a≠b)(n:ltS a b=false):ltS b a=true:=by
 unfold ltS at *;simp only[decide_eq_false_iff_not,List.not_lt]at n;simp only[decide_eq_true_eq];rcases List.le_iff_lt_or_eq.mp n with z | z
 ·exact z
 ·refine(h ?_).elim
  cases a;cases b;congr 1;exact Array.toList_inj.mp z.symm
end L3
namespace L3
open PySem
structure StO {α:Type} (lt:α->α->Bool):Prop where
 irr:∀ a,lt a a=false
 tr:∀ a b c,lt a b=true->lt b c=true->lt a c=true
 tot:∀ a b,a≠b->lt a b=false->lt b a=true
theorem StO.asym {α:Type}{lt:α->α->Bool}(h:StO lt){a b:α}(x:lt a b=true)(y:lt b a=true):False:=by
 have:=h.tr a b a x y
 rw[h.irr]at this;cases this
section
variable {α:Type}[DecidableEq α]{lt:α->α->Bool}
theorem lexG_irr:∀ xs:List α,lexG lt xs xs=false
 | []=>rfl
 | x::xs=>by rw[lexG,if_pos rfl];exact lexG_irr xs
theorem lexG_tr (h:StO lt):∀ a b c:List α,lexG lt a b=true->lexG lt b c=true->lexG lt a c=true
 | [],[],c,x,_=>by cases x
 | [],_::_,[],_,y=>by cases y
 | [],_::_,_::_,_,_=>rfl
 | _::_,[],_,x,_=>by cases x
 | _::_,_::_,[],_,y=>by cases y
 | p::a,q::b,r::c,x,y=>by
  rw[lexG]at x y ⊢;by_cases e1:p=q
  ·subst e1
   rw[if_pos rfl]at x;by_cases e2:p=r
   ·rw[if_pos e2]at y ⊢
    exact lexG_tr h a b c x y
   ·rw[if_neg e2]at y ⊢
    exact y
  ·rw[if_neg e1]at x
   by_cases e2:q=r
   ·subst e2
    rw[if_neg e1];exact x
   ·rw[if_neg e2]at y
    have z:=h.tr p q r x y;rw[if_neg fun e=>by subst e;exact h.asym x y];exact z
theorem lexG_tot (h:StO lt):∀ a b:List α,a≠b->lexG lt a b=false->lexG lt b a=true
 | [],[],n,_=>absurd rfl n
 | [],_::_,_,x=>by cases x
 | _::_,[],_,_=>rfl
 | p::a,q::b,n,x=>by
  rw[lexG]at x ⊢;by_cases e:p=q
  ·subst e
   rw[if_pos rfl]at x ⊢;exact lexG_tot h a b (fun z=>n (by rw[z])) x
  ·rw[if_neg e]at x
   rw[if_neg fun z=>e z.symm];exact h.tot p q e x
theorem lexG_o (h:StO lt):StO (lexG lt):=⟨lexG_irr,lexG_tr h,lexG_tot h⟩
end
theorem ltI_o:StO ltI:=⟨fun a=>by unfold ltI;simp,fun a b c x y=>by unfold ltI at *;simp only[decide_eq_true_eq]at *;omega,fun a b n x=>by unfold ltI at *;simp only[decide_eq_true_eq,decide_eq_false_iff_not]at *;omega⟩
theorem ltSt_o:StO ltSt:=⟨fun a=>by unfold ltSt;simp[List.lt_irrefl],fun a b c x y=>by
 unfold ltSt at *;simp only[decide_eq_true_eq]at *;exact List.lt_trans x y,fun a b n x=>ltS_tot n x⟩
theorem ltG_o:StO ltG:=by
 have hI:=lexG_o ltI_o;have hS:=lexG_o ltSt_o;refine⟨fun a=>by unfold ltG;simp,fun a b c x y=>?_,fun a b n x=>?_⟩
 ·unfold ltG at *
  by_cases e1:a.1=b.1
  ·rw[if_pos e1]at x
   by_cases e2:a.2=b.2
   ·rw[if_pos e2]at x;cases x
   rw[if_neg e2]at x;by_cases e3:b.1=c.1
   ·rw[if_pos e3]at y
    rw[if_pos (e1.trans e3)];by_cases e4:b.2=c.2
    ·rw[if_pos e4]at y;cases y
    rw[if_neg e4]at y;rw[if_neg fun e=>by rw[e]at x;exact hS.asym x y];exact hS.tr _ _ _ x y
   ·rw[if_neg e3]at y
    rw[e1,if_neg e3];exact y
  ·rw[if_neg e1]at x
   by_cases e3:b.1=c.1
   ·rw[<- e3,if_neg e1]
    exact x
   ·rw[if_neg e3]at y
    rw[if_neg fun e=>by rw[e]at x;exact hI.asym x y];exact hI.tr _ _ _ x y
 ·unfold ltG at *
  by_cases e1:a.1=b.1
  ·rw[if_pos e1]at x
   rw[if_pos e1.symm];by_cases e2:a.2=b.2
   ·exact absurd (Prod.ext e1 e2) n
   rw[if_neg e2]at x;rw[if_neg fun z=>e2 z.symm];exact hS.tot _ _ e2 x
  ·rw[if_neg e1]at x
   rw[if_neg fun z=>e1 z.symm];exact hI.tot _ _ e1 x
end L3
namespace L3
open PySem
theorem allI_of':∀ xs:List Int,allI (xs.map .int)=some xs
 | []=>rfl
 | x::xs=>by rw[List.map_cons];simp only[allI,intD,allI_of' xs]
theorem gsP_of':∀ gs:List Gk,gsP (gs.map gD)=some gs
 | []=>rfl
 | g::gs=>by
  have h1:gP (gD g)=some g:=by
   show gP2 (g.1.map .int) (g.2.map .str)=some g;rw[gP2,allI_of',allS_map]
  rw[List.map_cons,gsP,h1,gsP_of' gs]
theorem sort_gs {gs:List Gk}(h:gs.length < 64)(nd:gs.Nodup):∃ gs':List Gk,sortD (gs.map gD)=some (gs'.map gD)/\gs'.Perm gs/\gs'.Pairwise fun a b=>ltG a b=true:=by
 cases hg:gs with
 | nil =>
  have e:=sortD_str (xs:=[]) (by show 0 < 64;omega);have e2:sortS []=[]:=List.length_eq_zero_iff.mp (sortS_perm []).length_eq;rw[e2]at e;exact⟨[],e,.refl _,.nil⟩
 | cons g r =>
  have hn:sortF (gs.map gD)=none:=by rw[hg,List.map_cons];rfl
  rw[<- hg];unfold sortD;rw[hn];unfold sortQ;by_cases h2:2<=gs.length
  ·have hc:(decide (2<=(gs.map gD).length)&&decide ((gs.map gD).length < 64))=true:=by
    rw[List.length_map,decide_eq_true h2,decide_eq_true h];rfl
   have T:Tot (cmpP gs) (fun i j=>ltG (gs.getD i g) (gs.getD j g)) gs.length:=by
    refine⟨fun i j hi hj=>?_,fun i j k _ _ _ a b=>ltG_o.tr _ _ _ a b,fun i j hi hj hij a=>ltG_o.tot _ _ ?_ a⟩
    ·unfold cmpP
     rw[List.getElem?_eq_getElem hi,List.getElem?_eq_getElem hj];simp[List.getD_eq_getElem?_getD,List.getElem?_eq_getElem hi,List.getElem?_eq_getElem hj]
    ·rw[List.getD_eq_getElem?_getD,List.getD_eq_getElem?_getD,List.getElem?_eq_getElem hi,List.getElem?_eq_getElem hj]
     exact nd_ne nd hi hj hij
   obtain⟨p,e,ho,hs⟩:=sort_up T (by omega);have hsz:=ho.size;have es:sortP (gs.map gD)=some (p.toList.map fun i=>(gs.map gD).getD i .non):=by
    unfold sortP;rw[gsP_of'];dsimp only;rw[if_pos hc,List.length_map,e];rfl
   rw[es];refine⟨p.toList.map fun i=>gs.getD i g,?_,?_,?_⟩
   ·dsimp only
    congr 1;rw[List.map_map];refine List.map_congr_left fun i hi=>?_;have hi':i < gs.length:=List.mem_range.mp (ho.mem_iff.mp hi);simp[List.getD_eq_getElem?_getD,List.getElem?_eq_getElem hi']
   ·have:=ho.map fun i=>gs.getD i g
    refine this.trans (List.Perm.of_eq ?_);apply List.ext_getElem?;intro i;rw[List.getElem?_map];by_cases hi:i < gs.length
    ·rw[List.getElem?_range hi,List.getElem?_eq_getElem hi]
     simp[List.getD_eq_getElem?_getD,List.getElem?_eq_getElem hi]
    ·rw[List.getElem?_eq_none (by rw[List.length_range];omega),List.getElem?_eq_none (by omega)]
     rfl
   ·rw[List.pairwise_iff_getElem]
    intro i j hi hj hij;rw[List.length_map,Array.length_toList,hsz]at hi hj;have e1:∀ k (hk:k < gs.length),p.toList[k]?=some (ga p k):=fun k hk=>by
     unfold ga;rw[Array.getElem?_toList,Array.getD_eq_getD_getElem?,Array.getElem?_eq_getElem (by omega)];rfl
    have:=hs i j hij hj
    have a1:=e1 i hi;have a2:=e1 j hj;rw[List.getElem?_eq_getElem (by rw[Array.length_toList];omega),Option.some.injEq]at a1 a2;rw[List.getElem_map,List.getElem_map,a1,a2];exact this
  ·have hc:(decide (2<=(gs.map gD).length)&&decide ((gs.map gD).length < 64))=false:=by
    rw[List.length_map,decide_eq_false h2];rfl
   have es:sortP (gs.map gD)=none:=by
    unfold sortP;rw[gsP_of'];dsimp only;rw[if_neg (by rw[hc];exact Bool.false_ne_true)]
   rw[es];refine⟨gs,?_,.refl _,?_⟩
   ·dsimp only
    unfold sortT;rw[if_pos (by rw[List.length_map];omega)]
   ·match gs,h2 with
    | [],_=>exact .nil
    | [a],_=>exact List.pairwise_singleton _ _
    | a::b::r,z=>exact absurd (by show 2<=r.length + 1 + 1;omega) z
end L3
namespace Law
open PySem L3
noncomputable def gl (_:Str):Option D:=none
noncomputable def b_has_name:ISs :=
 (.cons (.ret (.blt .any (.cons (.comp 2 (.seq (.var 0)) .none (.cmp .Eq (.idx (.var 0) (.cint 0)) (.var 2))) .nil)))
  .nil)
noncomputable def b_value_in:ISs :=
 (.cons (.forS 2 (.seq (.var 0)) (.cons (.ifS (.cmp (.cmp .Eq (.idx (.var 2) (.cint 0)) (.var 1))) (.cons (.ret (.idx (.var 2) (.cint 1)))
  .nil) .nil)
  .nil))
  (.cons (.ret (.cstr ("" : Str)))
  .nil))
noncomputable def b_meets:ISs :=
 (.cons (.set 2 (.idx (.var 0) (.cint 0)))
  (.cons (.set 3 (.idx (.var 0) (.cint 1)))
  (.cons (.set 4 (.idx (.var 0) (.cint 2)))
  (.cons (.ifS (.cmp (.cmp .Eq (.var 2) (.cstr ("is" : Str)))) (.cons (.ret (.cmp .In (.call ("value_in" : Str) (.cons (.var 1) (.cons (.var 3) .nil))) (.var 4)))
  .nil) .nil)
  (.cons (.ifS (.cmp (.cmp .Eq (.var 2) (.cstr ("no" : Str)))) (.cons (.ret (.cmp .NotIn (.call ("value_in" : Str) (.cons (.var 1) (.cons (.var 3) .nil))) (.var 4)))
  .nil) .nil)
  (.cons (.ifS (.cmp (.cmp .Eq (.var 2) (.cstr ("there" : Str)))) (.cons (.ret (.call ("has_name" : Str) (.cons (.var 1) (.cons (.var 3) .nil))))
  .nil) .nil)
  (.cons (.ret (.not (.call ("has_name" : Str) (.cons (.var 1) (.cons (.var 3) .nil)))))
  .nil)))))))
noncomputable def b_meets_all:ISs :=
 (.cons (.ret (.blt .all (.cons (.comp 2 (.seq (.var 0)) .none (.call ("meets" : Str) (.cons (.var 0) (.cons (.var 2) .nil)))) .nil)))
  .nil)
noncomputable def b_stands:ISs :=
 (.cons (.ret (.and (.cmp .LtE (.idx (.var 0) (.cint 3)) (.var 1)) (.or (.cmp .Is (.idx (.var 0) (.cint 4)) .cnon) (.cmp .Gt (.idx (.var 0) (.cint 4)) (.var 1)))))
  .nil)
noncomputable def b_in_force:ISs :=
 (.cons (.ret (.cmp2 .LtE .Lt (.idx (.var 0) (.cint 2)) (.var 1) (.idx (.var 0) (.cint 3))))
  .nil)
noncomputable def b_have_same_values:ISs :=
 (.cons (.ret (.blt .all (.cons (.comp 3 (.seq (.var 2)) .none (.cmp .Eq (.call ("value_in" : Str) (.cons (.var 1) (.cons (.var 0) .nil))) (.call ("value_in" : Str) (.cons (.var 2) (.cons (.var 0) .nil))))) .nil)))
  .nil)
noncomputable def b_is_greater:ISs :=
 (.cons (.ret (.and (.call ("meets_all" : Str) (.cons (.idx (.var 2) (.cint 0)) (.cons (.idx (.var 0) (.cint 1)) .nil))) (.call ("have_same_values" : Str) (.cons (.idx (.var 1) (.cint 1)) (.cons (.idx (.var 0) (.cint 1)) (.cons (.idx (.var 2) (.cint 2)) .nil))))))
  .nil)
noncomputable def b_ground:ISs :=
 (.cons (.set 5 (.comp 11 (.seq (.var 2)) (.some (.tru (.call ("in_force" : Str) (.cons (.var 0) (.cons (.var 5) .nil))))) (.var 0)))
  (.cons (.set 6 (.comp 11 (.seq (.var 5)) (.some (.tru (.call ("meets_all" : Str) (.cons (.idx (.var 0) (.cint 1)) (.cons (.idx (.var 1) (.cint 1)) .nil))))) (.idx (.var 0) (.cint 0))))
  (.cons (.ifS (.tru (.var 6)) (.cons (.ret (.tup (.cons (.cstr ("told" : Str)) (.cons (.blt .minL (.cons (.var 6) .nil)) .nil))))
  .nil) .nil)
  (.cons (.set 7 (.comp 11 (.seq (.var 1)) (.some (.and (.cmp (.cmp .Gt (.idx (.var 0) (.cint 2)) (.idx (.var 1) (.cint 2)))) (.tru (.call ("stands" : Str) (.cons (.var 0) (.cons (.var 5) .nil)))))) (.var 0)))
  (.cons (.forP 8 9 (.enum (.var 3)) (.cons (.ifS (.tru (.call ("meets_all" : Str) (.cons (.idx (.var 9) (.cint 1)) (.cons (.idx (.var 0) (.cint 1)) .nil)))) (.cons (.set 10 (.comp 11 (.seq (.var 7)) (.some (.tru (.call ("is_greater" : Str) (.cons (.var 0) (.cons (.var 1) (.cons (.var 10) .nil)))))) (.idx (.var 0) (.cint 0))))
  (.cons (.ifS (.tru (.var 10)) (.cons (.ret (.tup (.cons (.cstr ("greater" : Str)) (.cons (.var 8) (.cons (.blt .minL (.cons (.var 10) .nil)) .nil)))))
  .nil) .nil)
  .nil)) .nil)
  .nil))
  (.cons (.ret .cnon)
  .nil))))))
noncomputable def b_row_at:ISs :=
 (.cons (.set 2 (.var 0))
  (.cons (.forS 3 (.seq (.var 1)) (.cons (.ifS (.not (.cmp (.cmp2 .LtE .Lt (.cint 0) (.var 3) (.blt .len (.cons (.idx (.var 2) (.cint 6)) .nil))))) (.cons .halt
  .nil) .nil)
  (.cons (.set 2 (.idx (.idx (.var 2) (.cint 6)) (.var 3)))
  .nil)))
  (.cons (.ret (.var 2))
  .nil)))
noncomputable def b_taken_from:ISs :=
 (.cons (.set 3 (.lst .nil))
  (.cons (.forP 4 5 (.enum (.idx (.var 0) (.cint 6))) (.cons (.ifS (.tru (.call ("meets_all" : Str) (.cons (.idx (.var 5) (.cint 0)) (.cons (.var 2) .nil)))) (.cons (.expr (.mth .extend (.var 3) (.cons (.call ("taken_from" : Str) (.cons (.var 5) (.cons (.bin .Add (.var 1) (.tup (.cons (.var 4) .nil))) (.cons (.var 2) .nil)))) .nil)))
  (.cons (.ifS (.not (.tru (.idx (.var 5) (.cint 1)))) (.cons .brk
  .nil) .nil)
  .nil)) .nil)
  .nil))
  (.cons (.ret (.ifE (.tru (.var 3)) (.var 3) (.lst (.cons (.var 1) .nil))))
  .nil)))
noncomputable def b_taken:ISs :=
 (.cons (.ret (.call ("taken_from" : Str) (.cons (.var 0) (.cons (.tup .nil) (.cons (.var 1) .nil)))))
  .nil)
noncomputable def b_key_of:ISs :=
 (.cons (.ret (.blt .tuple (.cons (.comp 2 (.seq (.idx (.var 0) (.cint 2))) .none (.call ("value_in" : Str) (.cons (.var 2) (.cons (.var 0) .nil)))) .nil)))
  .nil)
noncomputable def b_groups_of:ISs :=
 (.cons (.ret (.comp 2 (.seq (.call ("taken" : Str) (.cons (.var 0) (.cons (.var 1) .nil)))) .none (.tup (.cons (.var 0) (.cons (.call ("key_of" : Str) (.cons (.call ("row_at" : Str) (.cons (.var 1) (.cons (.var 0) .nil))) (.cons (.var 2) .nil))) .nil)))))
  .nil)
noncomputable def b_members:ISs :=
 (.cons (.set 5 (.comp 8 (.seq (.var 1)) (.some (.tru (.call ("stands" : Str) (.cons (.var 0) (.cons (.var 5) .nil))))) (.var 0)))
  (.cons (.set 6 (.comp 10 (.seq (.var 2)) (.some (.tru (.call ("in_force" : Str) (.cons (.var 0) (.cons (.var 5) .nil))))) (.var 0)))
  (.cons (.set 7 .dtt0)
  (.cons (.forS 8 (.seq (.var 5)) (.cons (.ifS (.cmp (.cmp .Is (.call ("ground" : Str) (.cons (.var 8) (.cons (.var 5) (.cons (.var 6) (.cons (.var 3) (.cons (.var 4) .nil)))))) .cnon)) (.cons (.forS 9 (.seq (.call ("groups_of" : Str) (.cons (.var 0) (.cons (.idx (.var 8) (.cint 1)) .nil)))) (.cons (.expr (.mth .append (.mth .sdf (.var 7) (.cons (.var 9) (.cons (.lst .nil) .nil))) (.cons (.idx (.var 8) (.cint 0)) .nil)))
  .nil))
  .nil) .nil)
  .nil))
  (.cons (.ret (.comp 9 (.seq (.srtT (.var 7))) .none (.bin .Add (.var 0) (.tup (.cons (.sortL (.idx (.var 8) (.var 0))) .nil)))))
  .nil)))))
noncomputable def b__law_mixed:ISs :=
 (.cons (.set 2 (.bin .Add (.bin .Mult (.bin .Mult (.var 1) (.var 1)) (.cint 7919)) (.cint 11)))
  (.cons (.ifS (.cmp (.cmp .Gt (.blt .len (.cons (.var 0) .nil)) (.cint 0))) (.cons (.set 2 (.bin .Add (.var 2) (.idx (.var 0) (.bin .Mod (.var 1) (.blt .len (.cons (.var 0) .nil))))))
  .nil) .nil)
  (.cons (.ret (.var 2))
  .nil)))
noncomputable def b__law_pick:ISs :=
 (.cons (.ret (.bin .Mod (.bin .Mod (.bin .Mult (.call ("_law_mixed" : Str) (.cons (.var 0) (.cons (.var 1) .nil))) (.cint 48271)) (.cint 2147483647)) (.var 2)))
  .nil)
noncomputable def b__law_words:ISs :=
 (.cons (.set 4 (.mth .join (.cstr ("" : Str)) (.cons (.comp 9 (.rng1 (.cint 8)) .none (.idx (.var 3) (.call ("_law_pick" : Str) (.cons (.var 1) (.cons (.bin .Add (.var 2) (.var 0)) (.cons (.blt .len (.cons (.var 3) .nil)) .nil)))))) .nil)))
  (.cons (.set 5 (.call ("_law_pick" : Str) (.cons (.var 0) (.cons (.bin .Add (.var 1) (.cint 8)) (.cons (.cint 3) .nil)))))
  (.cons (.ifS (.cmp (.cmp .Eq (.var 5) (.cint 0))) (.cons (.ret (.comp 9 (.rng1 (.var 3)) .none (.slc (.var 5) .none (.some (.bin .Add (.var 0) (.cint 1))))))
  .nil) .nil)
  (.cons (.set 6 (.call ("_law_pick" : Str) (.cons (.var 0) (.cons (.bin .Add (.var 1) (.cint 9)) (.cons (.cint 8) .nil)))))
  (.cons (.set 7 (.call ("_law_pick" : Str) (.cons (.var 0) (.cons (.bin .Add (.var 1) (.cint 10)) (.cons (.blt .len (.cons (.var 2) .nil)) .nil)))))
  (.cons (.set 8 (.lst .nil))
  (.cons (.forS 9 (.rng1 (.var 3)) (.cons (.set 10 (.idx (.var 2) (.bin .Mod (.bin .Add (.var 7) (.var 9)) (.blt .len (.cons (.var 2) .nil)))))
  (.cons (.expr (.mth .append (.var 8) (.cons (.bin .Add (.bin .Add (.slc (.var 4) .none (.some (.var 6))) (.var 10)) (.slc (.var 4) (.some (.bin .Add (.var 6) (.cint 1))) .none)) .nil)))
  .nil)))
  (.cons (.ifS (.cmp (.cmp .Eq (.var 5) (.cint 1))) (.cons (.ret (.var 8))
  .nil) .nil)
  (.cons (.ret (.comp 11 (.seq (.var 8)) .none (.slc (.var 0) .none (.some (.bin .Add (.var 7) (.cint 1))))))
  .nil)))))))))
noncomputable def b__law_pool:ISs :=
 (.cons (.set 2 (.call ("_law_words" : Str) (.cons (.var 0) (.cons (.var 1) (.cons (.cstr ("abcdefghijklmnopqrstuvwxyz" : Str)) (.cons (.cint 6) .nil))))))
  (.cons (.set 3 (.call ("_law_words" : Str) (.cons (.var 0) (.cons (.bin .Add (.var 1) (.cint 11)) (.cons (.cstr ("abcdefghijklmnopqrstuvwxyz0123456789" : Str)) (.cons (.cint 4) .nil))))))
  (.cons (.ifS (.cmp (.cmp .Eq (.call ("_law_pick" : Str) (.cons (.var 0) (.cons (.bin .Add (.var 1) (.cint 22)) (.cons (.cint 2) .nil)))) (.cint 0))) (.cons (.set 3 (.comp 6 (.seq (.var 3)) .none (.bin .Add (.var 0) (.cstr ("0z9a" : Str)))))
  .nil) .nil)
  (.cons (.set 4 (.call ("_law_pick" : Str) (.cons (.var 0) (.cons (.bin .Add (.var 1) (.cint 23)) (.cons (.cint 6) .nil)))))
  (.cons (.set 2 (.bin .Add (.slc (.var 2) (.some (.var 4)) .none) (.slc (.var 2) .none (.some (.var 4)))))
  (.cons (.set 5 (.slc (.var 2) .none (.some (.idx (.lst (.cons (.cint 1) (.cons (.cint 2) (.cons (.cint 1) (.cons (.cint 2) (.cons (.cint 1) (.cons (.cint 2) (.cons (.cint 2) (.cons (.cint 1) (.cons (.cint 3) .nil)))))))))) (.call ("_law_pick" : Str) (.cons (.var 0) (.cons (.bin .Add (.var 1) (.cint 24)) (.cons (.cint 9) .nil))))))))
  (.cons (.ret (.tup (.cons (.var 5) (.cons (.slc (.var 3) .none (.some (.idx (.lst (.cons (.cint 1) (.cons (.cint 2) (.cons (.cint 1) (.cons (.cint 2) (.cons (.cint 2) (.cons (.cint 1) (.cons (.cint 2) (.cons (.cint 1) (.cons (.cint 3) .nil)))))))))) (.call ("_law_pick" : Str) (.cons (.var 0) (.cons (.bin .Add (.var 1) (.cint 25)) (.cons (.cint 9) .nil))))))) (.cons (.var 2) (.cons (.idx (.var 3) (.cint 3)) .nil))))))
  .nil)))))))
noncomputable def b__law_asking:ISs :=
 (.cons (.set 3 (.idx (.idx (.var 2) (.cint 0)) (.call ("_law_pick" : Str) (.cons (.var 0) (.cons (.var 1) (.cons (.blt .len (.cons (.idx (.var 2) (.cint 0)) .nil)) .nil))))))
  (.cons (.set 4 (.idx (.lst (.cons (.cstr ("is" : Str)) (.cons (.cstr ("is" : Str)) (.cons (.cstr ("no" : Str)) (.cons (.cstr ("there" : Str)) (.cons (.cstr ("lacks" : Str)) .nil)))))) (.call ("_law_pick" : Str) (.cons (.var 0) (.cons (.bin .Add (.var 1) (.cint 1)) (.cons (.cint 5) .nil))))))
  (.cons (.ifS (.or (.cmp (.cmp .Eq (.var 4) (.cstr ("there" : Str)))) (.cmp (.cmp .Eq (.var 4) (.cstr ("lacks" : Str))))) (.cons (.ret (.tup (.cons (.var 4) (.cons (.var 3) (.cons (.tup .nil) .nil)))))
  .nil) .nil)
  (.cons (.set 5 (.call ("_law_pick" : Str) (.cons (.var 0) (.cons (.bin .Add (.var 1) (.cint 2)) (.cons (.blt .len (.cons (.idx (.var 2) (.cint 1)) .nil)) .nil)))))
  (.cons (.set 6 (.bin .Add (.slc (.idx (.var 2) (.cint 1)) (.some (.var 5)) .none) (.slc (.idx (.var 2) (.cint 1)) .none (.some (.var 5)))))
  (.cons (.ret (.tup (.cons (.var 4) (.cons (.var 3) (.cons (.blt .tuple (.cons (.slc (.var 6) .none (.some (.bin .Add (.cint 1) (.call ("_law_pick" : Str) (.cons (.var 0) (.cons (.bin .Add (.var 1) (.cint 3)) (.cons (.blt .len (.cons (.idx (.var 2) (.cint 1)) .nil)) .nil))))))) .nil)) .nil)))))
  .nil))))))
noncomputable def b__law_askings:ISs :=
 (.cons (.ret (.blt .tuple (.cons (.comp 4 (.rng1 (.var 2)) .none (.call ("_law_asking" : Str) (.cons (.var 1) (.cons (.bin .Add (.var 2) (.bin .Mult (.cint 4) (.var 0))) (.cons (.var 4) .nil))))) .nil)))
  .nil)
noncomputable def b__law_nodes:ISs :=
 (.cons (.set 4 (.lst .nil))
  (.cons (.forS 5 (.rng1 (.bin .Add (.var 2) (.cint 1))) (.cons (.set 6 (.bin .Add (.var 1) (.bin .Mult (.cint 16) (.var 5))))
  (.cons (.set 7 (.call ("_law_askings" : Str) (.cons (.var 0) (.cons (.var 6) (.cons (.idx (.lst (.cons (.cint 0) (.cons (.cint 1) (.cons (.cint 1) (.cons (.cint 2) (.cons (.cint 1) (.cons (.cint 1) (.cons (.cint 3) .nil)))))))) (.call ("_law_pick" : Str) (.cons (.var 0) (.cons (.bin .Add (.var 6) (.cint 12)) (.cons (.cint 7) .nil))))) (.cons (.var 3) .nil))))))
  (.cons (.set 8 (.call ("_law_pick" : Str) (.cons (.var 0) (.cons (.bin .Add (.var 6) (.cint 13)) (.cons (.cint 6) .nil)))))
  (.cons (.set 9 (.slc (.bin .Add (.slc (.idx (.var 3) (.cint 2)) (.some (.var 8)) .none) (.slc (.idx (.var 3) (.cint 2)) .none (.some (.var 8)))) .none (.some (.call ("_law_pick" : Str) (.cons (.var 0) (.cons (.bin .Add (.var 6) (.cint 14)) (.cons (.cint 4) .nil)))))))
  (.cons (.set 10 (.comp 11 (.seq (.var 4)) (.some (.and (.cmp (.cmp .Lt (.idx (.var 0) (.cint 2)) (.cint 4))) (.cmp (.cmp .Lt (.blt .len (.cons (.idx (.var 0) (.cint 3)) .nil)) (.cint 5))))) (.var 0)))
  (.cons (.set 11 (.lst (.cons (.var 7) (.cons (.blt .tuple (.cons (.var 9) .nil)) (.cons (.cint 0) (.cons (.lst .nil) (.cons (.cmp .Eq (.call ("_law_pick" : Str) (.cons (.var 0) (.cons (.bin .Add (.var 6) (.cint 15)) (.cons (.cint 3) .nil)))) (.cint 0)) .nil)))))))
  (.cons (.ifS (.cmp (.cmp .Gt (.var 5) (.cint 0))) (.cons (.set 12 (.idx (.var 10) (.idx (.lst (.cons (.neg (.cint 1)) (.cons (.call ("_law_pick" : Str) (.cons (.var 0) (.cons (.bin .Add (.var 6) (.cint 11)) (.cons (.blt .len (.cons (.var 10) .nil)) .nil)))) .nil))) (.call ("_law_pick" : Str) (.cons (.var 0) (.cons (.bin .Add (.var 6) (.cint 10)) (.cons (.cint 2) .nil)))))))
  (.cons (.setIx (.var 11) (.cint 2) (.bin .Add (.idx (.var 12) (.cint 2)) (.cint 1)))
  (.cons (.expr (.mth .append (.idx (.var 12) (.cint 3)) (.cons (.var 5) .nil)))
  .nil))) .nil)
  (.cons (.expr (.mth .append (.var 4) (.cons (.var 11) .nil)))
  .nil)))))))))
  (.cons (.ret (.var 4))
  .nil)))
noncomputable def b__law_row:ISs :=
 (.cons (.set 2 (.idx (.var 0) (.var 1)))
  (.cons (.ret (.tup (.cons (.idx (.var 2) (.cint 0)) (.cons (.idx (.var 2) (.cint 4)) (.cons (.idx (.var 2) (.cint 1)) (.cons (.bin .Add (.cint 1) (.var 1)) (.cons (.bin .Add (.bin .Mult (.cint 2) (.var 1)) (.cint 1)) (.cons (.tup .nil) (.cons (.blt .tuple (.cons (.comp 3 (.seq (.idx (.var 2) (.cint 3))) .none (.call ("_law_row" : Str) (.cons (.var 1) (.cons (.var 0) .nil)))) .nil)) .nil)))))))))
  .nil))
noncomputable def b__law_tree:ISs :=
 (.cons (.set 4 (.call ("_law_nodes" : Str) (.cons (.var 0) (.cons (.var 1) (.cons (.var 2) (.cons (.var 3) .nil))))))
  (.cons (.setIx (.idx (.var 4) (.cint 0)) (.cint 0) (.tup (.cons (.tup (.cons (.cstr ("is" : Str)) (.cons (.idx (.idx (.var 3) (.cint 2)) (.neg (.cint 1))) (.cons (.tup (.cons (.idx (.var 3) (.cint 3)) .nil)) .nil)))) .nil)))
  (.cons (.ret (.call ("_law_row" : Str) (.cons (.var 4) (.cons (.cint 0) .nil))))
  .nil)))
noncomputable def b__law_marks:ISs :=
 (.cons (.set 3 (.lst .nil))
  (.cons (.forS 4 (.rng1 (.blt .len (.cons (.idx (.var 2) (.cint 2)) .nil))) (.cons (.set 5 (.call ("_law_pick" : Str) (.cons (.var 0) (.cons (.bin .Add (.var 1) (.var 4)) (.cons (.bin .Add (.blt .len (.cons (.idx (.var 2) (.cint 1)) .nil)) (.cint 3)) .nil)))))
  (.cons (.ifS (.cmp (.cmp .Lt (.var 5) (.blt .len (.cons (.idx (.var 2) (.cint 1)) .nil)))) (.cons (.expr (.mth .append (.var 3) (.cons (.tup (.cons (.idx (.idx (.var 2) (.cint 2)) (.var 4)) (.cons (.idx (.idx (.var 2) (.cint 1)) (.var 5)) .nil))) .nil)))
  .nil) .nil)
  (.cons (.ifS (.cmp (.cmp .Eq (.var 5) (.blt .len (.cons (.idx (.var 2) (.cint 1)) .nil)))) (.cons (.expr (.mth .append (.var 3) (.cons (.tup (.cons (.idx (.idx (.var 2) (.cint 2)) (.var 4)) (.cons (.idx (.var 2) (.cint 3)) .nil))) .nil)))
  .nil) .nil)
  .nil))))
  (.cons (.ret (.blt .tuple (.cons (.sortL (.var 3)) .nil)))
  .nil)))
noncomputable def b__law_number:ISs :=
 (.cons (.set 3 (.call ("_law_mixed" : Str) (.cons (.var 0) (.cons (.var 1) .nil))))
  (.cons (.set 4 (.idx (.lst (.cons (.cint 9) (.cons (.cint 60) (.cons (.bin .Pow (.cint 10) (.cint 6)) (.cons (.var 2) .nil))))) (.bin .Mod (.bin .Mod (.bin .Mult (.var 3) (.cint 69621)) (.cint 2147483629)) (.cint 4))))
  (.cons (.ret (.bin .Mod (.bin .Mult (.var 3) (.bin .Pow (.cint 48271) (.cint 4))) (.bin .Add (.var 4) (.cint 1))))
  .nil)))
noncomputable def b__law_mixed_up:ISs :=
 (.cons (.set 3 (.lst .nil))
  (.cons (.forS 4 (.rng1 (.blt .len (.cons (.var 2) .nil))) (.cons (.expr (.mth .insert (.var 3) (.cons (.call ("_law_pick" : Str) (.cons (.var 0) (.cons (.bin .Add (.var 1) (.var 4)) (.cons (.bin .Add (.var 4) (.cint 1)) .nil)))) (.cons (.idx (.var 2) (.var 4)) .nil))))
  .nil))
  (.cons (.ret (.var 3))
  .nil)))
noncomputable def b__law_sayings:ISs :=
 (.cons (.set 5 (.lst .nil))
  (.cons (.forS 6 (.rng1 (.var 2)) (.cons (.set 7 (.bin .Add (.var 1) (.bin .Mult (.cint 11) (.var 6))))
  (.cons (.set 8 (.blt .max2 (.cons (.cint 0) (.cons (.bin .Sub (.bin .Add (.var 3) (.cint 2)) (.call ("_law_pick" : Str) (.cons (.var 0) (.cons (.bin .Add (.var 7) (.cint 6)) (.cons (.cint 6) .nil))))) .nil))))
  (.cons (.set 9 (.idx (.lst (.cons .cnon (.cons (.bin .Add (.var 8) (.call ("_law_pick" : Str) (.cons (.var 0) (.cons (.bin .Add (.var 7) (.cint 8)) (.cons (.cint 6) .nil))))) .nil))) (.bin .FloorDiv (.call ("_law_pick" : Str) (.cons (.var 0) (.cons (.bin .Add (.var 7) (.cint 7)) (.cons (.cint 3) .nil)))) (.cint 2))))
  (.cons (.set 10 (.idx (.lst (.cons (.call ("_law_pick" : Str) (.cons (.var 0) (.cons (.bin .Add (.var 7) (.cint 9)) (.cons (.cint 3) .nil)))) (.cons (.call ("_law_pick" : Str) (.cons (.var 0) (.cons (.bin .Add (.var 7) (.cint 9)) (.cons (.cint 10) .nil)))) .nil))) (.call ("_law_pick" : Str) (.cons (.var 0) (.cons (.bin .Add (.var 7) (.cint 10)) (.cons (.cint 2) .nil))))))
  (.cons (.expr (.mth .append (.var 5) (.cons (.tup (.cons (.bin .Add (.bin .Add (.bin .Mult (.cint 3) (.var 6)) (.cint 1)) (.call ("_law_pick" : Str) (.cons (.var 0) (.cons (.bin .Add (.var 7) (.cint 9)) (.cons (.cint 3) .nil))))) (.cons (.call ("_law_marks" : Str) (.cons (.var 0) (.cons (.var 7) (.cons (.var 4) .nil)))) (.cons (.var 10) (.cons (.var 8) (.cons (.var 9) .nil)))))) .nil)))
  .nil))))))
  (.cons (.ret (.call ("_law_mixed_up" : Str) (.cons (.var 0) (.cons (.bin .Add (.var 1) (.bin .Mult (.cint 11) (.var 2))) (.cons (.var 5) .nil)))))
  .nil)))
noncomputable def b__law_quietings:ISs :=
 (.cons (.set 5 (.lst .nil))
  (.cons (.forS 6 (.rng1 (.var 2)) (.cons (.set 7 (.bin .Add (.var 1) (.bin .Mult (.cint 12) (.var 6))))
  (.cons (.set 8 (.blt .max2 (.cons (.cint 0) (.cons (.bin .Sub (.bin .Add (.var 3) (.cint 2)) (.call ("_law_pick" : Str) (.cons (.var 0) (.cons (.bin .Add (.var 7) (.cint 8)) (.cons (.cint 6) .nil))))) .nil))))
  (.cons (.set 9 (.blt .max2 (.cons (.cint 0) (.cons (.bin .Add (.bin .Sub (.var 8) (.cint 1)) (.call ("_law_pick" : Str) (.cons (.var 0) (.cons (.bin .Add (.var 7) (.cint 9)) (.cons (.cint 8) .nil))))) .nil))))
  (.cons (.set 10 (.call ("_law_askings" : Str) (.cons (.var 0) (.cons (.var 7) (.cons (.call ("_law_pick" : Str) (.cons (.var 0) (.cons (.bin .Add (.var 7) (.cint 10)) (.cons (.cint 3) .nil)))) (.cons (.var 4) .nil))))))
  (.cons (.expr (.mth .append (.var 5) (.cons (.tup (.cons (.bin .Add (.bin .Add (.bin .Mult (.cint 2) (.var 6)) (.cint 1)) (.call ("_law_pick" : Str) (.cons (.var 0) (.cons (.bin .Add (.var 7) (.cint 11)) (.cons (.cint 2) .nil))))) (.cons (.var 10) (.cons (.var 8) (.cons (.var 9) .nil))))) .nil)))
  .nil))))))
  (.cons (.ret (.call ("_law_mixed_up" : Str) (.cons (.var 0) (.cons (.bin .Add (.var 1) (.bin .Mult (.cint 12) (.var 2))) (.cons (.var 5) .nil)))))
  .nil)))
noncomputable def b__law_rules:ISs :=
 (.cons (.set 4 (.lst .nil))
  (.cons (.forS 5 (.rng1 (.var 2)) (.cons (.set 6 (.bin .Add (.var 1) (.bin .Mult (.cint 20) (.var 5))))
  (.cons (.set 7 (.call ("_law_pick" : Str) (.cons (.var 0) (.cons (.bin .Add (.var 6) (.cint 16)) (.cons (.cint 6) .nil)))))
  (.cons (.set 8 (.slc (.bin .Add (.slc (.idx (.var 3) (.cint 2)) (.some (.var 7)) .none) (.slc (.idx (.var 3) (.cint 2)) .none (.some (.var 7)))) .none (.some (.call ("_law_pick" : Str) (.cons (.var 0) (.cons (.bin .Add (.var 6) (.cint 17)) (.cons (.cint 3) .nil)))))))
  (.cons (.set 9 (.call ("_law_askings" : Str) (.cons (.var 0) (.cons (.var 6) (.cons (.call ("_law_pick" : Str) (.cons (.var 0) (.cons (.bin .Add (.var 6) (.cint 18)) (.cons (.cint 3) .nil)))) (.cons (.var 3) .nil))))))
  (.cons (.expr (.mth .append (.var 4) (.cons (.tup (.cons (.var 9) (.cons (.call ("_law_askings" : Str) (.cons (.var 0) (.cons (.bin .Add (.var 6) (.cint 8)) (.cons (.call ("_law_pick" : Str) (.cons (.var 0) (.cons (.bin .Add (.var 6) (.cint 19)) (.cons (.cint 3) .nil)))) (.cons (.var 3) .nil))))) (.cons (.blt .tuple (.cons (.var 8) .nil)) .nil)))) .nil)))
  .nil))))))
  (.cons (.ret (.var 4))
  .nil)))
noncomputable def b_law:ISs :=
 (.cons (.set 1 (.call ("_law_pool" : Str) (.cons (.var 0) (.cons (.cint 0) .nil))))
  (.cons (.set 2 (.bin .Add (.cint 5) (.call ("_law_number" : Str) (.cons (.var 0) (.cons (.cint 26) (.cons (.bin .Pow (.cint 10) (.cint 11)) .nil))))))
  (.cons (.set 3 (.call ("_law_tree" : Str) (.cons (.var 0) (.cons (.cint 200) (.cons (.bin .Add (.cint 1) (.call ("_law_pick" : Str) (.cons (.var 0) (.cons (.cint 27) (.cons (.cint 4) .nil))))) (.cons (.var 1) .nil))))))
  (.cons (.set 4 (.call ("_law_sayings" : Str) (.cons (.var 0) (.cons (.cint 28) (.cons (.bin .Add (.cint 1) (.call ("_law_pick" : Str) (.cons (.var 0) (.cons (.cint 126) (.cons (.cint 5) .nil))))) (.cons (.var 2) (.cons (.var 1) .nil)))))))
  (.cons (.set 5 (.call ("_law_quietings" : Str) (.cons (.var 0) (.cons (.cint 95) (.cons (.call ("_law_pick" : Str) (.cons (.var 0) (.cons (.cint 127) (.cons (.cint 3) .nil)))) (.cons (.var 2) (.cons (.var 1) .nil)))))))
  (.cons (.set 6 (.call ("_law_rules" : Str) (.cons (.var 0) (.cons (.cint 130) (.cons (.call ("_law_pick" : Str) (.cons (.var 0) (.cons (.cint 128) (.cons (.cint 3) .nil)))) (.cons (.var 1) .nil))))))
  (.cons (.set 7 (.bin .Add (.var 2) (.call ("_law_pick" : Str) (.cons (.var 0) (.cons (.cint 129) (.cons (.cint 3) .nil))))))
  (.cons (.set 8 (.call ("members" : Str) (.cons (.var 3) (.cons (.blt .list (.cons (.var 4) .nil)) (.cons (.blt .list (.cons (.var 5) .nil)) (.cons (.blt .list (.cons (.var 6) .nil)) (.cons (.var 7) .nil)))))))
  (.cons (.set 9 (.lst .nil))
  (.cons (.forS 10 (.seq (.var 4)) (.cons (.ifS (.and (.cmp (.cmp .LtE (.idx (.var 10) (.cint 3)) (.var 7))) (.and (.cmp (.cmp .IsNot (.idx (.var 10) (.cint 4)) .cnon)) (.cmp (.cmp .Gt (.idx (.var 10) (.cint 4)) (.var 7))))) (.cons (.expr (.mth .append (.var 9) (.cons (.bin .Add (.slc (.var 10) .none (.some (.cint 4))) (.tup (.cons .cnon .nil))) .nil)))
  .nil) (.cons (.ifS (.cmp (.cmp .LtE (.idx (.var 10) (.cint 3)) (.var 7))) (.cons (.expr (.mth .append (.var 9) (.cons (.var 10) .nil)))
  .nil) .nil)
  .nil))
  .nil))
  (.cons (.set 11 (.lst .nil))
  (.cons (.forS 10 (.seq (.var 5)) (.cons (.ifS (.and (.cmp (.cmp .LtE (.idx (.var 10) (.cint 2)) (.var 7))) (.cmp (.cmp .Gt (.idx (.var 10) (.cint 3)) (.var 7)))) (.cons (.expr (.mth .append (.var 11) (.cons (.bin .Add (.slc (.var 10) .none (.some (.cint 3))) (.tup (.cons (.bin .Pow (.cint 10) (.cint 12)) .nil))) .nil)))
  .nil) (.cons (.ifS (.cmp (.cmp .LtE (.idx (.var 10) (.cint 2)) (.var 7))) (.cons (.expr (.mth .append (.var 11) (.cons (.var 10) .nil)))
  .nil) .nil)
  .nil))
  .nil))
  (.cons (.ifS (.cmp (.cmp .NotEq (.call ("members" : Str) (.cons (.var 3) (.cons (.var 9) (.cons (.var 11) (.cons (.blt .list (.cons (.var 6) .nil)) (.cons (.var 7) .nil)))))) (.var 8))) (.cons (.ret (.cbl false))
  .nil) .nil)
  (.cons (.set 12 (.call ("_law_mixed_up" : Str) (.cons (.var 0) (.cons (.cint 120) (.cons (.var 4) .nil)))))
  (.cons (.ifS (.cmp (.cmp .NotEq (.call ("members" : Str) (.cons (.var 3) (.cons (.var 12) (.cons (.revL (.var 5)) (.cons (.blt .list (.cons (.var 6) .nil)) (.cons (.var 7) .nil)))))) (.var 8))) (.cons (.ret (.cbl false))
  .nil) .nil)
  (.cons (.ret (.isI (.var 8) .list))
  .nil))))))))))))))))
noncomputable def tab:List (Str×Fd):=[(("has_name" : Str),⟨2,2,b_has_name⟩),(("value_in" : Str),⟨3,2,b_value_in⟩),(("meets" : Str),⟨5,2,b_meets⟩),(("meets_all" : Str),⟨2,2,b_meets_all⟩),(("stands" : Str),⟨2,2,b_stands⟩),(("in_force" : Str),⟨2,2,b_in_force⟩),(("have_same_values" : Str),⟨3,3,b_have_same_values⟩),(("is_greater" : Str),⟨3,3,b_is_greater⟩),(("ground" : Str),⟨11,5,b_ground⟩),(("row_at" : Str),⟨4,2,b_row_at⟩),(("taken_from" : Str),⟨6,3,b_taken_from⟩),(("taken" : Str),⟨2,2,b_taken⟩),(("key_of" : Str),⟨2,2,b_key_of⟩),(("groups_of" : Str),⟨2,2,b_groups_of⟩),(("members" : Str),⟨10,5,b_members⟩),(("_law_mixed" : Str),⟨3,2,b__law_mixed⟩),(("_law_pick" : Str),⟨3,3,b__law_pick⟩),(("_law_words" : Str),⟨11,4,b__law_words⟩),(("_law_pool" : Str),⟨6,2,b__law_pool⟩),(("_law_asking" : Str),⟨7,3,b__law_asking⟩),(("_law_askings" : Str),⟨4,4,b__law_askings⟩),(("_law_nodes" : Str),⟨13,4,b__law_nodes⟩),(("_law_row" : Str),⟨3,2,b__law_row⟩),(("_law_tree" : Str),⟨5,4,b__law_tree⟩),(("_law_marks" : Str),⟨6,3,b__law_marks⟩),(("_law_number" : Str),⟨5,3,b__law_number⟩),(("_law_mixed_up" : Str),⟨5,3,b__law_mixed_up⟩),(("_law_sayings" : Str),⟨11,5,b__law_sayings⟩),(("_law_quietings" : Str),⟨11,5,b__law_quietings⟩),(("_law_rules" : Str),⟨10,4,b__law_rules⟩),(("law" : Str),⟨13,1,b_law⟩)]
section
variable {srt:List D->Option (List D)}
noncomputable abbrev cx (srt:List D->Option (List D)) (k:Nat):L3.Ctx:=CtxN tab gl srt 1000 k
theorem f_has_name (k:Nat)(xs:List D):(cx srt (k + 1)).fn "has_name" xs=(do need (xs.length=2);semF (cx srt k) 2 b_has_name xs:Mo D):=rfl
theorem f_value_in (k:Nat)(xs:List D):(cx srt (k + 1)).fn "value_in" xs=(do need (xs.length=2);semF (cx srt k) 3 b_value_in xs:Mo D):=rfl
theorem f_meets (k:Nat)(xs:List D):(cx srt (k + 1)).fn "meets" xs=(do need (xs.length=2);semF (cx srt k) 5 b_meets xs:Mo D):=rfl
theorem f_meets_all (k:Nat)(xs:List D):(cx srt (k + 1)).fn "meets_all" xs=(do need (xs.length=2);semF (cx srt k) 2 b_meets_all xs:Mo D):=rfl
theorem f_stands (k:Nat)(xs:List D):(cx srt (k + 1)).fn "stands" xs=(do need (xs.length=2);semF (cx srt k) 2 b_stands xs:Mo D):=rfl
theorem f_in_force (k:Nat)(xs:List D):(cx srt (k + 1)).fn "in_force" xs=(do need (xs.length=2);semF (cx srt k) 2 b_in_force xs:Mo D):=rfl
theorem f_have_same_values (k:Nat)(xs:List D):(cx srt (k + 1)).fn "have_same_values" xs=(do need (xs.length=3);semF (cx srt k) 3 b_have_same_values xs:Mo D):=rfl
theorem f_is_greater (k:Nat)(xs:List D):(cx srt (k + 1)).fn "is_greater" xs=(do need (xs.length=3);semF (cx srt k) 3 b_is_greater xs:Mo D):=rfl
theorem f_ground (k:Nat)(xs:List D):(cx srt (k + 1)).fn "ground" xs=(do need (xs.length=5);semF (cx srt k) 11 b_ground xs:Mo D):=rfl
theorem f_row_at (k:Nat)(xs:List D):(cx srt (k + 1)).fn "row_at" xs=(do need (xs.length=2);semF (cx srt k) 4 b_row_at xs:Mo D):=rfl
theorem f_taken_from (k:Nat)(xs:List D):(cx srt (k + 1)).fn "taken_from" xs=(do need (xs.length=3);semF (cx srt k) 6 b_taken_from xs:Mo D):=rfl
theorem f_taken (k:Nat)(xs:List D):(cx srt (k + 1)).fn "taken" xs=(do need (xs.length=2);semF (cx srt k) 2 b_taken xs:Mo D):=rfl
theorem f_key_of (k:Nat)(xs:List D):(cx srt (k + 1)).fn "key_of" xs=(do need (xs.length=2);semF (cx srt k) 2 b_key_of xs:Mo D):=rfl
theorem f_groups_of (k:Nat)(xs:List D):(cx srt (k + 1)).fn "groups_of" xs=(do need (xs.length=2);semF (cx srt k) 2 b_groups_of xs:Mo D):=rfl
theorem f_members (k:Nat)(xs:List D):(cx srt (k + 1)).fn "members" xs=(do need (xs.length=5);semF (cx srt k) 10 b_members xs:Mo D):=rfl
theorem f__law_mixed (k:Nat)(xs:List D):(cx srt (k + 1)).fn "_law_mixed" xs=(do need (xs.length=2);semF (cx srt k) 3 b__law_mixed xs:Mo D):=rfl
theorem f__law_pick (k:Nat)(xs:List D):(cx srt (k + 1)).fn "_law_pick" xs=(do need (xs.length=3);semF (cx srt k) 3 b__law_pick xs:Mo D):=rfl
theorem f__law_words (k:Nat)(xs:List D):(cx srt (k + 1)).fn "_law_words" xs=(do need (xs.length=4);semF (cx srt k) 11 b__law_words xs:Mo D):=rfl
theorem f__law_pool (k:Nat)(xs:List D):(cx srt (k + 1)).fn "_law_pool" xs=(do need (xs.length=2);semF (cx srt k) 6 b__law_pool xs:Mo D):=rfl
theorem f__law_asking (k:Nat)(xs:List D):(cx srt (k + 1)).fn "_law_asking" xs=(do need (xs.length=3);semF (cx srt k) 7 b__law_asking xs:Mo D):=rfl
theorem f__law_askings (k:Nat)(xs:List D):(cx srt (k + 1)).fn "_law_askings" xs=(do need (xs.length=4);semF (cx srt k) 4 b__law_askings xs:Mo D):=rfl
theorem f__law_nodes (k:Nat)(xs:List D):(cx srt (k + 1)).fn "_law_nodes" xs=(do need (xs.length=4);semF (cx srt k) 13 b__law_nodes xs:Mo D):=rfl
theorem f__law_row (k:Nat)(xs:List D):(cx srt (k + 1)).fn "_law_row" xs=(do need (xs.length=2);semF (cx srt k) 3 b__law_row xs:Mo D):=rfl
theorem f__law_tree (k:Nat)(xs:List D):(cx srt (k + 1)).fn "_law_tree" xs=(do need (xs.length=4);semF (cx srt k) 5 b__law_tree xs:Mo D):=rfl
theorem f__law_marks (k:Nat)(xs:List D):(cx srt (k + 1)).fn "_law_marks" xs=(do need (xs.length=3);semF (cx srt k) 6 b__law_marks xs:Mo D):=rfl
theorem f__law_number (k:Nat)(xs:List D):(cx srt (k + 1)).fn "_law_number" xs=(do need (xs.length=3);semF (cx srt k) 5 b__law_number xs:Mo D):=rfl
theorem f__law_mixed_up (k:Nat)(xs:List D):(cx srt (k + 1)).fn "_law_mixed_up" xs=(do need (xs.length=3);semF (cx srt k) 5 b__law_mixed_up xs:Mo D):=rfl
theorem f__law_sayings (k:Nat)(xs:List D):(cx srt (k + 1)).fn "_law_sayings" xs=(do need (xs.length=5);semF (cx srt k) 11 b__law_sayings xs:Mo D):=rfl
theorem f__law_quietings (k:Nat)(xs:List D):(cx srt (k + 1)).fn "_law_quietings" xs=(do need (xs.length=5);semF (cx srt k) 11 b__law_quietings xs:Mo D):=rfl
theorem f__law_rules (k:Nat)(xs:List D):(cx srt (k + 1)).fn "_law_rules" xs=(do need (xs.length=4);semF (cx srt k) 10 b__law_rules xs:Mo D):=rfl
theorem f_law (k:Nat)(xs:List D):(cx srt (k + 1)).fn "law" xs=(do need (xs.length=1);semF (cx srt k) 13 b_law xs:Mo D):=rfl
end
end Law
namespace Law
open PySem L3
section
variable {srt:List D->Option (List D)}
noncomputable def mixV (sc:List Int)(i:Int):Int:=i * i * 7919 + 11 + (if sc.length > 0 then sc.getD (i % (sc.length:Int)).toNat 0 else 0)
noncomputable def pickV (sc:List Int)(i m:Int):Int:=mixV sc i * 48271 % 2147483647 % m
theorem pick_lo (sc:List Int)(i:Int){m:Int}(h:0 < m):0<=pickV sc i m:=Int.emod_nonneg _ (by walk_at "o")
theorem pick_hi (sc:List Int)(i:Int){m:Int}(h:0 < m):pickV sc i m < m:=Int.emod_lt_of_pos _ h
theorem pick_nat (sc:List Int)(i:Int){m:Nat}(h:0 < m):∃ n:Nat,pickV sc i m=n/\n < m:=by
 obtain⟨n,hn⟩:=Int.eq_ofNat_of_zero_le (pick_lo sc i (m:=(m:Int)) (by walk_at "o"))
 have:=pick_hi sc i (m:=(m:Int)) (by walk_at "o")
 exact⟨n,hn,by walk_at "o"⟩
theorem mixed_w (k:Nat)(sc:List Int)(i:Int)(M:MH){Q:D->MH->Prop}(h0:0<=i)(h1:i<=100000)(q:Q (.int (mixV sc i)) M):W ((cx srt (k + 1)).fn "_law_mixed" [.fl (sc.map .int),.int i]) M Q:=by
 rw[f__law_mixed,wf,b__law_mixed];walk_at "wq";refine⟨.inl ⟨by walk_at "o",by walk_at "o"⟩,.inr ⟨by walk_at "o",by walk_at "o"⟩,fun h=>?_,fun h=>?_⟩
 ·rw[decide_eq_true_eq,List.length_map]at h
  have hp:(0:Int) < (sc.length:Int):=by walk_at "o"
  obtain⟨n,hn⟩:∃ n:Nat,i % (sc.length:Int)=n:=Int.eq_ofNat_of_zero_le (Int.emod_nonneg _ (by walk_at "o"));have hlt:n < sc.length:=by
   have:=Int.emod_lt_of_pos i hp
   omega
  refine⟨by rw[List.length_map];omega,.int sc[n],?_,?_⟩
  ·rw[List.length_map,hn]
   exact atD_nat (by rw[List.getElem?_map,List.getElem?_eq_getElem hlt];rfl)
  ·walk_at "wq"
   have e:mixV sc i=i * i * 7919 + 11 + sc[n]:=by
    unfold mixV;rw[if_pos (by walk_at "o"),hn,Int.toNat_natCast,List.getD_eq_getElem?_getD,List.getElem?_eq_getElem hlt];rfl
   rw[e]at q;exact q
 ·rw[decide_eq_false_iff_not,List.length_map]at h
  have e:mixV sc i=i * i * 7919 + 11:=by
   unfold mixV;rw[if_neg (by walk_at "o")];omega
  rw[e]at q;exact q
theorem pick_w (k:Nat)(sc:List Int)(i m:Int)(M:MH){Q:D->MH->Prop}(h0:0<=i)(h1:i<=100000)(hm:0 < m)(q:Q (.int (pickV sc i m)) M):W ((cx srt (k + 2)).fn "_law_pick" [.fl (sc.map .int),.int i,.int m]) M Q:=by
 rw[f__law_pick,wf,b__law_pick];walk_at "wq";refine mixed_w k sc i M h0 h1 ?_;walk_at "wq";exact⟨.inr ⟨by walk_at "o",by walk_at "o"⟩,by walk_at "o",hm,q⟩
theorem number_w (k:Nat)(sc:List Int)(i most:Int)(M:MH){Q:D->MH->Prop}(h0:0<=i)(h1:i<=100000)(hm:0<=most)(q:∀ (r:Int) (M':MH),0<=r->r<=max most 1000000->Gr M M'->Q (.int r) M'):W ((cx srt (k + 2)).fn "_law_number" [.fl (sc.map .int),.int i,.int most]) M Q:=by
 have big:=line_big;rw[f__law_number,wf,b__law_number];walk_at "wq";refine mixed_w k sc i M h0 h1 ?_;walk_at "wq";refine⟨⟨by walk_at "o",by walk_at "o",by decide⟩,by walk_at "o",.inr ⟨by walk_at "o",by walk_at "o"⟩,by walk_at "o",by walk_at "o",_,get_new _ _,?_⟩;obtain⟨n,hn⟩:∃ n:Nat,mixV sc i * 69621 % 2147483629 % 4=n:=Int.eq_ofNat_of_zero_le (Int.emod_nonneg _ (by walk_at "o"));have hlt:n < 4:=by
  have:=Int.emod_lt_of_pos (mixV sc i * 69621 % 2147483629) (show (0:Int) < 4 by decide)
  omega
 rw[hn];walk_at "wq";have h4:n=0\/n=1\/n=2\/n=3:=by walk_at "o"
 obtain⟨r,r0,r1,e⟩:∃ r:Int,0<=r/\r<=max most 1000000/\atD [D.int 9,.int 60,.int (10 ^ (6:Int).toNat),.int most] (n:Int)=some (.int r):=by
  rcases h4 with rfl | rfl | rfl | rfl
  ·exact⟨9,by walk_at "o",by walk_at "o",rfl⟩
  ·exact⟨60,by walk_at "o",by walk_at "o",rfl⟩
  ·exact⟨1000000,by walk_at "o",by walk_at "o",rfl⟩
  ·exact⟨most,by walk_at "o",by walk_at "o",rfl⟩
 refine⟨.int r,e,⟨by walk_at "o",by walk_at "o",by decide⟩,.inr ⟨by decide,by decide⟩,?_⟩;walk_at "wq";refine⟨by walk_at "o",q _ _ (Int.emod_nonneg _ (by walk_at "o")) ?_ (Gr.app _ _)⟩
 have:=Int.emod_lt_of_pos (mixV sc i * 48271 ^ (4:Int).toNat) (show 0 < r + 1 by walk_at "o")
 omega
structure Words (m:Nat) (ws:List Str):Prop where
 len:ws.length=m
 nd:ws.Nodup
 sz:∀ w∈ws,1<=w.length/\w.length<=8
noncomputable def mkS (l:List Nat):Str:=⟨l.toArray⟩
theorem mkS_inj {a b:List Nat}(h:mkS a=mkS b):a=b:=by
 unfold mkS at h;simpa using congrArg (fun s:Str=>s.cps.toList) h
theorem mkS_len (a:List Nat):(mkS a).length=a.length:=by simp[mkS,Str.length]
theorem mkS_to (a:List Nat):(mkS a).cps.toList=a:=by simp[mkS]
theorem join_signs (l:List Nat):joinS "" (l.map fun c=>mkS [c])=mkS l:=by
 unfold joinS mkS;congr 2;have e:(("" : Str)).cps.toList=[]:=rfl;rw[e,List.map_map];induction l with
 | nil=>rfl
 | cons a r ih =>
  cases r with
  | nil=>rfl
  | cons b r=>
   show [a]++[]++glue [] _=_;rw[List.append_nil];exact congrArg (a::·) ih
theorem sum_ones (l:List Nat):((l.map fun c=>mkS [c]).map (·.length)).sum=l.length:=by
 induction l with
 | nil=>rfl
 | cons a r ih =>
  simp only[List.map_cons,List.sum_cons,List.length_cons];rw[ih,mkS_len];simp;omega
theorem words_w (k:Nat)(sc:List Int)(i:Int)(sg:Str)(m:Nat)(M:MH){Q:D->MH->Prop}(h0:0<=i)(h1:i<=90000)(hm:m<=8)(hsg:sg.cps.toList.Nodup)(hl:m<=sg.length)(hl0:0 < sg.length)(hl1:sg.length<=1000)
  (q:∀ (ws:List Str) (j:Nat) (M':MH),Words m ws->Gr M M'->M.length<=j->M'[j]?=some (.lst (ws.map .str))->Q (.ob j) M'):W ((cx srt (k + 3)).fn "_law_words" [.fl (sc.map .int),.int i,.str sg,.int m]) M Q:=by
 have big:=line_big;have small8:small 8:=⟨by walk_at "o",by walk_at "o"⟩;have smallm:small (m:Int):=⟨by walk_at "o",by walk_at "o"⟩;rw[f__law_words,wf,b__law_words];walk_at "wq";refine⟨small8,by rw[rng_len];omega,?_⟩;refine w_compI (fun n ys M'=>M'=M/\∃ l:List Nat,l.length=n/\ys=l.map fun c=>.str (mkS [c])) ⟨rfl,[],rfl,rfl⟩ (fun _ _ _ _=>trivial) ?_ ?_
 ·rintro n d ys M' hd ⟨rfl,l,hl',rfl⟩
  obtain⟨rfl,hn⟩:=rng_get hd;walk_at "wq";refine⟨by walk_at "o",pick_w (k:=k) sc _ _ M' (by walk_at "o") (by walk_at "o") (by walk_at "o") ?_⟩;walk_at "wq";have a1:=pick_lo sc (i + (0 + (n:Int))) (show (0:Int) < (sg.length:Int) by walk_at "o");have a2:=pick_hi sc (i + (0 + (n:Int))) (show (0:Int) < (sg.length:Int) by walk_at "o");obtain⟨c,hc,_⟩:=atD_in (xs:=sg.cps.toList) a1 (by rw[len_toList];exact a2);refine⟨by walk_at "o",c,hc,l++[c],?_,?_⟩
  ·rw[List.length_append,hl'];rfl
  ·rw[List.map_append];rfl
 rintro ys M' ⟨rfl,l,hlen,rfl⟩;rw[rng_len]at hlen;have hlen:l.length=8:=by rw[hlen];rfl
 walk_at "wq";refine⟨_,get_new _ _,l.map (fun c=>mkS [c]),?_,?_,?_⟩
 ·rw[<- mapM_strs,List.map_map];rfl
 ·rw[sum_ones,List.length_map,hlen]
  show 8 + 8 * 0<=_;omega
 rw[join_signs];have hw:(mkS l).length=8:=by rw[mkS_len,hlen]
 generalize hM1:M'++[MO.lst (l.map fun c=>D.str (mkS [c]))]=M1;have g1:Gr M' M1:=hM1 ▸ Gr.app _ _;clear hM1;refine pick_w (k:=k) sc _ _ M1 (by walk_at "o") (by walk_at "o") (by walk_at "o") ?_;walk_at "wq";refine⟨fun _=>⟨smallm,by rw[rng_len];omega,?_⟩,fun _=>?_⟩
 ·refine w_compI (fun n ys M'=>M'=M1/\ys=((List.range n).map fun j=>D.str (mkS (l.take (j + 1))))) ⟨rfl,rfl⟩ (fun _ _ _ _=>trivial) ?_ ?_
  ·rintro n d ys M2 hd ⟨rfl,rfl⟩
   obtain⟨rfl,hn⟩:=rng_get hd;walk_at "wq";refine⟨by walk_at "o",?_⟩;rw[cut_hi _ (by walk_at "o"),mkS_to,List.range_succ,List.map_append]
   have:((0:Int) + (n:Int) + 1).toNat=n + 1:=by walk_at "o"
   rw[this];rfl
  ·rintro ys M2 ⟨rfl,rfl⟩
   rw[rng_len];walk_at "wq";have e:((m:Int) - 0).toNat=m:=by walk_at "o"
   rw[e];refine q ((List.range m).map fun j=>mkS (l.take (j + 1))) _ _ ⟨by rw[List.length_map,List.length_range],?_,?_⟩ (g1.snoc _) g1.len ?_
   ·refine nodup_map_range fun a b ha hb he=>?_
    have:=congrArg List.length (mkS_inj he)
    rw[List.length_take,List.length_take]at this;omega
   ·intro w hw'
    obtain⟨j,hj,rfl⟩:=List.mem_map.mp hw'
    have:=List.mem_range.mp hj
    rw[mkS_len,List.length_take];omega
   ·rw[get_new,List.map_map];rfl
 ·refine pick_w (k:=k) sc _ _ M1 (by walk_at "o") (by walk_at "o") (by walk_at "o") ?_
  walk_at "wq";have a1:=pick_lo sc (i + 9) (show (0:Int) < 8 by walk_at "o");have a2:=pick_hi sc (i + 9) (show (0:Int) < 8 by walk_at "o");obtain⟨at_,hat⟩:∃ n:Nat,pickV sc (i + 9) 8=n:=Int.eq_ofNat_of_zero_le a1;rw[hat];have hat8:at_ < 8:=by walk_at "o"
  refine⟨by walk_at "o",pick_w (k:=k) sc _ _ M1 (by walk_at "o") (by walk_at "o") (by walk_at "o") ?_⟩;walk_at "wq";have f1:=pick_lo sc (i + 10) (show (0:Int) < (sg.length:Int) by walk_at "o");have f2:=pick_hi sc (i + 10) (show (0:Int) < (sg.length:Int) by walk_at "o");obtain⟨fst,hfst⟩:∃ n:Nat,pickV sc (i + 10) sg.length=n:=Int.eq_ofNat_of_zero_le f1;rw[hfst];rw[hfst]at f2;refine⟨by walk_at "o",smallm,?_⟩;have sgl:∀ n:Nat,(fst + n) % sg.length < sg.cps.toList.length:=fun n=>by rw[len_toList];exact Nat.mod_lt _ hl0
  have w8:l.take at_++[sg.cps.toList.getD ((fst + 0) % sg.length) 0]++l.drop (at_ + 1)≠[]:=by simp
  refine w_loop (fun n ρ M'=>Gr M1 M'/\M'[M1.length]?=some (.lst ((List.range n).map fun j=>D.str (mkS (l.take at_++[sg.cps.toList.getD ((fst + j) % sg.length) 0]++l.drop (at_ + 1)))))/\∃ x9 x10,ρ=[some (.fl (sc.map .int)),some (.int i),some (.str sg),some (.int m),some (.str (mkS l)),some (.int (pickV sc (i + 8) 3)),some (.int at_),some (.int fst),some (.ob M1.length),x9,x10]) ⟨Gr.app _ _,get_new _ _,none,none,rfl⟩ (fun _ _ _ _=>trivial) ?_ ?_
  ·rintro n d ρ M2 hd ⟨g2,hg,x9,x10,rfl⟩
   obtain⟨rfl,hn⟩:=rng_get hd;walk_at "wq";have em:((fst:Int) + (0 + (n:Int))) % (sg.length:Int)=(((fst + n) % sg.length:Nat):Int):=by
    rw[Int.natCast_emod];congr 1;omega
   refine⟨by walk_at "o",by walk_at "o",by walk_at "o",sg.cps.toList[(fst + n) % sg.length]'(sgl n),?_,?_⟩
   ·rw[em]
    exact atD_nat (List.getElem?_eq_getElem (sgl n))
   unfold sgn;walk_at "wq";rw[cut_hi _ (by walk_at "o"),cut_lo _ (by walk_at "o"),mkS_to,hg];have e1:(at_:Int).toNat=at_:=rfl;have e2:((at_:Int) + 1).toNat=at_ + 1:=by walk_at "o"
   rw[e1,e2];have hn':n < m:=by walk_at "o"
   refine⟨_,rfl,by walk_at "o",?_,by walk_at "o",?_,?_⟩
   ·show (mkS (l.take at_)).length + 1<=_
    rw[mkS_len,List.length_take];omega
   ·rw[len_app]
    show (mkS (l.take at_)).length + 1 + (mkS (l.drop (at_ + 1))).length<=_;rw[mkS_len,mkS_len,List.length_take,List.length_drop];omega
   refine⟨_,rfl,?_,g2.set (Nat.le_refl _) _,?_,⟨_,_,rfl⟩⟩
   ·rw[List.length_map,List.length_range];omega
   ·rw[set_get hg,List.range_succ,List.map_append,List.map_cons,List.map_nil]
    have e3:sg.cps.toList.getD ((fst + n) % sg.length) 0=sg.cps.toList[(fst + n) % sg.length]'(sgl n):=by
     rw[List.getD_eq_getElem?_getD,List.getElem?_eq_getElem (sgl n)];rfl
    rw[e3];have e4:mkS (l.take at_++[sg.cps.toList[(fst + n) % sg.length]'(sgl n)]++l.drop (at_ + 1))=(⟨(l.take at_).toArray⟩:Str)++(⟨#[sg.cps.toList[(fst + n) % sg.length]'(sgl n)]⟩:Str)++(⟨(l.drop (at_ + 1)).toArray⟩:Str):=by
     show _=(⟨((l.take at_).toArray++#[_])++(l.drop (at_ + 1)).toArray⟩:Str);unfold mkS;simp
    rw[e4]
  ·rintro ρ M2 ⟨g2,hg,x9,x10,rfl⟩
   rw[rng_len]at hg;have em:((m:Int) - 0).toNat=m:=by walk_at "o"
   rw[em]at hg;have inj:∀ a b,a < m->b < m->sg.cps.toList.getD ((fst + a) % sg.length) 0=sg.cps.toList.getD ((fst + b) % sg.length) 0->a=b:=fun a b ha hb he=>by
    rw[List.getD_eq_getElem?_getD,List.getD_eq_getElem?_getD,List.getElem?_eq_getElem (sgl a),List.getElem?_eq_getElem (sgl b)]at he;have e6:(fst + a) % sg.length=(fst + b) % sg.length:=(List.getElem_inj hsg).mp he;by_cases c1:fst + a < sg.length <;> by_cases c2:fst + b < sg.length
    ·rw[Nat.mod_eq_of_lt c1,Nat.mod_eq_of_lt c2]at e6;omega
    ·rw[Nat.mod_eq_of_lt c1,Nat.mod_eq_sub_mod (by walk_at "o"),Nat.mod_eq_of_lt (by walk_at "o")]at e6;omega
    ·rw[Nat.mod_eq_of_lt c2,Nat.mod_eq_sub_mod (by walk_at "o"),Nat.mod_eq_of_lt (by walk_at "o")]at e6;omega
    ·rw[Nat.mod_eq_sub_mod (by walk_at "o"),Nat.mod_eq_of_lt (a:=fst + a - sg.length) (by walk_at "o"),Nat.mod_eq_sub_mod (a:=fst + b) (by walk_at "o"),Nat.mod_eq_of_lt (by walk_at "o")]at e6;omega
   have inj2:∀ (r:List Nat) (a b:Nat),a < m->b < m->l.take at_++[sg.cps.toList.getD ((fst + a) % sg.length) 0]++r=l.take at_++[sg.cps.toList.getD ((fst + b) % sg.length) 0]++r->a=b:=fun r a b ha hb he=>by
    rw[List.append_cancel_right_eq,List.append_cancel_left_eq]at he;exact inj a b ha hb (List.cons.inj he).1
   walk_at "wq";refine⟨fun _=>?_,fun _=>?_⟩
   ·refine q ((List.range m).map fun j=>mkS (l.take at_++[sg.cps.toList.getD ((fst + j) % sg.length) 0]++l.drop (at_ + 1))) _ _ ⟨by rw[List.length_map,List.length_range],?_,?_⟩ (g1.trans g2) g1.len ?_
    ·exact nodup_map_range fun a b ha hb he=>inj2 _ a b ha hb (mkS_inj he)
    ·intro w hw'
     obtain⟨j,hj,rfl⟩:=List.mem_map.mp hw';rw[mkS_len,List.length_append,List.length_append,List.length_take,List.length_drop];simp;omega
    ·rw[hg,List.map_map];rfl
   ·refine⟨_,hg,by rw[List.length_map,List.length_range];omega,?_⟩
    refine w_compI (fun n ys M'=>M'=M2/\ys=((List.range n).map fun j=>D.str (mkS (l.take at_++[sg.cps.toList.getD ((fst + j) % sg.length) 0])))) ⟨rfl,rfl⟩ (fun _ _ _ h=>by rw[h.1];exact hg) ?_ ?_
    ·rintro n d ys M3 hd ⟨rfl,rfl⟩
     rw[List.getElem?_map]at hd;obtain⟨j,hj,rfl⟩:=Option.map_eq_some_iff.mp hd;have hjn:j=n/\n < m:=by
      obtain⟨z1,z2⟩:=List.getElem?_eq_some_iff.mp hj;rw[List.length_range]at z1;rw[List.getElem_range]at z2;exact⟨z2.symm,z1⟩
     obtain⟨rfl,hjm⟩:=hjn;walk_at "wq";refine⟨?_,?_⟩
     ·rw[mkS_len,List.length_append,List.length_append,List.length_take,List.length_drop]
      simp;omega
     ·rw[cut_hi _ (by walk_at "o"),mkS_to,List.range_succ,List.map_append]
      have e2:((at_:Int) + 1).toNat=at_ + 1:=by walk_at "o"
      have e3:(l.take at_++[sg.cps.toList.getD ((fst + j) % sg.length) 0]++l.drop (at_ + 1)).take (at_ + 1)=l.take at_++[sg.cps.toList.getD ((fst + j) % sg.length) 0]:=by
       rw[List.take_left' (by rw[List.length_append,List.length_take];simp;omega)]
      rw[e2,e3];rfl
    ·rintro ys M3 ⟨rfl,rfl⟩
     rw[List.length_map,List.length_range];walk_at "wq";refine q ((List.range m).map fun j=>mkS (l.take at_++[sg.cps.toList.getD ((fst + j) % sg.length) 0])) _ _ ⟨by rw[List.length_map,List.length_range],?_,?_⟩ ((g1.trans g2).snoc _) (Nat.le_trans g1.len g2.len) ?_
     ·refine nodup_map_range fun a b ha hb he=>inj2 [] a b ha hb ?_
      rw[mkS_inj he]
     ·intro w hw'
      obtain⟨j,hj,rfl⟩:=List.mem_map.mp hw';rw[mkS_len,List.length_append,List.length_take];simp;omega
     ·rw[get_new,List.map_map];rfl
end
end Law
namespace Law
open PySem L3
section
variable {srt:List D->Option (List D)}
theorem insD_perm {α:Type}(xs:List α)(i:Int)(v:α):(insD xs i v).Perm (xs++[v]):=by
 unfold insD;refine List.perm_middle.trans ?_;rw[List.take_append_drop];exact(List.perm_append_singleton v xs).symm
theorem mixedUp_w (k:Nat)(sc:List Int)(i:Int)(M:MH)(js:Nat)(ds:List D){Q:D->MH->Prop}(h0:0<=i)(h1:i<=90000)(hl:ds.length<=1000)(hj:M[js]?=some (.lst ds))
  (q:∀ (es:List D) (j:Nat) (M':MH),es.Perm ds->Gr M M'->M.length<=j->M'[j]?=some (.lst es)->Q (.ob j) M'):W ((cx srt (k + 3)).fn "_law_mixed_up" [.fl (sc.map .int),.int i,.ob js]) M Q:=by
 have big:=line_big;rw[f__law_mixed_up,wf,b__law_mixed_up];walk_at "wq";have hj1:(M++[MO.lst []])[js]?=some (.lst ds):=(Gr.app _ _).keep _ _ hj;refine⟨by walk_at "o",_,hj1,⟨by show -(2 ^ 62)<=(ds.length:Int);omega,by show (ds.length:Int) < 2 ^ 62;omega⟩,?_⟩;walk_at "wq";refine w_loop (fun n ρ M'=>Gr M M'/\(∃ es:List D,es.Perm (ds.take n)/\M'[M.length]?=some (.lst es))/\∃ x,ρ=[some (.fl (sc.map .int)),some (.int i),some (.ob js),some (.ob M.length),x]) ⟨Gr.app _ _,⟨[],.refl _,get_new _ _⟩,none,rfl⟩ (fun _ _ _ _=>trivial) ?_ ?_
 ·rintro n d ρ M2 hd ⟨g2,⟨es,hp,he⟩,x,rfl⟩
  obtain⟨rfl,hn⟩:=rng_get hd;have hn':n < ds.length:=by walk_at "o"
  have hle:=hp.length_eq;rw[List.length_take]at hle;walk_at "wq";refine⟨_,he,pick_w (k:=k) sc _ _ M2 (by walk_at "o") (by walk_at "o") (by walk_at "o") ?_⟩;walk_at "wq";have a1:=pick_lo sc (i + (0 + (n:Int))) (show (0:Int) < 0 + (n:Int) + 1 by walk_at "o");have a2:=pick_hi sc (i + (0 + (n:Int))) (show (0:Int) < 0 + (n:Int) + 1 by walk_at "o");refine⟨_,g2.keep _ _ hj,?_⟩;walk_at "wq";refine⟨ds[n],?_,_,he,⟨by walk_at "o",by walk_at "o",by walk_at "o"⟩,g2.set (Nat.le_refl _) _,⟨_,?_,set_get he⟩,_,rfl⟩
  ·rw[show (0:Int) + (n:Int)=(n:Int) by walk_at "o"]
   exact atD_nat (List.getElem?_eq_getElem hn')
  ·refine(insD_perm _ _ _).trans ?_
   rw[List.take_add_one,List.getElem?_eq_getElem hn'];exact hp.append_right _
 ·rintro ρ M2 ⟨g2,⟨es,hp,he⟩,x,rfl⟩
  rw[rng_len]at hp;have e:((ds.length:Int) - 0).toNat=ds.length:=by walk_at "o"
  rw[e,List.take_length]at hp;walk_at "wq";exact q es _ _ hp g2 (Nat.le_refl _) he
theorem alpha_nd:(("abcdefghijklmnopqrstuvwxyz" : Str)).cps.toList.Nodup:=by decide +kernel
theorem alpha_len:(("abcdefghijklmnopqrstuvwxyz" : Str)).length=26:=by decide +kernel
end
end Law
namespace Law
open PySem L3
section
variable {srt:List D->Option (List D)}
theorem alnum_nd:(("abcdefghijklmnopqrstuvwxyz0123456789" : Str)).cps.toList.Nodup:=by decide +kernel
theorem alnum_len:(("abcdefghijklmnopqrstuvwxyz0123456789" : Str)).length=36:=by decide +kernel
theorem tail_len:(("0z9a" : Str)).length=4:=by decide +kernel
theorem app_inj {a b t:Str}(h:a++t=b++t):a=b:=by
 have e:a.cps++t.cps=b.cps++t.cps:=congrArg (fun s:Str=>s.cps) h
 have:=Array.append_left_inj t.cps |>.mp e
 cases a;cases b;exact congrArg Str.mk this
structure Pool (M:MH) (d:D) (as vs ns:List Str) (ot:Str):Prop where
 is:∃ ia iv iN:Nat,d=.tup [.ob ia,.ob iv,.ob iN,.str ot]/\M[ia]?=some (.lst (as.map .str))/\M[iv]?=some (.lst (vs.map .str))/\M[iN]?=some (.lst (ns.map .str))
 pre:∃ n,as=ns.take n
 a1:1<=as.length
 a3:as.length<=3
 v1:1<=vs.length
 v3:vs.length<=3
 n6:ns.length=6
 nn:ns.Nodup
 vn:(vs++[ot]).Nodup
 nz:∀ x∈ns,1<=x.length/\x.length<=8
 vz:∀ x∈vs++[ot],1<=x.length/\x.length<=12
theorem Pool.keep {M M':MH}{d:D}{as vs ns:List Str}{ot:Str}(P:Pool M d as vs ns ot)(g:Gr M M'):Pool M' d as vs ns ot:=by
 obtain⟨ia,iv,iN,h1,h2,h3,h4⟩:=P.is;exact { P with is:=⟨ia,iv,iN,h1,g.keep _ _ h2,g.keep _ _ h3,g.keep _ _ h4⟩ }
theorem nine (n:Nat)(h:n < 9)(a b c d e f g i j:Int)(P:Int->Prop)(ha:P a)(hb:P b)(hc:P c)(hd:P d)(he:P e)(hf:P f)(hg:P g)(hi:P i)(hj:P j) :
  ∃ r:Int,P r/\atD [D.int a,.int b,.int c,.int d,.int e,.int f,.int g,.int i,.int j] (n:Int)=some (.int r):=by
 have h9:n=0\/n=1\/n=2\/n=3\/n=4\/n=5\/n=6\/n=7\/n=8:=by walk_at "o"
 rcases h9 with rfl | rfl | rfl | rfl | rfl | rfl | rfl | rfl | rfl
 ·exact⟨a,ha,rfl⟩
 ·exact⟨b,hb,rfl⟩
 ·exact⟨c,hc,rfl⟩
 ·exact⟨d,hd,rfl⟩
 ·exact⟨e,he,rfl⟩
 ·exact⟨f,hf,rfl⟩
 ·exact⟨g,hg,rfl⟩
 ·exact⟨i,hi,rfl⟩
 ·exact⟨j,hj,rfl⟩
theorem pool_w (k:Nat)(sc:List Int)(M:MH){Q:D->MH->Prop}(q:∀ (d:D) (as vs ns:List Str) (ot:Str) (M':MH),Pool M' d as vs ns ot->Gr M M'->Q d M'):W ((cx srt (k + 4)).fn "_law_pool" [.fl (sc.map .int),.int 0]) M Q:=by
 have big:=line_big;rw[f__law_pool,wf,b__law_pool];walk_at "wq";refine words_w k sc 0 _ 6 M (by walk_at "o") (by walk_at "o") (by walk_at "o") alpha_nd (by rw[alpha_len];omega) (by rw[alpha_len];omega) (by rw[alpha_len];omega) fun ns jn M1 hn g1 _ hjn=>?_;walk_at "wq";refine words_w k sc _ _ 4 M1 (by walk_at "o") (by walk_at "o") (by walk_at "o") alnum_nd (by rw[alnum_len];omega) (by rw[alnum_len];omega) (by rw[alnum_len];omega) fun vs jv M2 hv g2 _ hjv=>?_;walk_at "wq";refine pick_w (k:=k + 1) sc _ _ M2 (by walk_at "o") (by walk_at "o") (by walk_at "o") ?_;walk_at "wq";have tail:∀ (ws:List Str) (jw:Nat) (M3:MH),ws.length=4->ws.Nodup->(∀ x∈ws,1<=x.length/\x.length<=12)->Gr M2 M3->M3[jw]?=some (.lst (ws.map .str)) ->
   W (semSs (cx srt (k + 3)) (.cons (.set 4 (.call ("_law_pick" : Str) (.cons (.var 0) (.cons (.bin .Add (.var 1) (.cint 23)) (.cons (.cint 6) .nil)))))
  (.cons (.set 2 (.bin .Add (.slc (.var 2) (.some (.var 4)) .none) (.slc (.var 2) .none (.some (.var 4)))))
  (.cons (.set 5 (.slc (.var 2) .none (.some (.idx (.lst (.cons (.cint 1) (.cons (.cint 2) (.cons (.cint 1) (.cons (.cint 2) (.cons (.cint 1) (.cons (.cint 2) (.cons (.cint 2) (.cons (.cint 1) (.cons (.cint 3) .nil)))))))))) (.call ("_law_pick" : Str) (.cons (.var 0) (.cons (.bin .Add (.var 1) (.cint 24)) (.cons (.cint 9) .nil))))))))
  (.cons (.ret (.tup (.cons (.var 5) (.cons (.slc (.var 3) .none (.some (.idx (.lst (.cons (.cint 1) (.cons (.cint 2) (.cons (.cint 1) (.cons (.cint 2) (.cons (.cint 2) (.cons (.cint 1) (.cons (.cint 2) (.cons (.cint 1) (.cons (.cint 3) .nil)))))))))) (.call ("_law_pick" : Str) (.cons (.var 0) (.cons (.bin .Add (.var 1) (.cint 25)) (.cons (.cint 9) .nil))))))) (.cons (.var 2) (.cons (.idx (.var 3) (.cint 3)) .nil))))))
  .nil)))) [some (.fl (sc.map .int)),some (.int 0),some (.ob jn),some (.ob jw),none,none]) M3 (endF Q):=by
  intro ws jw M3 hl hnd hsz g3 hjw;walk_at "wq";refine pick_w (k:=k + 1) sc _ _ M3 (by walk_at "o") (by walk_at "o") (by walk_at "o") ?_;obtain⟨t,ht,ht6⟩:=pick_nat sc (0 + 23) (m:=6) (by walk_at "o");rw[show ((6:Nat):Int)=6 from rfl]at ht;rw[ht];walk_at "wq";have h1:M3[jn]?=some (.lst (ns.map .str)):=g3.keep _ _ (g2.keep _ _ hjn);refine⟨_,h1,_,(Gr.app _ _).keep _ _ h1,?_⟩;rw[cut_lo _ (by walk_at "o"),cut_hi _ (by walk_at "o")];have et:(t:Int).toNat=t:=rfl;rw[et];refine⟨_,(Gr.app _ _).keep _ _ (get_new _ _),_,get_new _ _,?_,by walk_at "o",?_⟩
  ·rw[List.length_drop,List.length_take,List.length_map,hn.len];omega
  rw[<- List.map_drop,<- List.map_take,<- List.map_append];have p1:(ns.drop t++ns.take t).Perm ns:=List.perm_append_comm.trans (List.Perm.of_eq (List.take_append_drop t ns));generalize ns.drop t++ns.take t=ns' at p1 ⊢;generalize hM4:M3++[MO.lst (List.map D.str (ns.drop t))]++[MO.lst (List.map D.str (ns.take t))]=M4;have g4:Gr M3 M4:=hM4 ▸ (Gr.app _ _).snoc _;clear hM4;refine pick_w (k:=k + 1) sc _ _ _ (by walk_at "o") (by walk_at "o") (by walk_at "o") ?_;obtain⟨a,ha,ha9⟩:=pick_nat sc (0 + 24) (m:=9) (by walk_at "o");rw[show ((9:Nat):Int)=9 from rfl]at ha;rw[ha];walk_at "wq";refine⟨_,get_new _ _,?_⟩;walk_at "wq";obtain⟨ra,⟨ra1,ra3⟩,hra⟩:=nine a ha9 1 2 1 2 1 2 2 1 3 (fun r=>1<=r/\r<=3) (by walk_at "o") (by walk_at "o") (by walk_at "o") (by walk_at "o") (by walk_at "o") (by walk_at "o") (by walk_at "o") (by walk_at "o") (by walk_at "o");refine⟨_,hra,?_⟩;walk_at "wq";refine⟨_,(Gr.app _ _).keep _ _ (get_new _ _),by walk_at "o",?_⟩;rw[cut_hi _ (by walk_at "o"),<- List.map_take];have hN5:(M4++[MO.lst (List.map D.str ns')])[M4.length]?=some (.lst (ns'.map .str)):=get_new _ _;have g5:Gr M3 (M4++[MO.lst (List.map D.str ns')]):=g4.snoc _;generalize hM5:M4++[MO.lst (List.map D.str ns')]=M5 at hN5 g5 ⊢;generalize hiN:M4.length=iN at hN5 ⊢;have hA6:(M5++[MO.lst [D.int 1,D.int 2,D.int 1,D.int 2,D.int 1,D.int 2,D.int 2,D.int 1,D.int 3]]++[MO.lst (List.map D.str (ns'.take ra.toNat))])[(M5++[MO.lst [D.int 1,D.int 2,D.int 1,D.int 2,D.int 1,D.int 2,D.int 2,D.int 1,D.int 3]]).length]?=some (.lst ((ns'.take ra.toNat).map .str)):=get_new _ _;have g6:Gr M5 (M5++[MO.lst [D.int 1,D.int 2,D.int 1,D.int 2,D.int 1,D.int 2,D.int 2,D.int 1,D.int 3]]++[MO.lst (List.map D.str (ns'.take ra.toNat))]):=(Gr.app _ _).snoc _;generalize hM6:M5++[MO.lst [D.int 1,D.int 2,D.int 1,D.int 2,D.int 1,D.int 2,D.int 2,D.int 1,D.int 3]]++[MO.lst (List.map D.str (ns'.take ra.toNat))]=M6 at hA6 g6 ⊢;generalize hiA:(M5++[MO.lst [D.int 1,D.int 2,D.int 1,D.int 2,D.int 1,D.int 2,D.int 2,D.int 1,D.int 3]]).length=iA at hA6 ⊢;refine pick_w (k:=k + 1) sc _ _ _ (by walk_at "o") (by walk_at "o") (by walk_at "o") ?_;obtain⟨b,hb,hb9⟩:=pick_nat sc (0 + 25) (m:=9) (by walk_at "o");rw[show ((9:Nat):Int)=9 from rfl]at hb;rw[hb];walk_at "wq";refine⟨_,get_new _ _,?_⟩;walk_at "wq";obtain⟨rb,⟨rb1,rb3⟩,hrb⟩:=nine b hb9 1 2 1 2 2 1 2 1 3 (fun r=>1<=r/\r<=3) (by walk_at "o") (by walk_at "o") (by walk_at "o") (by walk_at "o") (by walk_at "o") (by walk_at "o") (by walk_at "o") (by walk_at "o") (by walk_at "o");refine⟨_,hrb,?_⟩;walk_at "wq";have hjw6:=g6.keep _ _ (g5.keep _ _ hjw);refine⟨_,(Gr.app _ _).keep _ _ hjw6,_,(Gr.app _ _).keep _ _ ((Gr.app _ _).keep _ _ hjw6),?_⟩;walk_at "wq";rw[cut_hi _ (by walk_at "o"),<- List.map_take];refine⟨.str (ws[3]'(by walk_at "o")),?_,by walk_at "o",?_⟩
  ·refine atD_nat (j:=3) ?_
   rw[List.getElem?_map,List.getElem?_eq_getElem (by walk_at "o")];rfl
  have hsub:(ws.take rb.toNat++[ws[3]'(by walk_at "o")]).Sublist ws:=by
   have e:=List.take_append_drop rb.toNat ws;have h3:ws[3]'(by walk_at "o")∈ws.drop rb.toNat:=by
    rw[List.mem_drop_iff_getElem];exact⟨3 - rb.toNat,by walk_at "o",by congr 1;omega⟩
   conv=>rhs;rw[<- e]
   exact(List.Sublist.refl _).append (List.singleton_sublist.mpr h3)
  refine q _ (ns'.take ra.toNat) (ws.take rb.toNat) ns' (ws[3]'(by walk_at "o")) _ ⟨⟨iA,_,iN,rfl,?_,get_new _ _,?_⟩,⟨_,rfl⟩,?_,?_,?_,?_,?_,?_,?_,?_,?_⟩ ((((((g1.trans g2).trans g3).trans g5).trans g6).snoc _).snoc _)
  ·exact(Gr.app _ _).keep _ _ ((Gr.app _ _).keep _ _ hA6)
  ·exact(Gr.app _ _).keep _ _ ((Gr.app _ _).keep _ _ (g6.keep _ _ hN5))
  ·rw[List.length_take,p1.length_eq,hn.len];omega
  ·rw[List.length_take];omega
  ·rw[List.length_take];omega
  ·rw[List.length_take];omega
  ·rw[p1.length_eq,hn.len]
  ·exact p1.nodup_iff.mpr hn.nd
  ·exact hnd.sublist hsub
  ·exact fun x hx=>hn.sz x (p1.mem_iff.mp hx)
  ·exact fun x hx=>hsz x (hsub.subset hx)
 refine⟨fun _=>⟨_,hjv,by rw[List.length_map,hv.len];omega,?_⟩,fun _=>?_⟩
 ·refine w_compI (fun n ys M'=>M'=M2/\ys=((vs.take n).map fun x=>D.str (x++("0z9a" : Str)))) ⟨rfl,rfl⟩ (fun _ _ _ h=>by rw[h.1];exact hjv) ?_ ?_
  ·rintro n d ys M3 hd ⟨rfl,rfl⟩
   rw[List.getElem?_map]at hd;obtain⟨x,hx,rfl⟩:=Option.map_eq_some_iff.mp hd
   have:=hv.sz x (List.mem_of_getElem? hx)
   walk_at "wq";refine⟨by rw[tail_len];omega,?_⟩;rw[List.take_add_one,hx];simp
  ·rintro ys M3 ⟨rfl,rfl⟩
   rw[List.length_map,List.take_length];have t:=tail (vs.map fun x=>x++("0z9a" : Str)) M3.length (M3++[.lst (vs.map fun x=>D.str (x++("0z9a" : Str)))]) (by rw[List.length_map,hv.len]) ?_ ?_ (Gr.app _ _) (by rw[get_new,List.map_map];rfl)
   ·revert t
    walk_at "wq";exact id
   ·rw[List.Nodup,List.pairwise_map]
    exact hv.nd.imp fun h e=>h (app_inj e)
   ·intro x hx
    obtain⟨y,hy,rfl⟩:=List.mem_map.mp hx
    have:=hv.sz y hy
    rw[len_app,tail_len];omega
 ·have t:=tail vs jv M2 hv.len hv.nd (fun x hx=>by have:=hv.sz x hx;omega) Gr.refl hjv
  revert t;walk_at "wq";exact id
end
end Law
namespace Law
open PySem L3
section
variable {srt:List D->Option (List D)}
structure Ask where
 w:Str
 n:Str
 vs:List Str
noncomputable def askD (a:Ask):D:=.tup [.str a.w,.str a.n,.tup (a.vs.map .str)]
structure Ask.Ok (a:Ask) (as vs:List Str):Prop where
 word:((a.w = "is"\/a.w = "no")/\a.vs≠[])\/((a.w = "there"\/a.w = "lacks")/\a.vs=[])
 name:a.n∈as
 vals:∀ v∈a.vs,v∈vs
 len:a.vs.length<=3
 nd:a.vs.Nodup
theorem words5 (n:Nat)(h:n < 5):∃ r:Str,(r = "is"\/r = "no"\/r = "there"\/r = "lacks")/\atD [D.str "is",.str "is",.str "no",.str "there",.str "lacks"] (n:Int)=some (.str r):=by
 have h9:n=0\/n=1\/n=2\/n=3\/n=4:=by walk_at "o"
 rcases h9 with rfl | rfl | rfl | rfl | rfl
 ·exact⟨"is",.inl rfl,rfl⟩
 ·exact⟨"is",.inl rfl,rfl⟩
 ·exact⟨"no",.inr (.inl rfl),rfl⟩
 ·exact⟨"there",.inr (.inr (.inl rfl)),rfl⟩
 ·exact⟨"lacks",.inr (.inr (.inr rfl)),rfl⟩
theorem str_get {xs:List Str}{n:Nat}(h:n < xs.length):atD (xs.map D.str) (n:Int)=some (.str xs[n]):=atD_nat (by rw[List.getElem?_map,List.getElem?_eq_getElem h];rfl)
theorem asking_w (k:Nat)(sc:List Int)(i:Int)(M:MH){d:D}{as vs ns:List Str}{ot:Str}(P:Pool M d as vs ns ot){Q:D->MH->Prop}(h0:0<=i)(h1:i<=90000)(q:∀ (a:Ask) (M':MH),a.Ok as vs->Gr M M'->Q (askD a) M'):W ((cx srt (k + 3)).fn "_law_asking" [.fl (sc.map .int),.int i,d]) M Q:=by
 have big:=line_big;obtain⟨ia,iv,iN,rfl,h2,h3,h4⟩:=P.is
 have:=P.a1
 have:=P.v1
 have:=P.v3
 rw[f__law_asking,wf,b__law_asking];walk_at "wq";refine⟨_,h2,?_⟩;rw[k_lenl,List.length_map];obtain⟨n,hn,hlt⟩:=pick_nat sc i (m:=as.length) (by walk_at "o");refine pick_w (k:=k) sc _ _ M (by walk_at "o") (by walk_at "o") (by walk_at "o") ?_;rw[hn];walk_at "wq";refine⟨_,h2,?_⟩;walk_at "wq";refine⟨_,str_get hlt,by walk_at "o",pick_w (k:=k) sc _ _ _ (by walk_at "o") (by walk_at "o") (by walk_at "o") ?_⟩;walk_at "wq";refine⟨_,get_new _ _,?_⟩;obtain⟨w,hw,hw5⟩:=pick_nat sc (i + 1) (m:=5) (by walk_at "o");rw[show ((5:Nat):Int)=5 from rfl]at hw;rw[hw];walk_at "wq";obtain⟨r,hr,hrw⟩:=words5 w hw5;refine⟨_,hrw,?_⟩;walk_at "wq";generalize hM1:M++[MO.lst [D.str "is",.str "is",.str "no",.str "there",.str "lacks"]]=M1;have g1:Gr M M1:=hM1 ▸ Gr.app _ _;clear hM1;have hname:as[n]∈as:=List.getElem_mem hlt;have bare:(r = "there"\/r = "lacks")->Q (.tup [.str r,.str as[n],.tup []]) M1:=fun h=>q ⟨r,as[n],[]⟩ M1 ⟨.inr ⟨h,rfl⟩,hname,fun v h=>by simp at h,by simp,by simp⟩ g1;refine⟨fun h=>⟨by walk_at "o",by walk_at "o",bare (.inl (beq_iff_eq.mp h))⟩,fun h5=>⟨fun h=>⟨by walk_at "o",by walk_at "o",bare (.inr (beq_iff_eq.mp h))⟩,fun h6=>?_⟩⟩;have hr':r = "is"\/r = "no":=by
  rcases hr with e | e | e | e
  ·exact .inl e
  ·exact .inr e
  ·rw[e]at h5;exact absurd h5 (by decide +kernel)
  ·rw[e]at h6;exact absurd h6 (by decide +kernel)
 have h3':=g1.keep _ _ h3;refine⟨_,h3',?_⟩;rw[k_lenl,List.length_map];obtain⟨f,hf,hflt⟩:=pick_nat sc (i + 2) (m:=vs.length) (by walk_at "o");refine pick_w (k:=k) sc _ _ _ (by walk_at "o") (by walk_at "o") (by walk_at "o") ?_;rw[hf];walk_at "wq";refine⟨_,h3',_,(Gr.app _ _).keep _ _ h3',?_⟩;rw[cut_lo _ (by walk_at "o"),cut_hi _ (by walk_at "o")];have et:(f:Int).toNat=f:=rfl;rw[et];refine⟨_,(Gr.app _ _).keep _ _ (get_new _ _),_,get_new _ _,?_,?_⟩
 ·rw[List.length_drop,List.length_take,List.length_map];omega
 rw[<- List.map_drop,<- List.map_take,<- List.map_append];have p1:(vs.drop f++vs.take f).Perm vs:=List.perm_append_comm.trans (List.Perm.of_eq (List.take_append_drop f vs));generalize vs.drop f++vs.take f=vs' at p1 ⊢;generalize hM2:M1++[MO.lst (List.map D.str (vs.drop f))]++[MO.lst (List.map D.str (vs.take f))]=M2;have g2:Gr M1 M2:=hM2 ▸ (Gr.app _ _).snoc _;clear hM2;refine⟨_,(g2.snoc _).keep _ _ h3',?_⟩;rw[k_lenl,List.length_map];obtain⟨m,hm,hmlt⟩:=pick_nat sc (i + 3) (m:=vs.length) (by walk_at "o");refine pick_w (k:=k) sc _ _ _ (by walk_at "o") (by walk_at "o") (by walk_at "o") ?_;rw[hm];walk_at "wq";refine⟨_,get_new _ _,_,get_new _ _,by walk_at "o",?_⟩;rw[cut_hi _ (by walk_at "o"),<- List.map_take];have hl:=p1.length_eq;refine q ⟨r,as[n],vs'.take (1 + (m:Int)).toNat⟩ _ ⟨.inl ⟨hr',?_⟩,hname,fun v hv=>p1.mem_iff.mp (List.mem_of_mem_take hv),?_,?_⟩ (((g1.trans g2).snoc _).snoc _)
 ·intro e
  have h7:=congrArg List.length e;have h8:(vs'.take (1 + (m:Int)).toNat).length=min (1 + (m:Int)).toNat vs'.length:=List.length_take;rw[h8,List.length_nil]at h7;omega
 ·show (vs'.take _).length<=3
  rw[List.length_take];omega
 ·have hvn:vs.Nodup:=P.vn.sublist (List.sublist_append_left _ _)
  exact(p1.nodup_iff.mpr hvn).sublist (List.take_sublist _ _)
theorem askings_w (k:Nat)(sc:List Int)(i:Int)(m:Nat)(M:MH){d:D}{as vs ns:List Str}{ot:Str}(P:Pool M d as vs ns ot){Q:D->MH->Prop}(h0:0<=i)(h1:i<=80000)(hm:m<=100)(q:∀ (xs:List Ask) (M':MH),(∀ a∈xs,a.Ok as vs)->xs.length=m->Gr M M'->Q (.tup (xs.map askD)) M') :
  W ((cx srt (k + 4)).fn "_law_askings" [.fl (sc.map .int),.int i,.int m,d]) M Q:=by
 have big:=line_big;rw[f__law_askings,wf,b__law_askings];walk_at "wq";refine⟨⟨by walk_at "o",by walk_at "o"⟩,by rw[rng_len];omega,?_⟩;refine w_compI (fun n ys M'=>Gr M M'/\∃ xs:List Ask,(∀ a∈xs,a.Ok as vs)/\xs.length=n/\ys=xs.map askD) ⟨Gr.refl,[],fun _ h=>by simp at h,rfl,rfl⟩ (fun _ _ _ _=>trivial) ?_ ?_
 ·rintro n e ys M1 hd ⟨g,xs,hx,hl,rfl⟩
  obtain⟨rfl,hn⟩:=rng_get hd;walk_at "wq";refine⟨.inl ⟨by walk_at "o",by walk_at "o"⟩,asking_w k sc _ M1 (P.keep g) (by walk_at "o") (by walk_at "o") fun a M2 ha g2=>?_⟩;exact⟨g.trans g2,xs++[a],fun b hb=>by
   rcases List.mem_append.mp hb with h | h
   ·exact hx b h
   ·rw[List.mem_singleton.mp h];exact ha,by rw[List.length_append,hl];rfl,by rw[List.map_append];rfl⟩
 ·rintro ys M1 ⟨g,xs,hx,hl,rfl⟩
  rw[rng_len]at hl;walk_at "wq";refine⟨_,get_new _ _,q xs _ hx ?_ (g.snoc _)⟩;omega
noncomputable def Sorts (srt:List D->Option (List D)):Prop:=∀ ps:List (Str×Str),ps.length < 64->∃ qs:List (Str×Str),srt (ps.map prD)=some (qs.map prD)/\qs.Perm ps
structure Marks (ps:List (Str×Str)) (vs ns:List Str) (ot:Str):Prop where
 len:ps.length<=6
 nd:(ps.map (·.1)).Nodup
 nm:∀ p∈ps,p.1∈ns
 vl:∀ p∈ps,p.2∈vs++[ot]
theorem marks_w (hsrt:Sorts srt)(k:Nat)(sc:List Int)(i:Int)(M:MH){d:D}{as vs ns:List Str}{ot:Str}(P:Pool M d as vs ns ot){Q:D->MH->Prop}(h0:0<=i)(h1:i<=90000)(q:∀ (ps:List (Str×Str)) (M':MH),Marks ps vs ns ot->Gr M M'->Q (.tup (ps.map prD)) M') :
  W ((cx srt (k + 3)).fn "_law_marks" [.fl (sc.map .int),.int i,d]) M Q:=by
 have big:=line_big;obtain⟨ia,iv,iN,rfl,h2,h3,h4⟩:=P.is
 have:=P.n6
 have:=P.v1
 have:=P.v3
 rw[f__law_marks,wf,b__law_marks];walk_at "wq";have h4':(M++[MO.lst []])[iN]?=some (.lst (ns.map .str)):=(Gr.app _ _).keep _ _ h4;refine⟨by walk_at "o",_,h4',?_⟩;rw[k_lenl,List.length_map];refine⟨⟨by walk_at "o",by walk_at "o"⟩,?_⟩;refine w_loop (fun n ρ M'=>Gr M M'/\(∃ ps:List (Str×Str),M'[M.length]?=some (.lst (ps.map prD))/\(ps.map (·.1)).Sublist (ns.take n)/\∀ p∈ps,p.2∈vs++[ot])/\∃ x4 x5,ρ=[some (.fl (sc.map .int)),some (.int i),some (.tup [.ob ia,.ob iv,.ob iN,.str ot]),some (.ob M.length),x4,x5])
  ⟨Gr.app _ _,⟨[],get_new _ _,by simp,by simp⟩,none,none,rfl⟩ (fun _ _ _ _=>trivial) ?_ ?_
 ·rintro n e ρ M1 hd ⟨g,⟨ps,hps,hsub,hval⟩,x4,x5,rfl⟩
  obtain⟨rfl,hn⟩:=rng_get hd;have hn6:n < ns.length:=by walk_at "o"
  have hlen:ps.length<=n:=by
   have:=hsub.length_le
   rw[List.length_map,List.length_take]at this;omega
  have hv1:=g.keep _ _ h3;have hn1:=g.keep _ _ h4;walk_at "wq";refine⟨_,hv1,?_⟩;rw[k_lenl,List.length_map];obtain⟨w,hw,hwlt⟩:=pick_nat sc (i + (0 + (n:Int))) (m:=vs.length + 3) (by walk_at "o");rw[show ((vs.length + 3:Nat):Int)=(vs.length:Int) + 3 by walk_at "o"]at hw;refine pick_w (k:=k) sc _ _ M1 (by walk_at "o") (by walk_at "o") (by walk_at "o") ?_;rw[hw];walk_at "wq";have step:∀ v:Str,v∈vs++[ot]->∃ ps':List (Str×Str),(M1.set M.length (.lst (ps.map prD++[.tup [.str ns[n],.str v]])))[M.length]?=some (.lst (ps'.map prD))/\(ps'.map (·.1)).Sublist (ns.take (n + 1))/\∀ p∈ps',p.2∈vs++[ot]:=fun v hv=>by
   refine⟨ps++[(ns[n],v)],?_,?_,fun p hp=>?_⟩
   ·rw[set_get hps,List.map_append];rfl
   ·rw[List.map_append,List.take_add_one,List.getElem?_eq_getElem hn6]
    exact hsub.append (List.Sublist.refl _)
   ·rcases List.mem_append.mp hp with h | h
    ·exact hval p h
    ·rw[List.mem_singleton.mp h];exact hv
  have nat0:(0:Int) + (n:Int)=(n:Int):=by walk_at "o"
  refine⟨_,hv1,?_⟩;rw[k_lenl,List.length_map];refine⟨fun h=>?_,fun h=>?_⟩
  ·have hwv:w < vs.length:=by
    have:=of_decide_eq_true h
    omega
   refine⟨_,hps,_,hn1,?_⟩;walk_at "wq";refine⟨_,by rw[nat0];exact str_get hn6,_,hv1,?_⟩;walk_at "wq";refine⟨_,str_get hwv,by walk_at "o",_,hps,by rw[List.length_map];omega,?_⟩;have gS:Gr M (M1.set M.length (.lst (ps.map prD++[.tup [.str ns[n],.str vs[w]]]))):=g.set (Nat.le_refl _) _;refine⟨_,gS.keep _ _ h3,?_⟩;rw[k_lenl,List.length_map];walk_at "wq";refine⟨fun h2=>?_,fun _=>⟨gS,step _ (List.mem_append_left _ (List.getElem_mem hwv)),_,_,rfl⟩⟩
   have:=beq_iff_eq.mp h2
   omega
  ·refine⟨_,hv1,?_⟩
   rw[k_lenl,List.length_map];walk_at "wq";refine⟨fun h2=>?_,fun _=>⟨g,⟨ps,hps,hsub.trans (List.take_sublist_take_left (Nat.le_succ n)),hval⟩,_,_,rfl⟩⟩;refine⟨_,hps,_,hn1,?_⟩;walk_at "wq";refine⟨_,by rw[nat0];exact str_get hn6,by walk_at "o",_,hps,by rw[List.length_map];omega,?_⟩;exact⟨g.set (Nat.le_refl _) _,step _ (List.mem_append_right _ List.mem_cons_self),_,_,rfl⟩
 ·rintro ρ M1 ⟨g,⟨ps,hps,hsub,hval⟩,x4,x5,rfl⟩
  have hlen:ps.length<=6:=by
   have:=hsub.length_le
   rw[List.length_map,List.length_take]at this;omega
  walk_at "wq";obtain⟨qs,hq,hperm⟩:=hsrt ps (by walk_at "o");refine⟨_,hps,_,hq,_,get_new _ _,q qs _ ⟨by rw[hperm.length_eq];exact hlen,?_,fun p hp=>?_,fun p hp=>hval p (hperm.mem_iff.mp hp)⟩ (g.snoc _)⟩
  ·exact(hperm.map _).nodup_iff.mpr (P.nn.sublist (hsub.trans (List.take_sublist _ _)))
  ·exact List.mem_of_mem_take (hsub.subset (List.mem_map.mpr ⟨p,hperm.mem_iff.mp hp,rfl⟩))
structure Say where
 n:Int
 ps:List (Str×Str)
 w:Int
 came:Int
 gone:Option Int
noncomputable def optD:Option Int->D
 | none=>.non
 | some i=>.int i
noncomputable def sayD (s:Say):D:=.tup [.int s.n,.tup (s.ps.map prD),.int s.w,.int s.came,optD s.gone]
structure Say.Ok (s:Say) (vs ns:List Str) (ot:Str) (base:Int):Prop where
 n1:1<=s.n
 n2:s.n<=100000
 mks:Marks s.ps vs ns ot
 w0:0<=s.w
 w9:s.w<=9
 c0:0<=s.came
 c1:s.came<=base + 2
 gn:∀ g,s.gone=some g->s.came<=g/\g<=base + 10
theorem two (n:Nat)(h:n < 2)(a b:D)(P:D->Prop)(ha:P a)(hb:P b):∃ r,P r/\atD [a,b] (n:Int)=some r:=by
 have h9:n=0\/n=1:=by walk_at "o"
 rcases h9 with rfl | rfl
 ·exact⟨a,ha,rfl⟩
 ·exact⟨b,hb,rfl⟩
theorem map_of_perm {α:Type}{f:α->D}{es:List D}{ws:List α}(h:es.Perm (ws.map f)):∃ vs:List α,es=vs.map f/\vs.Perm ws:=by
 induction es generalizing ws with
 | nil =>
  have:=h.length_eq
  rw[List.length_map]at this;cases ws with
  | nil=>exact⟨[],rfl,.refl _⟩
  | cons a r=>simp at this
 | cons d es ih =>
  have hm:d∈ws.map f:=h.mem_iff.mp List.mem_cons_self;obtain⟨w,hw,rfl⟩:=List.mem_map.mp hm;obtain⟨l1,l2,rfl⟩:=List.append_of_mem hw;have h2:(f w::es).Perm (f w::((l1++l2).map f)):=by
   refine h.trans ?_;rw[List.map_append,List.map_cons,List.map_append];exact List.perm_middle
  obtain⟨vs,rfl,hv⟩:=ih ((List.perm_cons _).mp h2);exact⟨w::vs,rfl,((List.perm_cons w).mpr hv).trans List.perm_middle.symm⟩
theorem sayings_w (hsrt:Sorts srt)(k:Nat)(sc:List Int)(i:Int)(m:Nat)(base:Int)(M:MH){d:D}{as vs ns:List Str}{ot:Str}(P:Pool M d as vs ns ot){Q:D->MH->Prop}(h0:0<=i)(h1:i<=50000)(hm:m<=100)(hb:0<=base)
  (q:∀ (ws:List Say) (j:Nat) (M':MH),(∀ s∈ws,s.Ok vs ns ot base)->ws.length=m->(ws.map (·.n)).Nodup->Gr M M'->M'[j]?=some (.lst (ws.map sayD))->Q (.ob j) M') :
  W ((cx srt (k + 4)).fn "_law_sayings" [.fl (sc.map .int),.int i,.int m,.int base,d]) M Q:=by
 have big:=line_big;rw[f__law_sayings,wf,b__law_sayings];walk_at "wq";refine⟨by walk_at "o",⟨by walk_at "o",by walk_at "o"⟩,?_⟩;refine w_loop (fun n ρ M'=>Gr M M'/\(∃ ws:List Say,M'[M.length]?=some (.lst (ws.map sayD))/\(∀ s∈ws,s.Ok vs ns ot base)/\ws.length=n/\(ws.map (·.n)).Nodup/\∀ s∈ws,s.n<=3 * (n:Int))/\∃ x6 x7 x8 x9 x10,ρ=[some (.fl (sc.map .int)),some (.int i),some (.int m),some (.int base),some d,some (.ob M.length),x6,x7,x8,x9,x10])
  ⟨Gr.app _ _,⟨[],get_new _ _,by simp,rfl,by simp,by simp⟩,none,none,none,none,none,rfl⟩ (fun _ _ _ _=>trivial) ?_ ?_
 ·rintro n e ρ M1 hd ⟨g,⟨ws,hws,hok,hlen,hnd,hle⟩,x6,x7,x8,x9,x10,rfl⟩
  obtain⟨rfl,hn⟩:=rng_get hd;have hnm:n < m:=by walk_at "o"
  walk_at "wq";refine⟨.inl ⟨by walk_at "o",by walk_at "o"⟩,pick_w (k:=k + 1) sc _ _ M1 (by walk_at "o") (by walk_at "o") (by walk_at "o") ?_⟩;generalize hat:i + 11 * (0 + (n:Int))=at_;have hat0:0<=at_:=by walk_at "o"
  have hat1:at_<=60000:=by walk_at "o"
  obtain⟨c,hc,hc6⟩:=pick_nat sc (at_ + 6) (m:=6) (by walk_at "o");rw[show ((6:Nat):Int)=6 from rfl]at hc;rw[hc];walk_at "wq";refine pick_w (k:=k + 1) sc _ _ M1 (by walk_at "o") (by walk_at "o") (by walk_at "o") ?_;obtain⟨g1,hg1,hg6⟩:=pick_nat sc (at_ + 8) (m:=6) (by walk_at "o");rw[show ((6:Nat):Int)=6 from rfl]at hg1;rw[hg1];walk_at "wq";generalize hcame:max 0 (base + 2 - (c:Int))=came;have came0:0<=came:=by walk_at "o"
  have came1:came<=base + 2:=by walk_at "o"
  refine⟨by walk_at "o",pick_w (k:=k + 1) sc _ _ _ (by walk_at "o") (by walk_at "o") (by walk_at "o") ?_⟩;obtain⟨g3,hg3,hg33⟩:=pick_nat sc (at_ + 7) (m:=3) (by walk_at "o");rw[show ((3:Nat):Int)=3 from rfl]at hg3;rw[hg3];walk_at "wq";refine⟨⟨by walk_at "o",by walk_at "o"⟩,_,get_new _ _,?_⟩;have ed:(g3:Int) / 2=((g3 / 2:Nat):Int):=by walk_at "o"
  rw[ed];walk_at "wq";obtain⟨gd,⟨gone,rfl,hgone⟩,hgd⟩:=two (g3 / 2) (by walk_at "o") .non (.int (came + (g1:Int))) (fun r=>∃ gone:Option Int,r=optD gone/\∀ g,gone=some g->came<=g/\g<=base + 10) ⟨none,rfl,fun g h=>by cases h⟩ ⟨some (came + g1),rfl,fun g h=>by cases h;omega⟩;refine⟨_,hgd,?_⟩;walk_at "wq";generalize hM2:M1++[MO.lst [D.non,D.int (came + (g1:Int))]]=M2;have g2:Gr M1 M2:=hM2 ▸ Gr.app _ _;clear hM2;refine pick_w (k:=k + 1) sc _ _ _ (by walk_at "o") (by walk_at "o") (by walk_at "o") ?_;walk_at "wq";refine pick_w (k:=k + 1) sc _ _ _ (by walk_at "o") (by walk_at "o") (by walk_at "o") ?_;obtain⟨w1,hw1,hw13⟩:=pick_nat sc (at_ + 9) (m:=3) (by walk_at "o");rw[show ((3:Nat):Int)=3 from rfl]at hw1;rw[hw1];obtain⟨w2,hw2,hw210⟩:=pick_nat sc (at_ + 9) (m:=10) (by walk_at "o");rw[show ((10:Nat):Int)=10 from rfl]at hw2;rw[hw2];walk_at "wq";refine⟨by walk_at "o",pick_w (k:=k + 1) sc _ _ _ (by walk_at "o") (by walk_at "o") (by walk_at "o") ?_⟩;obtain⟨w3,hw3,hw32⟩:=pick_nat sc (at_ + 10) (m:=2) (by walk_at "o");rw[show ((2:Nat):Int)=2 from rfl]at hw3;rw[hw3];walk_at "wq";refine⟨_,get_new _ _,?_⟩;walk_at "wq";obtain⟨wd,⟨wt,rfl,wt0,wt9⟩,hwd⟩:=two w3 hw32 (.int (w1:Int)) (.int (w2:Int)) (fun r=>∃ wt:Int,r=.int wt/\0<=wt/\wt<=9) ⟨_,rfl,by walk_at "o",by walk_at "o"⟩ ⟨_,rfl,by walk_at "o",by walk_at "o"⟩;refine⟨_,hwd,?_⟩;walk_at "wq";generalize hM3:M2++[MO.lst [D.int (w1:Int),D.int (w2:Int)]]=M3;have g4:Gr M2 M3:=hM3 ▸ Gr.app _ _;clear hM3;have g5:Gr M1 M3:=g2.trans g4;refine⟨_,g5.keep _ _ hws,.inl ⟨by walk_at "o",by walk_at "o"⟩,pick_w (k:=k + 1) sc _ _ _ (by walk_at "o") (by walk_at "o") (by walk_at "o") ?_⟩;rw[hw1];walk_at "wq";refine marks_w hsrt k sc _ M3 (P.keep (g.trans g5)) (by walk_at "o") (by walk_at "o") fun ps M4 hps g6=>?_;walk_at "wq";refine⟨by walk_at "o",_,g6.keep _ _ (g5.keep _ _ hws),by rw[List.length_map];omega,((g.trans g5).trans g6).set (Nat.le_refl _) _,?_,_,_,_,_,_,rfl⟩;refine⟨ws++[⟨3 * (0 + (n:Int)) + 1 + (w1:Int),ps,wt,came,gone⟩],?_,fun s hs=>?_,by rw[List.length_append,hlen];rfl,?_,fun s hs=>?_⟩
  ·rw[set_get (g6.keep _ _ (g5.keep _ _ hws)),List.map_append];rfl
  ·rcases List.mem_append.mp hs with h | h
   ·exact hok s h
   ·rw[List.mem_singleton.mp h]
    exact⟨by show 1<=3 * (0 + (n:Int)) + 1 + (w1:Int);omega,by show 3 * (0 + (n:Int)) + 1 + (w1:Int)<=100000;omega,hps,wt0,wt9,came0,came1,hgone⟩
  ·rw[List.map_append,List.nodup_append]
   refine⟨hnd,by simp,fun a ha b hb=>?_⟩;obtain⟨s,hs,rfl⟩:=List.mem_map.mp ha;simp at hb
   have:=hle s hs
   omega
  ·rcases List.mem_append.mp hs with h | h
   ·have:=hle s h;omega
   ·rw[List.mem_singleton.mp h]
    show 3 * (0 + (n:Int)) + 1 + (w1:Int)<=_;omega
 ·rintro ρ M1 ⟨g,⟨ws,hws,hok,hlen,hnd,hle⟩,x6,x7,x8,x9,x10,rfl⟩
  rw[rng_len]at hlen;walk_at "wq";refine⟨.inl ⟨by walk_at "o",by walk_at "o"⟩,mixedUp_w (k:=k) sc _ M1 _ _ (by walk_at "o") (by walk_at "o") (by rw[List.length_map];omega) hws fun es j M2 hp g2 _ hj=>?_⟩;obtain⟨vs',rfl,hv⟩:=map_of_perm hp;walk_at "wq";exact q vs' j M2 (fun s hs=>hok s (hv.mem_iff.mp hs)) (by rw[hv.length_eq];omega) ((hv.map _).nodup_iff.mpr hnd) (g.trans g2) hj
end
end Law
namespace Law
open PySem L3
section
variable {srt:List D->Option (List D)}
structure Qt where
 n:Int
 xs:List Ask
 fst:Int
 lst:Int
noncomputable def qtD (s:Qt):D:=.tup [.int s.n,.tup (s.xs.map askD),.int s.fst,.int s.lst]
structure Qt.Ok (s:Qt) (as vs:List Str) (base:Int):Prop where
 n1:1<=s.n
 n2:s.n<=100000
 ok:∀ a∈s.xs,a.Ok as vs
 len:s.xs.length<=2
 f0:0<=s.fst
 f1:s.fst<=base + 2
 l0:0<=s.lst
 l1:s.lst<=base + 10
theorem quietings_w (k:Nat)(sc:List Int)(i:Int)(m:Nat)(base:Int)(M:MH){d:D}{as vs ns:List Str}{ot:Str}(P:Pool M d as vs ns ot){Q:D->MH->Prop}(h0:0<=i)(h1:i<=50000)(hm:m<=100)(hb:0<=base)
  (q:∀ (ws:List Qt) (j:Nat) (M':MH),(∀ s∈ws,s.Ok as vs base)->ws.length=m->(ws.map (·.n)).Nodup->Gr M M'->M'[j]?=some (.lst (ws.map qtD))->Q (.ob j) M') :
  W ((cx srt (k + 5)).fn "_law_quietings" [.fl (sc.map .int),.int i,.int m,.int base,d]) M Q:=by
 have big:=line_big;rw[f__law_quietings,wf,b__law_quietings];walk_at "wq";refine⟨by walk_at "o",⟨by walk_at "o",by walk_at "o"⟩,?_⟩;refine w_loop (fun n ρ M'=>Gr M M'/\(∃ ws:List Qt,M'[M.length]?=some (.lst (ws.map qtD))/\(∀ s∈ws,s.Ok as vs base)/\ws.length=n/\(ws.map (·.n)).Nodup/\∀ s∈ws,s.n<=2 * (n:Int))/\∃ x6 x7 x8 x9 x10,ρ=[some (.fl (sc.map .int)),some (.int i),some (.int m),some (.int base),some d,some (.ob M.length),x6,x7,x8,x9,x10])
  ⟨Gr.app _ _,⟨[],get_new _ _,by simp,rfl,by simp,by simp⟩,none,none,none,none,none,rfl⟩ (fun _ _ _ _=>trivial) ?_ ?_
 ·rintro n e ρ M1 hd ⟨g,⟨ws,hws,hok,hlen,hnd,hle⟩,x6,x7,x8,x9,x10,rfl⟩
  obtain⟨rfl,hn⟩:=rng_get hd;have hnm:n < m:=by walk_at "o"
  walk_at "wq";refine⟨.inl ⟨by walk_at "o",by walk_at "o"⟩,pick_w (k:=k + 2) sc _ _ M1 (by walk_at "o") (by walk_at "o") (by walk_at "o") ?_⟩;generalize hat:i + 12 * (0 + (n:Int))=at_;have hat0:0<=at_:=by walk_at "o"
  have hat1:at_<=60000:=by walk_at "o"
  obtain⟨c,hc,hc6⟩:=pick_nat sc (at_ + 8) (m:=6) (by walk_at "o");rw[show ((6:Nat):Int)=6 from rfl]at hc;rw[hc];walk_at "wq";generalize hcame:max 0 (base + 2 - (c:Int))=fst;have came0:0<=fst:=by walk_at "o"
  have came1:fst<=base + 2:=by walk_at "o"
  refine pick_w (k:=k + 2) sc _ _ M1 (by walk_at "o") (by walk_at "o") (by walk_at "o") ?_;obtain⟨g1,hg1,hg6⟩:=pick_nat sc (at_ + 9) (m:=8) (by walk_at "o");rw[show ((8:Nat):Int)=8 from rfl]at hg1;rw[hg1];walk_at "wq";generalize hlst:max 0 (fst - 1 + (g1:Int))=lst;have lst0:0<=lst:=by walk_at "o"
  have lst1:lst<=base + 10:=by walk_at "o"
  refine pick_w (k:=k + 2) sc _ _ M1 (by walk_at "o") (by walk_at "o") (by walk_at "o") ?_;obtain⟨a,ha,ha3⟩:=pick_nat sc (at_ + 10) (m:=3) (by walk_at "o");rw[show ((3:Nat):Int)=3 from rfl]at ha;rw[ha];walk_at "wq";refine askings_w (k:=k) sc _ a M1 (P.keep g) (by walk_at "o") (by walk_at "o") (by walk_at "o") fun xs M2 hxs hxl g2=>?_;walk_at "wq";refine⟨_,g2.keep _ _ hws,.inl ⟨by walk_at "o",by walk_at "o"⟩,pick_w (k:=k + 2) sc _ _ _ (by walk_at "o") (by walk_at "o") (by walk_at "o") ?_⟩;obtain⟨w1,hw1,hw12⟩:=pick_nat sc (at_ + 11) (m:=2) (by walk_at "o");rw[show ((2:Nat):Int)=2 from rfl]at hw1;rw[hw1];walk_at "wq";refine⟨by walk_at "o",_,g2.keep _ _ hws,by rw[List.length_map];omega,(g.trans g2).set (Nat.le_refl _) _,?_,_,_,_,_,_,rfl⟩;refine⟨ws++[⟨2 * (0 + (n:Int)) + 1 + (w1:Int),xs,fst,lst⟩],?_,fun s hs=>?_,by rw[List.length_append,hlen];rfl,?_,fun s hs=>?_⟩
  ·rw[set_get (g2.keep _ _ hws),List.map_append];rfl
  ·rcases List.mem_append.mp hs with h | h
   ·exact hok s h
   ·rw[List.mem_singleton.mp h]
    exact⟨by show 1<=2 * (0 + (n:Int)) + 1 + (w1:Int);omega,by show 2 * (0 + (n:Int)) + 1 + (w1:Int)<=100000;omega,hxs,by show xs.length<=2;omega,came0,came1,lst0,lst1⟩
  ·rw[List.map_append,List.nodup_append]
   refine⟨hnd,by simp,fun a ha b hb=>?_⟩;obtain⟨s,hs,rfl⟩:=List.mem_map.mp ha;simp at hb
   have:=hle s hs
   omega
  ·rcases List.mem_append.mp hs with h | h
   ·have:=hle s h;omega
   ·rw[List.mem_singleton.mp h]
    show 2 * (0 + (n:Int)) + 1 + (w1:Int)<=_;omega
 ·rintro ρ M1 ⟨g,⟨ws,hws,hok,hlen,hnd,hle⟩,x6,x7,x8,x9,x10,rfl⟩
  rw[rng_len]at hlen;walk_at "wq";refine⟨.inl ⟨by walk_at "o",by walk_at "o"⟩,mixedUp_w (k:=k + 1) sc _ M1 _ _ (by walk_at "o") (by walk_at "o") (by rw[List.length_map];omega) hws fun es j M2 hp g2 _ hj=>?_⟩;obtain⟨vs',rfl,hv⟩:=map_of_perm hp;walk_at "wq";exact q vs' j M2 (fun s hs=>hok s (hv.mem_iff.mp hs)) (by rw[hv.length_eq];omega) ((hv.map _).nodup_iff.mpr hnd) (g.trans g2) hj
noncomputable def standsB (s:Say)(t:Int):Bool:=decide (s.came<=t)&&(match s.gone with
 | none=>true
 | some g=>decide (t < g))
noncomputable def forceB (s:Qt)(t:Int):Bool:=decide (s.fst<=t)&&decide (t < s.lst)
theorem stands_w (k:Nat)(M:MH)(s:Say)(t:Int){Q:D->MH->Prop}(q:Q (.bl (standsB s t)) M):W ((cx srt (k + 1)).fn "stands" [sayD s,.int t]) M Q:=by
 rw[f_stands,wf,b_stands];unfold sayD;walk_at "wq";unfold standsB at q;refine⟨fun h=>?_,fun h=>?_⟩
 ·rw[h]at q
  cases hg:s.gone with
  | none=>rw[hg]at q;exact⟨rfl,fun _=>q,fun h=>by cases h⟩
  | some g =>
   rw[hg]at q;refine⟨rfl,fun h=>(by cases h),fun _=>?_⟩;unfold optD;walk_at "wq";exact q
 ·rw[h]at q;exact q
theorem inForce_w (k:Nat)(M:MH)(s:Qt)(t:Int){Q:D->MH->Prop}(q:Q (.bl (forceB s t)) M):W ((cx srt (k + 1)).fn "in_force" [qtD s,.int t]) M Q:=by
 rw[f_in_force,wf,b_in_force];unfold qtD;walk_at "wq";unfold forceB at q;refine⟨fun h=>?_,fun h=>?_⟩
 ·rw[h]at q;exact q
 ·rw[h]at q;exact q
end
end Law
namespace Law
open PySem L3
section
variable {srt:List D->Option (List D)}
noncomputable def valV (ps:List (Str×Str))(n:Str):Str:=(look ps n).getD ""
noncomputable def hasN (ps:List (Str×Str))(n:Str):Bool:=ps.any fun p=>p.1==n
noncomputable def meetB (a:Ask)(ps:List (Str×Str)):Bool:=if a.w = "is" then a.vs.contains (valV ps a.n) else if a.w = "no" then !a.vs.contains (valV ps a.n) else if a.w = "there" then hasN ps a.n else !hasN ps a.n
noncomputable def meetA (xs:List Ask)(ps:List (Str×Str)):Bool:=xs.all fun a=>meetB a ps
theorem hasName_w (k:Nat)(M:MH)(ps:List (Str×Str))(n:Str)(hl:ps.length<=1000){Q:D->MH->Prop}(q:∀ M',Gr M M'->Q (.bl (hasN ps n)) M'):W ((cx srt (k + 1)).fn "has_name" [.tup (ps.map prD),.str n]) M Q:=by
 have big:=line_big;rw[f_has_name,wf,b_has_name];walk_at "wq";refine⟨by rw[List.length_map];omega,?_⟩;refine w_compI (fun j ys M'=>M'=M/\ys=((ps.take j).map fun p=>p.1==n).map D.bl) ⟨rfl,rfl⟩ (fun _ _ _ _=>trivial) ?_ ?_
 ·rintro j d ys M' hd ⟨rfl,rfl⟩
  rw[List.getElem?_map]at hd;obtain⟨p,hp,rfl⟩:=Option.map_eq_some_iff.mp hd;unfold prD;walk_at "wq";rw[List.take_add_one,hp];simp
 ·rintro ys M' ⟨rfl,rfl⟩
  rw[List.length_map,List.take_length];walk_at "wq";refine⟨_,get_new _ _,_,mapM_bools _,?_⟩;rw[List.any_map];exact q _ (Gr.app _ _)
theorem look_none {ps:List (Str×Str)}{n:Str}(h:∀ p∈ps,p.1≠n):look ps n=none:=by
 unfold look;rw[List.find?_eq_none.mpr (fun p hp=>by simpa using h p hp)];rfl
theorem valueIn_w (k:Nat)(M:MH)(ps:List (Str×Str))(n:Str){Q:D->MH->Prop}(q:Q (.str (valV ps n)) M):W ((cx srt (k + 1)).fn "value_in" [.tup (ps.map prD),.str n]) M Q:=by
 rw[f_value_in,wf,b_value_in];walk_at "wq";refine w_loop (fun j ρ M'=>M'=M/\(∀ p∈ps.take j,p.1≠n)/\∃ x,ρ=[some (.tup (ps.map prD)),some (.str n),x]) ⟨rfl,by simp,none,rfl⟩ (fun _ _ _ _=>trivial) ?_ ?_
 ·rintro j d ρ M' hd ⟨rfl,hne,x,rfl⟩
  rw[List.getElem?_map]at hd;obtain⟨p,hp,rfl⟩:=Option.map_eq_some_iff.mp hd;obtain⟨hlt,hg⟩:=List.getElem?_eq_some_iff.mp hp;unfold prD;walk_at "wq";refine⟨fun h=>?_,fun h=>⟨fun y hy=>?_,_,rfl⟩⟩
  ·have e:look ps n=some p.2:=by
    unfold look
    have:ps.find? (fun p=>decide (p.1=n))=some p:=by
     rw[List.find?_eq_some_iff_getElem];refine⟨by simpa using h,j,hlt,hg,fun i hi=>?_⟩;simpa using hne ps[i] (List.mem_take_iff_getElem.mpr ⟨i,by walk_at "o",rfl⟩)
    rw[this];rfl
   unfold valV at q;rw[e]at q;exact q
  ·rw[List.take_add_one,hp]at hy
   rcases List.mem_append.mp hy with hy | hy
   ·exact hne y hy
   ·simp at hy
    subst hy;simpa using h
 ·rintro ρ M' ⟨rfl,hne,x,rfl⟩
  rw[List.length_map,List.take_length]at hne;walk_at "wq";unfold valV at q;rw[look_none hne]at q;exact q
theorem any_str {vs:List Str}{x:Str}:((vs.map D.str).any fun d=>eqF d (.str x))=vs.contains x:=by
 rw[List.any_map,List.contains_eq_any_beq];congr 1;funext y;show (y==x)=(x==y);exact Bool.beq_comm
theorem in_strs {M:MH}{vs:List Str}{x:Str}:inL M (.str x) (vs.map D.str)=some (vs.contains x):=by
 rw[inL_flat rfl (by rw[List.all_map,List.all_eq_true];exact fun _ _=>rfl),any_str]
theorem meets_w (k:Nat)(M:MH)(a:Ask)(ps:List (Str×Str))(hl:ps.length<=1000){Q:D->MH->Prop}(q:∀ M',Gr M M'->Q (.bl (meetB a ps)) M'):W ((cx srt (k + 2)).fn "meets" [askD a,.tup (ps.map prD)]) M Q:=by
 rw[f_meets,wf,b_meets];unfold askD;unfold meetB at q;walk_at "wq";refine⟨fun h1=>?_,fun h1=>⟨fun h2=>?_,fun h2=>⟨fun h3=>?_,fun h3=>?_⟩⟩⟩
 ·rw[if_pos (by simpa using h1)]at q
  walk_at "wq";refine valueIn_w k M ps a.n ?_;walk_at "wq";rw[in_strs];exact⟨_,rfl,q _ Gr.refl⟩
 ·rw[if_neg (by simpa using h1),if_pos (by simpa using h2)]at q
  walk_at "wq";refine valueIn_w k M ps a.n ?_;walk_at "wq";rw[in_strs];exact⟨_,rfl,q _ Gr.refl⟩
 ·rw[if_neg (by simpa using h1),if_neg (by simpa using h2),if_pos (by simpa using h3)]at q
  walk_at "wq";refine hasName_w k M ps a.n hl fun M' g=>?_;walk_at "wq";exact q _ g
 ·rw[if_neg (by simpa using h1),if_neg (by simpa using h2),if_neg (by simpa using h3)]at q
  walk_at "wq";refine hasName_w k M ps a.n hl fun M' g=>?_;walk_at "wq";exact q _ g
theorem meetsAll_w (k:Nat)(M:MH)(xs:List Ask)(ps:List (Str×Str))(hx:xs.length<=1000)(hl:ps.length<=1000){Q:D->MH->Prop}(q:∀ M',Gr M M'->Q (.bl (meetA xs ps)) M'):W ((cx srt (k + 3)).fn "meets_all" [.tup (xs.map askD),.tup (ps.map prD)]) M Q:=by
 have big:=line_big;rw[f_meets_all,wf,b_meets_all];walk_at "wq";refine⟨by rw[List.length_map];omega,?_⟩;refine w_compI (fun j ys M'=>Gr M M'/\ys=((xs.take j).map fun a=>meetB a ps).map D.bl) ⟨Gr.refl,rfl⟩ (fun _ _ _ _=>trivial) ?_ ?_
 ·rintro j d ys M' hd ⟨g,rfl⟩
  rw[List.getElem?_map]at hd;obtain⟨a,ha,rfl⟩:=Option.map_eq_some_iff.mp hd;walk_at "wq";refine meets_w k M' a ps hl fun M2 g2=>?_;rw[List.take_add_one,ha];exact⟨g.trans g2,by simp⟩
 ·rintro ys M' ⟨g,rfl⟩
  rw[List.length_map,List.take_length];walk_at "wq";refine⟨_,get_new _ _,_,mapM_bools _,?_⟩;rw[List.all_map];exact q _ (g.snoc _)
end
end Law
namespace Law
open PySem L3
section
variable {srt:List D->Option (List D)}
inductive Tr where
 | mk (xs:List Ask) (on:Bool) (b:List Str) (p r:Int) (rows:List Tr)
mutual
noncomputable def trD:Tr->D
 | .mk xs on b p r rows=>.tup [.tup (xs.map askD),.bl on,.tup (b.map .str),.int p,.int r,.tup [],.tup (trDs rows)]
noncomputable def trDs:List Tr->List D
 | []=>[]
 | t::ts=>trD t::trDs ts
end
theorem trDs_eq:∀ ts:List Tr,trDs ts=ts.map trD
 | []=>rfl
 | t::ts=>by rw[trDs,trDs_eq ts];rfl
noncomputable def asksT:Tr->List Ask
 | .mk xs _ _ _ _ _=>xs
noncomputable def onT:Tr->Bool
 | .mk _ on _ _ _ _=>on
noncomputable def byT:Tr->List Str
 | .mk _ _ b _ _ _=>b
noncomputable def rowsT:Tr->List Tr
 | .mk _ _ _ _ _ rows=>rows
noncomputable def Fit:Nat->Tr->Prop
 | 0,_=>False
 | n + 1,t=>((asksT t).length<=3/\(byT t).length<=3)/\(rowsT t).length<=5/\∀ s∈rowsT t,Fit n s
noncomputable def goL (rec:Tr->List Int->List (List Int))(m:Tr->Bool)(p:List Int):Nat->List Tr->List (List Int)
 | _,[]=>[]
 | k,t::ts=>if m t=true then rec t (p++[(k:Int)])++(if onT t=true then goL rec m p (k + 1) ts else []) else goL rec m p (k + 1) ts
noncomputable def takenV (m:Tr->Bool):Nat->Tr->List Int->List (List Int)
 | 0,_,_=>[]
 | n + 1,t,p=>if (goL (takenV m n) m p 0 (rowsT t)).isEmpty=true then [p] else goL (takenV m n) m p 0 (rowsT t)
noncomputable def plD (p:List Int):D:=.tup (p.map .int)
theorem fit_rows {n:Nat}{t:Tr}(h:Fit (n + 1) t):(byT t).length<=3/\(asksT t).length<=4/\(rowsT t).length<=5/\∀ s∈rowsT t,Fit n s :=
 ⟨h.1.2,Nat.le_succ_of_le h.1.1,h.2.1,h.2.2⟩
theorem trD_by (t:Tr):∃ c p r,trD t=.tup [.tup ((asksT t).map askD),.bl (onT t),.tup ((byT t).map .str),p,r,c,.tup ((rowsT t).map trD)]:=by
 cases t with
 | mk xs on b p r rows=>exact⟨_,_,_,by rw[trD,trDs_eq];rfl⟩
theorem trD_eq (t:Tr):∃ b c p r,trD t=.tup [.tup ((asksT t).map askD),.bl (onT t),b,p,r,c,.tup ((rowsT t).map trD)]:=by
 cases t with
 | mk xs on b p r rows=>exact⟨_,_,_,_,by rw[trD,trDs_eq];rfl⟩
theorem goL_len {rec:Tr->List Int->List (List Int)}{m:Tr->Bool}{p:List Int}{B:Nat}:∀ (ts:List Tr) (k:Nat),(∀ t∈ts,∀ p',(rec t p').length<=B)->(goL rec m p k ts).length<=ts.length * B
 | [],_,_=>Nat.zero_le _
 | t::ts,k,h=>by
  have h1:=h t List.mem_cons_self (p++[(k:Int)]);have h2:=goL_len (rec:=rec) (m:=m) (p:=p) ts (k + 1) fun s hs=>h s (List.mem_cons_of_mem _ hs);rw[goL,List.length_cons,Nat.succ_mul];split
  ·rw[List.length_append]
   split
   ·omega
   ·simp only[List.length_nil];omega
  ·omega
theorem takenV_len {m:Tr->Bool}:∀ (n:Nat) (t:Tr) (p:List Int),Fit n t->(takenV m n t p).length<=5 ^ n
 | 0,_,_,h=>h.elim
 | n + 1,t,p,h=>by
  obtain⟨_,_,h3,h4⟩:=fit_rows h;have h1:=goL_len (rec:=takenV m n) (m:=m) (p:=p) (rowsT t) 0 fun s hs p'=>takenV_len n s p' (h4 s hs);have h2:=Nat.mul_le_mul_right (5 ^ n) h3;have h0:1<=5 ^ n:=Nat.one_le_pow _ _ (by decide);rw[takenV,Nat.pow_succ];split
  ·show 1<=_;omega
  ·omega
noncomputable def szT:Nat->Tr->Nat
 | 0,_=>0
 | n + 1,t=>1 + ((rowsT t).map (szT n)).sum
theorem goL_sz {rec:Tr->List Int->List (List Int)}{m:Tr->Bool}{p:List Int}{B:Tr->Nat}:∀ (ts:List Tr) (k:Nat),(∀ t p',(rec t p').length<=B t)->(goL rec m p k ts).length<=(ts.map B).sum
 | [],_,_=>Nat.zero_le _
 | t::ts,k,h=>by
  have h1:=h t (p++[(k:Int)]);have h2:=goL_sz (m:=m) (p:=p) ts (k + 1) h;rw[goL,List.map_cons,List.sum_cons];split
  ·rw[List.length_append]
   split
   ·omega
   ·simp only[List.length_nil];omega
  ·omega
theorem takenV_sz {m:Tr->Bool}:∀ (n:Nat) (t:Tr) (p:List Int),(takenV m n t p).length<=szT n t
 | 0,_,_=>Nat.zero_le _
 | n + 1,t,p=>by
  have h1:=goL_sz (rec:=takenV m n) (m:=m) (p:=p) (rowsT t) 0 fun s p'=>takenV_sz n s p';rw[takenV,szT];split
  ·show 1<=_;omega
  ·omega
noncomputable def mQ (qs:List (Str×Str))(t:Tr):Bool:=meetA (asksT t) qs
theorem takenFrom_w (qs:List (Str×Str))(lq:qs.length<=1000):∀ (n k:Nat) (M:MH) (t:Tr) (p:List Int),Fit n t->n<=5->p.length + n<=100->∀ {Q:D->MH->Prop} (_:∀ (j:Nat) (M':MH),Gr M M'->M.length<=j->M'[j]?=some (.lst ((takenV (mQ qs) n t p).map plD))->Q (.ob j) M'),
  W ((cx srt (k + n + 4)).fn "taken_from" [trD t,plD p,.tup (qs.map prD)]) M Q
 | 0,_,_,_,_,h,_,_,_,_=>h.elim
 | n + 1,k,M,t,p,fit,hn5,hpn,Q,q=>by
  have big:=line_big;obtain⟨hok,hxl,hrl,hfit⟩:=fit_rows fit;obtain⟨eb,ec,ep,er,et⟩:=trD_eq t;have B5:∀ s∈rowsT t,∀ p',(takenV (mQ qs) n s p').length<=625:=fun s hs p'=>Nat.le_trans (takenV_len n s p' (hfit s hs)) (Nat.le_trans (Nat.pow_le_pow_right (by decide) (show n<=4 by omega)) (by decide));have fin:∀ (M':MH) (acc:List (List Int)) (x4 x5:Option D),Gr M M'->M'[M.length]?=some (.lst (acc.map plD))->goL (takenV (mQ qs) n) (mQ qs) p 0 (rowsT t)=acc ->
    W (semSs (cx srt (k + n + 4)) (dropS 2 b_taken_from) [some (trD t),some (plD p),some (.tup (qs.map prD)),some (.ob M.length),x4,x5]) M' (endF Q):=fun M' acc x4 x5 g h e=>by
   simp only[b_taken_from,drop_s,drop_0];walk_at "wq";refine⟨_,h,?_⟩;walk_at "wq";have et:takenV (mQ qs) (n + 1) t p=if acc.isEmpty=true then [p] else acc:=by rw[takenV,e]
   refine⟨fun z=>?_,fun z=>?_⟩
   ·have hne:acc.isEmpty=false:=by
     cases acc with
     | nil=>cases z
     | cons _ _=>rfl
    rw[hne]at et;exact q _ _ g (Nat.le_refl _) (by rw[et];exact h)
   ·have hne:acc.isEmpty=true:=by
     cases acc with
     | nil=>rfl
     | cons _ _=>cases z
    rw[hne]at et;refine⟨by walk_at "o",q _ _ (g.snoc _) g.len ?_⟩;rw[et];exact get_new _ _
  simp only[b_taken_from,drop_s,drop_0]at fin;rw[show k + (n + 1) + 4=k + n + 4 + 1 by omega,f_taken_from,wf,b_taken_from];walk_at "wq";refine⟨by walk_at "o",?_⟩;rw[et];walk_at "wq";rw[<- et];refine w_loopP (fun m ρ M'=>Gr M M'/\(∃ acc:List (List Int),M'[M.length]?=some (.lst (acc.map plD))/\goL (takenV (mQ qs) n) (mQ qs) p 0 (rowsT t)=acc++goL (takenV (mQ qs) n) (mQ qs) p m ((rowsT t).drop m)/\acc.length<=m * 625) /\
   ∃ x4 x5,ρ=[some (trD t),some (plD p),some (.tup (qs.map prD)),some (.ob M.length),x4,x5]) ⟨Gr.app _ _,⟨[],get_new _ _,rfl,Nat.zero_le _⟩,_,_,rfl⟩ (fun _ _ _ _=>trivial) ?_ ?_
  ·rintro m d ρ M1 hd ⟨g1,⟨acc,h1,e1,l1⟩,x4,x5,rfl⟩
   obtain⟨x,hx,rfl⟩:=enumG hd;rw[List.getElem?_map]at hx;obtain⟨s,hs,rfl⟩:=Option.map_eq_some_iff.mp hx;obtain⟨hlt,hsg⟩:=List.getElem?_eq_some_iff.mp hs;have hsm:=List.mem_of_getElem? hs;rw[List.drop_eq_getElem_cons hlt,hsg]at e1;obtain⟨fb,fc,fp,fr,fs⟩:=trD_eq s;refine⟨_,_,rfl,?_⟩;walk_at "wq";rw[fs];walk_at "wq";rw[<- fs];refine meetsAll_w (k + n + 1) M1 (asksT s) qs (by have:=(fit_rows (n:=n - 1) (t:=s) (by have:=hfit s hsm;cases n with | zero=>exact this.elim | succ n=>exact this)).2.1;omega) lq fun M2 g2=>?_;have g2':=g1.trans g2;have h2:=g2.keep _ _ h1;walk_at "wq";refine⟨fun hm=>?_,fun hm=>⟨g2',⟨acc,h2,?_,Nat.le_trans l1 (Nat.mul_le_mul_right _ (Nat.le_succ m))⟩,_,_,rfl⟩⟩
   ·have em:mQ qs s=true:=hm
    rw[goL,if_pos em]at e1;have epl:D.tup (p.map D.int++[D.int m])=plD (p++[(m:Int)]):=by unfold plD;rw[List.map_append];rfl
    walk_at "wq";refine⟨_,h2,by walk_at "o",?_⟩;have ep:plD p=.tup (p.map .int):=rfl;rw[ep];walk_at "wq";refine⟨by rw[List.length_map];show _ + 1<=_;omega,?_⟩;rw[epl];refine takenFrom_w qs lq n k M2 s (p++[(m:Int)]) (hfit s hsm) (by omega) (by rw[List.length_append];show _ + 1 + _<=_;omega) fun j M3 g3 hj h3=>?_;have g3':=g2'.trans g3;have h3a:=g3.keep _ _ h2;have l3:=B5 s hsm (p++[(m:Int)]);have hjl:M.length < M2.length:=(List.getElem?_eq_some_iff.mp h2).1;walk_at "wq";refine⟨_,h3,_,h3a,⟨by rw[List.length_map,List.length_map];exact Nat.le_trans (Nat.add_le_add (Nat.le_trans l1 (Nat.mul_le_mul_right _ (show m<=5 by omega))) l3) (Nat.le_trans (by decide) big),?_⟩,?_⟩
    ·show (j==M.length)=false
     simp;omega
    generalize hT:takenV (mQ qs) n s (p++[(m:Int)])=T at e1 l3 ⊢;have h4:(M3.set M.length (MO.lst (acc.map plD++T.map plD)))[M.length]?=some (.lst ((acc++T).map plD)):=by rw[List.getElem?_set_self (by have:=g3.len;omega),List.map_append]
    have g4:Gr M (M3.set M.length (MO.lst (acc.map plD++T.map plD))):=g3'.set (Nat.le_refl _) _;generalize M3.set M.length (MO.lst (acc.map plD++T.map plD))=M4 at h4 g4 ⊢;rw[fs];walk_at "wq";rw[<- fs];refine⟨fun ho=>?_,fun ho=>?_⟩
    ·have ho:onT s=false:=by simpa using ho
     rw[ho,if_neg Bool.false_ne_true,List.append_nil]at e1;have t:=fin M4 (acc++T) (some (.int m)) (some (trD s)) g4 h4 e1;revert t;walk_at "wq";exact id
    ·have ho:onT s=true:=by simpa using ho
     rw[ho,if_pos rfl,<- List.append_assoc]at e1;refine⟨g4,⟨acc++T,h4,e1,by rw[List.length_append,Nat.succ_mul];exact Nat.add_le_add l1 l3⟩,_,_,rfl⟩
   ·have em:mQ qs s=false:=hm
    rw[e1,goL,if_neg (by rw[em];exact Bool.false_ne_true)]
  ·rintro ρ M1 ⟨g1,⟨acc,h1,e1,l1⟩,x4,x5,rfl⟩
   rw[enumN,List.length_map,List.drop_length]at e1;have t:=fin M1 acc x4 x5 g1 h1 (by rw[e1];exact List.append_nil _);revert t;walk_at "wq";exact id
noncomputable def keyV (f:Str->Str)(t:Tr):D:=.tup ((byT t).map fun x=>.str (f x))
theorem keyOf_w (k:Nat)(M:MH)(t:Tr)(qs:List (Str×Str))(hb:(byT t).length<=4){Q:D->MH->Prop}(q:∀ M',Gr M M'->Q (keyV (valV qs) t) M'):W ((cx srt (k + 2)).fn "key_of" [trD t,.tup (qs.map prD)]) M Q:=by
 have big:=line_big;obtain⟨c,p,r,et⟩:=trD_by t;rw[f_key_of,wf,b_key_of];rw[et];walk_at "wq";rw[<- et];refine⟨by rw[List.length_map];omega,?_⟩;refine w_compI (fun m ys M'=>M'=M/\ys=((byT t).take m).map fun x=>.str (valV qs x)) ⟨rfl,rfl⟩ (fun _ _ _ _=>trivial) ?_ ?_
 ·rintro m d ys M' hd ⟨rfl,rfl⟩
  rw[List.getElem?_map]at hd;obtain⟨x,hx,rfl⟩:=Option.map_eq_some_iff.mp hd;walk_at "wq";refine valueIn_w k M' qs x ?_;refine⟨rfl,?_⟩;rw[List.take_add_one,hx,List.map_append];rfl
 ·rintro ys M' ⟨rfl,rfl⟩
  rw[List.length_map,List.take_length];walk_at "wq";exact⟨_,get_new _ _,q _ (Gr.app _ _)⟩
noncomputable def subT:Tr->List Int->Option Tr
 | t,[]=>some t
 | t,i::p=>if i < 0 then none else match (rowsT t)[i.toNat]? with
  | some s=>subT s p
  | none=>none
theorem subT_cons {t s:Tr}{i:Int}{p:List Int}(h:subT t (i::p)=some s):∃ (n:Nat) (r:Tr),i=n/\(rowsT t)[n]?=some r/\subT r p=some s:=by
 unfold subT at h;split at h
 ·cases h
 ·rename_i hi
  split at h
  ·rename_i r hr
   exact⟨i.toNat,r,by omega,hr,h⟩
  ·cases h
theorem rowAt_w (k:Nat)(M:MH){n:Nat}(t s:Tr)(p:List Int)(h:subT t p=some s)(fit:Fit n t){Q:D->MH->Prop}(q:Q (trD s) M):W ((cx srt (k + 1)).fn "row_at" [trD t,plD p]) M Q:=by
 have big:=line_big;rw[f_row_at,wf,b_row_at,plD];walk_at "wq";refine w_loop (fun m ρ M'=>M'=M/\∃ r x3 n,subT r (p.drop m)=some s/\Fit n r/\ρ=[some (trD t),some (.tup (p.map .int)),some (trD r),x3]) ⟨rfl,t,_,n,h,fit,rfl⟩ (fun _ _ _ _=>trivial) ?_ ?_
 ·rintro m d ρ M' hd ⟨rfl,r,x3,n,hr,fr,rfl⟩
  rw[List.getElem?_map]at hd;obtain⟨i,hi,rfl⟩:=Option.map_eq_some_iff.mp hd;obtain⟨hlt,hg⟩:=List.getElem?_eq_some_iff.mp hi;rw[List.drop_eq_getElem_cons hlt,hg]at hr;obtain⟨j,r',rfl,hj,hs⟩:=subT_cons hr;cases n with
  | zero=>exact fr.elim
  | succ n =>
   obtain⟨_,_,h5,hf⟩:=fit_rows fr;have hjl:=(List.getElem?_eq_some_iff.mp hj).1;obtain⟨eb,ec,ep,er,et⟩:=trD_eq r;rw[et];walk_at "wq";refine⟨fun _=>⟨fun z=>?_,fun _=>?_⟩,fun z=>absurd (Int.natCast_nonneg j) (of_decide_eq_false z)⟩
   ·rw[List.length_map]at z
    exact absurd z (by simp;omega)
   ·refine⟨_,atD_nat (by rw[List.getElem?_map,hj];rfl),r',_,n,hs,hf r' (List.mem_of_getElem? hj),rfl⟩
 ·rintro ρ M' ⟨rfl,r,x3,n,hr,_,rfl⟩
  rw[List.length_map,List.drop_length]at hr;cases hr;walk_at "wq";exact q
theorem goL_mem {rec:Tr->List Int->List (List Int)}{m:Tr->Bool}{p:List Int}:∀ (ts:List Tr) (k:Nat) (pl:List Int),pl∈goL rec m p k ts->∃ (i:Nat) (t:Tr),ts[i]?=some t/\pl∈rec t (p++[((k + i:Nat):Int)])
 | [],_,_,h=>by cases h
 | t::ts,k,pl,h=>by
  have go:pl∈goL rec m p (k + 1) ts->∃ (i:Nat) (s:Tr),(t::ts)[i]?=some s/\pl∈rec s (p++[((k + i:Nat):Int)]):=fun h=>by
   obtain⟨i,s,h1,h2⟩:=goL_mem ts (k + 1) pl h;exact⟨i + 1,s,by simpa using h1,by rw[show k + (i + 1)=k + 1 + i by omega];exact h2⟩
  rw[goL]at h;split at h
  ·rcases List.mem_append.mp h with h | h
   ·exact⟨0,t,rfl,h⟩
   ·split at h
    ·exact go h
    ·cases h
  ·exact go h
theorem taken_sub {m:Tr->Bool}:∀ (n:Nat) (t:Tr) (p pl:List Int),Fit n t->pl∈takenV m n t p->∃ q s n',pl=p++q/\subT t q=some s/\Fit (n' + 1) s
 | 0,_,_,_,h,_=>h.elim
 | n + 1,t,p,pl,h,hp=>by
  rw[takenV]at hp;split at hp
  ·rw[List.mem_singleton.mp hp]
   exact⟨[],t,n,(List.append_nil _).symm,rfl,h⟩
  ·obtain⟨i,s,h1,h2⟩:=goL_mem _ _ _ hp
   obtain⟨q,r,n',e,h3,h4⟩:=taken_sub n s _ pl (h.2.2 s (List.mem_of_getElem? h1)) h2;refine⟨((0 + i:Nat):Int)::q,r,n',by rw[e,List.append_assoc];rfl,?_,h4⟩;unfold subT;rw[if_neg (by omega),show (((0 + i:Nat):Int)).toNat=i by omega,h1];exact h3
noncomputable abbrev Gp:=List Int×List Str
noncomputable def gkD (g:Gp):D:=.tup [plD g.1,.tup (g.2.map .str)]
noncomputable def rowOf (t:Tr)(p:List Int):Tr:=(subT t p).getD t
noncomputable def grpV (t:Tr)(ps:List (Str×Str))(p:List Int):Gp:=(p,(byT (rowOf t p)).map (valV ps))
noncomputable def groupsV (t:Tr)(ps:List (Str×Str)):List Gp:=(takenV (mQ ps) 5 t []).map (grpV t ps)
theorem groups_w (k:Nat)(M:MH)(t:Tr)(fit:Fit 5 t)(ps:List (Str×Str))(hl:ps.length<=1000){Q:D->MH->Prop}(q:∀ (j:Nat) (M':MH),Gr M M'->M.length<=j->M'[j]?=some (.lst ((groupsV t ps).map gkD))->Q (.ob j) M'):W ((cx srt (k + 11)).fn "groups_of" [trD t,.tup (ps.map prD)]) M Q:=by
 have big:=line_big;rw[f_groups_of,wf,b_groups_of];walk_at "wq";rw[f_taken,wf,b_taken];walk_at "wq";have e0:D.tup []=plD []:=rfl;rw[e0];refine⟨Nat.zero_le _,takenFrom_w ps hl 5 k M t [] fit (Nat.le_refl _) (by decide) fun j M1 g1 hj h1=>?_⟩;have hln:=takenV_len (m:=mQ ps) 5 t [] fit;walk_at "wq";refine⟨_,h1,by rw[List.length_map];exact Nat.le_trans hln (Nat.le_trans (by decide) big),?_⟩;refine w_compI (fun m ys M'=>Gr M1 M'/\ys=(((takenV (mQ ps) 5 t []).take m).map fun p=>gkD (grpV t ps p))) ⟨Gr.refl,rfl⟩ (fun _ _ _ h=>h.1.keep _ _ h1) ?_ ?_
 ·rintro m d ys M' hd ⟨g,rfl⟩
  rw[List.getElem?_map]at hd;obtain⟨p,hp,rfl⟩:=Option.map_eq_some_iff.mp hd;obtain⟨p',s,n',e,hs,fs⟩:=taken_sub 5 t [] p fit (List.mem_of_getElem? hp);have e:p=p':=e;subst e;have er:rowOf t p=s:=by unfold rowOf;rw[hs];rfl
  walk_at "wq";refine rowAt_w (k + 9) M' t s p hs fit ?_;walk_at "wq";refine keyOf_w (k + 8) M' s ps (Nat.le_succ_of_le (fit_rows fs).1) fun M2 g2=>?_;walk_at "wq";refine⟨by walk_at "o",g.trans g2,?_⟩;rw[List.take_add_one,hp,List.map_append];have ek:keyV (valV ps) s=.tup ((grpV t ps p).2.map .str):=by
   unfold keyV grpV;rw[er];show _=D.tup (((byT s).map (valV ps)).map .str);rw[List.map_map];rfl
  rw[ek];rfl
 ·rintro ys M' ⟨g,rfl⟩
  rw[List.length_map,List.take_length];walk_at "wq";refine q _ _ ((g1.trans g).snoc _) (g1.trans g).len ?_;unfold groupsV;rw[List.map_map];exact get_new _ _
end
end Law
namespace Law
open PySem L3
section
structure Nd where
 a:List Ask
 n:List Str
 d:Nat
 kids:List Nat
 b:Bool
 id:Nat
noncomputable def okN (x:Nd):Bool:=decide (x.d < 4)&&decide (x.kids.length < 5)
noncomputable def nd0:Nd:=⟨[],[],0,[],false,0⟩
noncomputable def kidU (x:Nd)(m:Nat):Nd:={ x with kids:=x.kids++[m] }
noncomputable def cntN:Nat->(Nat->List Nat)->Nat->Nat->Nat
 | 0,_,_,_=>0
 | f + 1,K,n,x=>(if n=x then 1 else 0) + ((K n).map fun c=>cntN f K c x).sum
noncomputable def sizN:Nat->(Nat->List Nat)->Nat->Nat
 | 0,_,_=>0
 | f + 1,K,n=>1 + ((K n).map (sizN f K)).sum
noncomputable def addK (K:Nat->List Nat)(u m:Nat):Nat->List Nat:=fun n=>K n++(if n=u then [m] else [])
theorem sum_le {α:Type}{f g:α->Nat}:∀ {l:List α},(∀ x∈l,f x<=g x)->(l.map f).sum<=(l.map g).sum
 | [],_=>Nat.le_refl _
 | x::l,h=>by
  have h1:=h x List.mem_cons_self;have h2:=sum_le (l:=l) fun y hy=>h y (List.mem_cons_of_mem _ hy);rw[List.map_cons,List.map_cons,List.sum_cons,List.sum_cons];omega
theorem sum_add {α:Type}{f g:α->Nat}:∀ {l:List α},(l.map fun x=>f x + g x).sum=(l.map f).sum + (l.map g).sum
 | []=>rfl
 | x::l=>by
  rw[List.map_cons,List.map_cons,List.map_cons,List.sum_cons,List.sum_cons,List.sum_cons,sum_add];omega
theorem cnt_s (f:Nat)(K:Nat->List Nat)(u m n x:Nat):cntN (f + 1) (addK K u m) n x=(if n=x then 1 else 0) + (((K n).map fun c=>cntN f (addK K u m) c x).sum + if n=u then cntN f (addK K u m) m x else 0):=by
 rw[cntN];unfold addK;rw[List.map_append,List.sum_append];split <;> split <;> simp
theorem siz_s (f:Nat)(K:Nat->List Nat)(u m n:Nat):sizN (f + 1) (addK K u m) n=1 + (((K n).map (sizN f (addK K u m))).sum + if n=u then sizN f (addK K u m) m else 0):=by
 rw[sizN];unfold addK;rw[List.map_append,List.sum_append];split <;> simp
section
variable {K:Nat->List Nat}{u m:Nat}(km:K m=[])(um:u≠m)
include km um
theorem cnt_m (f x:Nat):cntN f (addK K u m) m x<=1/\(x≠m->cntN f (addK K u m) m x=0):=by
 cases f with
 | zero=>exact⟨Nat.zero_le _,fun _=>rfl⟩
 | succ f =>
  rw[cnt_s,km,if_neg (Ne.symm um)];refine⟨by split <;> simp,fun h=>?_⟩;rw[if_neg (Ne.symm h)];rfl
theorem siz_m (f:Nat):sizN f (addK K u m) m<=1:=by
 cases f with
 | zero=>exact Nat.zero_le _
 | succ f =>
  rw[siz_s,km,if_neg (Ne.symm um)];exact Nat.le_refl _
theorem cnt_old (kl:∀ n,∀ c∈K n,c≠m):∀ (f n x:Nat),x≠m->cntN f (addK K u m) n x<=cntN f K n x
 | 0,_,_,_=>Nat.le_refl _
 | f + 1,n,x,h=>by
  have e:(if n=u then cntN f (addK K u m) m x else 0)=0:=by
   rw[(cnt_m km um f x).2 h];split <;> rfl
  have:=sum_le (l:=K n) (f:=fun c=>cntN f (addK K u m) c x) (g:=fun c=>cntN f K c x) fun c _=>cnt_old kl f c x h
  rw[cnt_s,cntN,e];omega
theorem cnt_new (kl:∀ n,∀ c∈K n,c≠m):∀ (f n:Nat),n≠m->cntN f (addK K u m) n m<=cntN f K n u
 | 0,_,_=>Nat.le_refl _
 | f + 1,n,h=>by
  have h1:=(cnt_m km um f m).1
  have:=sum_le (l:=K n) (f:=fun c=>cntN f (addK K u m) c m) (g:=fun c=>cntN f K c u) fun c hc=>cnt_new kl f c (kl n c hc)
  rw[cnt_s,cntN,if_neg h];split
  ·omega
  ·omega
theorem siz_new (kl:∀ n,∀ c∈K n,c≠m):∀ (f n:Nat),sizN f (addK K u m) n<=sizN f K n + cntN f K n u
 | 0,_=>Nat.le_refl _
 | f + 1,n=>by
  have h1:=siz_m km um f
  have:=sum_le (l:=K n) (f:=sizN f (addK K u m)) (g:=fun c=>sizN f K c + cntN f K c u) fun c hc=>siz_new kl f c
  rw[sum_add]at this;rw[siz_s,sizN,cntN];split
  ·omega
  ·omega
end
noncomputable def kN (N:List Nd):Nat->List Nat:=fun n=>(N.getD n nd0).kids
structure Once (N:List Nd):Prop where
 one:∀ f x,cntN f (kN N) 0 x<=1
 siz:∀ f,sizN f (kN N) 0<=N.length + 1
theorem once_bare {N:List Nd}(h:kN N=fun _=>[]):Once N:=by
 refine⟨fun f x=>?_,fun f=>?_⟩
 ·rw[h]
  cases f with
  | zero=>exact Nat.zero_le _
  | succ f=>rw[cntN];split <;> simp
 ·rw[h]
  cases f with
  | zero=>exact Nat.zero_le _
  | succ f=>rw[sizN];simp
noncomputable def uW:Nat->Int
 | 0=>25
 | 1=>5
 | 2=>1
 | _=>0
noncomputable def gW (x:Nd):Int:=uW x.d - x.kids.length * uW (x.d + 1)
noncomputable def potN (N:List Nd):Int:=(N.map gW).sum
theorem pot_set:∀ {N:List Nd} {i:Nat} {x:Nd} (y:Nd),N[i]?=some x->potN (N.set i y)=potN N - gW x + gW y
 | [],_,_,_,h=>by cases h
 | z::N,0,x,y,h=>by
  cases h;unfold potN;rw[List.set_cons_zero,List.map_cons,List.map_cons,List.sum_cons,List.sum_cons];omega
 | z::N,i + 1,x,y,h=>by
  have ih:=pot_set (N:=N) (i:=i) (x:=x) y (by simpa using h);unfold potN at ih ⊢;rw[List.set_cons_succ,List.map_cons,List.map_cons,List.sum_cons,List.sum_cons,ih];omega
theorem pot_snoc (N:List Nd)(y:Nd):potN (N++[y])=potN N + gW y:=by
 unfold potN;rw[List.map_append,List.sum_append];show _ + (gW y + 0)=_;rw[Int.add_zero]
theorem pot_le:∀ (N:List Nd),(∀ x∈N,okN x=false)->potN N<=N.length
 | [],_=>by decide
 | x::N,h=>by
  have ih:=pot_le N fun y hy=>h y (List.mem_cons_of_mem _ hy);have hx:=h x List.mem_cons_self
  have:gW x<=1:=by
   unfold okN at hx;unfold gW;have hk:(x.d < 4->5<=x.kids.length):=fun h4=>by
    rw[decide_eq_true h4,Bool.true_and]at hx
    have:=of_decide_eq_false hx
    omega
   generalize x.d=d at hk ⊢;rcases d with _ | _ | _ | d
   ·have:=hk (by decide)
    simp only[uW];omega
   ·have:=hk (by decide)
    simp only[uW];omega
   ·simp only[uW]
    omega
   ·have e1:uW (d + 1 + 1 + 1)=0:=rfl
    have e2:uW (d + 1 + 1 + 1 + 1)=0:=rfl;rw[e1,e2];omega
  unfold potN at ih ⊢;rw[List.map_cons,List.sum_cons,List.length_cons];omega
structure NF (N:List Nd):Prop where
 id:∀ (a:Nat) (x:Nd),N[a]?=some x->x.id=a
 d4:∀ x∈N,x.d<=4
 k5:∀ x∈N,x.kids.length<=5
 kd:∀ x∈N,∀ c∈x.kids,∃ y,N[c]?=some y/\y.d=x.d + 1
 ak:∀ x∈N,x.a.length<=3/\x.n.length<=3
 r0:∀ x,N[0]?=some x->x.d=0
 on:Once N
theorem NF.nil:NF []:=⟨fun _ _ h=>(nomatch h),fun _ h=>(nomatch h),fun _ h=>(nomatch h),fun _ h=>(nomatch h),fun _ h=>(nomatch h),fun _ h=>(nomatch h),once_bare rfl⟩
theorem NF.set {N:List Nd}(f:NF N){i:Nat}{x y:Nd}(h:N[i]?=some x)(e1:y.id=x.id)(e2:y.d=x.d)(e3:y.a.length<=3)(e5:y.n=x.n)(e4:y.kids=x.kids):NF (N.set i y):=by
 have hx:=List.mem_of_getElem? h;have get:∀ (a:Nat) (z:Nd),N[a]?=some z->∃ z',(N.set i y)[a]?=some z'/\z'.d=z.d:=fun a z hz=>by
  by_cases e:i=a
  ·subst e
   rw[h]at hz;cases hz;exact⟨y,List.getElem?_set_self (lt_of_get h),e2⟩
  ·exact⟨z,by rw[List.getElem?_set_ne e];exact hz,rfl⟩
 refine⟨fun a z hz=>?_,fun z hz=>?_,fun z hz=>?_,fun z hz c hc=>?_,fun z hz=>?_,fun z hz=>?_,?_⟩
 ·by_cases e:i=a
  ·subst e
   rw[List.getElem?_set_self (lt_of_get h)]at hz;cases hz;rw[e1];exact f.id _ _ h
  ·rw[List.getElem?_set_ne e]at hz
   exact f.id _ _ hz
 ·rcases List.mem_or_eq_of_mem_set hz with hz | rfl
  ·exact f.d4 z hz
  ·rw[e2];exact f.d4 x hx
 ·rcases List.mem_or_eq_of_mem_set hz with hz | rfl
  ·exact f.k5 z hz
  ·rw[e4];exact f.k5 x hx
 ·have:∃ z0∈N,z0.d=z.d/\c∈z0.kids:=by
   rcases List.mem_or_eq_of_mem_set hz with hz | rfl
   ·exact⟨z,hz,rfl,hc⟩
   ·exact⟨x,hx,e2.symm,e4 ▸ hc⟩
  obtain⟨z0,h1,h2,h3⟩:=this;obtain⟨w,h4,h5⟩:=f.kd z0 h1 c h3;obtain⟨w',h6,h7⟩:=get c w h4;exact⟨w',h6,by rw[h7,h5,h2]⟩
 ·rcases List.mem_or_eq_of_mem_set hz with hz | rfl
  ·exact f.ak z hz
  ·exact⟨e3,by rw[e5];exact(f.ak x hx).2⟩
 ·by_cases e:i=0
  ·subst e
   rw[List.getElem?_set_self (lt_of_get h)]at hz;cases hz;rw[e2];exact f.r0 _ h
  ·rw[List.getElem?_set_ne e]at hz
   exact f.r0 _ hz
 ·have ek:kN (N.set i y)=kN N:=by
   funext n;unfold kN;rw[List.getD_eq_getElem?_getD,List.getD_eq_getElem?_getD];by_cases e:i=n
   ·subst e
    rw[List.getElem?_set_self (lt_of_get h),h];exact e4
   ·rw[List.getElem?_set_ne e]
  exact⟨fun g x=>by rw[ek];exact f.on.one g x,fun g=>by rw[ek,List.length_set];exact f.on.siz g⟩
theorem NF.add {N:List Nd}(f:NF N){u new:Nd}(h:N[u.id]?=some u)(hu:okN u=true)(n1:new.id=N.length)(n2:new.d=u.d + 1)(n3:new.kids=[])(n4:new.a.length<=3/\new.n.length<=3):NF (N.set u.id (kidU u N.length)++[new]):=by
 have hx:=List.mem_of_getElem? h;have hd:=f.d4 u hx;unfold okN at hu;rw[Bool.and_eq_true]at hu;have u1:=of_decide_eq_true hu.1;have u2:=of_decide_eq_true hu.2;have get:∀ (a:Nat) (z:Nd),N[a]?=some z->∃ z',(N.set u.id (kidU u N.length)++[new])[a]?=some z'/\z'.d=z.d:=fun a z hz=>by
  rw[List.getElem?_append_left (by rw[List.length_set];exact lt_of_get hz)];by_cases e:u.id=a
  ·subst e
   rw[h]at hz;cases hz;exact⟨_,List.getElem?_set_self (lt_of_get h),rfl⟩
  ·exact⟨z,by rw[List.getElem?_set_ne e];exact hz,rfl⟩
 have last:(N.set u.id (kidU u N.length)++[new])[N.length]?=some new:=by
  rw[List.getElem?_append_right (by rw[List.length_set];exact Nat.le_refl _),List.length_set,Nat.sub_self];rfl
 have cs:∀ z∈N.set u.id (kidU u N.length)++[new],z∈N\/z=kidU u N.length\/z=new:=fun z hz=>by
  rcases List.mem_append.mp hz with hz | hz
  ·rcases List.mem_or_eq_of_mem_set hz with hz | hz
   ·exact .inl hz
   ·exact .inr (.inl hz)
  ·exact .inr (.inr (List.mem_singleton.mp hz))
 refine⟨fun a z hz=>?_,fun z hz=>?_,fun z hz=>?_,fun z hz c hc=>?_,fun z hz=>?_,fun z hz=>?_,?_⟩
 ·by_cases e:a < N.length
  ·rw[List.getElem?_append_left (by rw[List.length_set];exact e)]at hz
   by_cases e:u.id=a
   ·subst e
    rw[List.getElem?_set_self (lt_of_get h)]at hz;cases hz;rfl
   ·rw[List.getElem?_set_ne e]at hz
    exact f.id _ _ hz
  ·have hl:=lt_of_get hz
   rw[List.length_append,List.length_set,List.length_singleton]at hl
   have:a=N.length:=by omega
   subst this;rw[last]at hz;cases hz;exact n1
 ·rcases cs z hz with hz | rfl | rfl
  ·exact f.d4 z hz
  ·exact hd
  ·omega
 ·rcases cs z hz with hz | rfl | rfl
  ·exact f.k5 z hz
  ·show (u.kids++[N.length]).length<=5
   rw[List.length_append];show _ + 1<=_;omega
  ·rw[n3];exact Nat.zero_le _
 ·rcases cs z hz with hz | rfl | rfl
  ·obtain⟨y,h1,h2⟩:=f.kd z hz c hc
   obtain⟨y',h3,h4⟩:=get c y h1;exact⟨y',h3,by rw[h4,h2]⟩
  ·rcases List.mem_append.mp (show c∈u.kids++[N.length] from hc) with hc | hc
   ·obtain⟨y,h1,h2⟩:=f.kd u hx c hc
    obtain⟨y',h3,h4⟩:=get c y h1;exact⟨y',h3,by rw[h4,h2];rfl⟩
   ·rw[List.mem_singleton.mp hc]
    exact⟨new,last,n2⟩
  ·rw[n3]at hc;cases hc
 ·rcases cs z hz with hz | rfl | rfl
  ·exact f.ak z hz
  ·exact f.ak u hx
  ·exact n4
 ·rw[List.getElem?_append_left (by rw[List.length_set];exact Nat.lt_of_le_of_lt (Nat.zero_le _) (lt_of_get h))]at hz
  by_cases e:u.id=0
  ·rw[e]at h hz
   rw[List.getElem?_set_self (lt_of_get h)]at hz;cases hz;exact f.r0 u h
  ·rw[List.getElem?_set_ne e]at hz
   exact f.r0 _ hz
 ·have hlt:=lt_of_get h
  have ek:kN (N.set u.id (kidU u N.length)++[new])=addK (kN N) u.id N.length:=by
   funext n;unfold addK kN;rw[List.getD_eq_getElem?_getD,List.getD_eq_getElem?_getD];by_cases e:n < N.length
   ·rw[List.getElem?_append_left (by rw[List.length_set];exact e)]
    by_cases e2:u.id=n
    ·subst e2
     rw[List.getElem?_set_self e,h,if_pos rfl];rfl
    ·rw[List.getElem?_set_ne e2,if_neg (Ne.symm e2),List.append_nil]
   ·rw[if_neg (by omega),List.append_nil,List.getElem?_eq_none (l:=N) (by omega)]
    by_cases e2:n=N.length
    ·subst e2
     rw[last];exact n3
    ·rw[List.getElem?_eq_none (by rw[List.length_append,List.length_set,List.length_singleton];omega)]
  have km:kN N N.length=[]:=by
   unfold kN;rw[List.getD_eq_getElem?_getD,List.getElem?_eq_none (Nat.le_refl _)];rfl
  have kl:∀ n,∀ c∈kN N n,c≠N.length:=fun n c hc=>by
   unfold kN at hc;rw[List.getD_eq_getElem?_getD]at hc;cases hn:N[n]? with
   | none=>rw[hn]at hc;cases hc
   | some x =>
    rw[hn]at hc;obtain⟨y,h1,_⟩:=f.kd x (List.mem_of_getElem? hn) c hc;exact Nat.ne_of_lt (lt_of_get h1)
  have um:u.id≠N.length:=Nat.ne_of_lt hlt;refine⟨fun g x=>?_,fun g=>?_⟩
  ·rw[ek]
   by_cases e:x=N.length
   ·subst e
    exact Nat.le_trans (cnt_new km um kl g 0 (by omega)) (f.on.one g u.id)
   ·exact Nat.le_trans (cnt_old km um kl g 0 x e) (f.on.one g x)
  ·rw[ek,List.length_append,List.length_set,List.length_singleton]
   have h1:=siz_new km um kl g 0;have h2:=f.on.siz g;have h3:=f.on.one g u.id;omega
theorem pot_add {N:List Nd}{u new:Nd}(h:N[u.id]?=some u)(n2:new.d=u.d + 1)(n3:new.kids=[])(m:Nat):potN (N.set u.id (kidU u m)++[new])=potN N:=by
 rw[pot_snoc,pot_set _ h];unfold gW kidU;rw[n2,n3,List.length_append];show potN N - (uW u.d - u.kids.length * uW (u.d + 1)) + (uW u.d - ((u.kids.length + 1:Nat):Int) * uW (u.d + 1)) + (uW (u.d + 1) - (0:Int) * _)=_;rw[Int.zero_mul,Int.natCast_add,Int.add_mul];generalize (u.kids.length:Int) * uW (u.d + 1)=A;show _ - (_ - A) + (_ - (A + 1 * uW (u.d + 1))) + _=_;omega
theorem over_pos {N:List Nd}(hp:potN N=25)(hl:N.length<=19):0 < (N.filter okN).length:=by
 refine Nat.pos_of_ne_zero fun h0=>?_;have h1:=List.eq_nil_of_length_eq_zero h0
 have:=pot_le N fun x hx=>by
  cases e:okN x with
  | false=>rfl
  | true =>
   have:x∈N.filter okN:=List.mem_filter.mpr ⟨hx,e⟩
   rw[h1]at this;cases this
 omega
noncomputable def trV:Nat->List Nd->Nat->Tr
 | 0,_,_=>.mk [] false [] 0 0 []
 | f + 1,N,n=>.mk (N.getD n nd0).a (N.getD n nd0).b (N.getD n nd0).n (1 + (n:Int)) (2 * (n:Int) + 1) ((N.getD n nd0).kids.map (trV f N))
theorem getD_of {N:List Nd}{n:Nat}{x:Nd}(h:N[n]?=some x):N.getD n nd0=x:=by rw[List.getD_eq_getElem?_getD,h];rfl
theorem trV_s {f:Nat}{N:List Nd}{n:Nat}{x:Nd}(h:N[n]?=some x):trV (f + 1) N n=.mk x.a x.b x.n (1 + (n:Int)) (2 * (n:Int) + 1) (x.kids.map (trV f N)):=by
 rw[trV,getD_of h]
theorem trV_fit {N:List Nd}(nf:NF N):∀ (f n:Nat) (x:Nd),N[n]?=some x->5<=x.d + f->Fit f (trV f N n)
 | 0,n,x,h,h5=>by
  have:=nf.d4 x (List.mem_of_getElem? h)
  omega
 | f + 1,n,x,h,h5=>by
  have hm:=List.mem_of_getElem? h;rw[trV_s h];refine⟨nf.ak x hm,by show (x.kids.map (trV f N)).length<=5;rw[List.length_map];exact nf.k5 x hm,fun s hs=>?_⟩;obtain⟨c,hc,rfl⟩:=List.mem_map.mp (show s∈x.kids.map (trV f N) from hs);obtain⟨y,h1,h2⟩:=nf.kd x hm c hc;exact trV_fit nf f c y h1 (by omega)
theorem trV_siz (N:List Nd):∀ (f n:Nat),szT f (trV f N n)=sizN f (kN N) n
 | 0,_=>rfl
 | f + 1,n=>by
  rw[szT,sizN,trV];show 1 + (((N.getD n nd0).kids.map (trV f N)).map (szT f)).sum=_;rw[List.map_map];congr 2;exact List.map_congr_left fun c _=>trV_siz N f c
end
end Law
namespace Law
open PySem L3
section
variable {srt:List D->Option (List D)}
noncomputable def kidsD (x:Nd):MO:=.lst (x.kids.map fun (n:Nat)=>.int (n:Int))
noncomputable def ndD (j:Nat)(x:Nd):MO:=.lst [.tup (x.a.map askD),.tup (x.n.map .str),.int (x.d:Int),.ob j,.bl x.b]
structure Rep (M:MH) (jN:Nat) (E:List (Nat×Nd)):Prop where
 l:M[jN]?=some (.lst (E.map fun e=>.ob (e.1 + 1)))
 lt:∀ (a b:Nat) (e e':Nat×Nd),E[a]?=some e->E[b]?=some e'->a < b->e.1 + 1 < e'.1
 o:∀ e∈E,jN < e.1/\M[e.1]?=some (kidsD e.2)/\M[e.1 + 1]?=some (ndD e.1 e.2)
theorem Rep.keep {M M':MH}{jN:Nat}{E:List (Nat×Nd)}(r:Rep M jN E)(g:Gr M M'):Rep M' jN E:=⟨g.keep _ _ r.l,r.lt,fun e he=>⟨(r.o e he).1,g.keep _ _ (r.o e he).2.1,g.keep _ _ (r.o e he).2.2⟩⟩
theorem row_w:∀ (f k:Nat) (M:MH) (jN:Nat) (E:List (Nat×Nd)) (n:Nat) (e:Nat×Nd),Rep M jN E->NF (E.map (·.2))->E[n]?=some e->5<=e.2.d + f->n<=100->E.length<=100->∀ {Q:D->MH->Prop} (_:∀ (M':MH),Gr M M'->Q (trD (trV f (E.map (·.2)) n)) M'),
  W ((cx srt (k + f)).fn "_law_row" [.ob jN,.int (n:Int)]) M Q
 | 0,k,M,jN,E,n,e,_,nf,h,h5,_,_,Q,q=>by
  have:=nf.d4 e.2 (List.mem_map_of_mem (List.mem_of_getElem? h))
  omega
 | f + 1,k,M,jN,E,n,e,R,nf,h,h5,hn,hE,Q,q=>by
  have big:=line_big;have hm:=List.mem_of_getElem? h;have hN:(E.map (·.2))[n]?=some e.2:=by rw[List.getElem?_map,h];rfl
  have hmN:=List.mem_of_getElem? hN;have hk5:=nf.k5 _ hmN;obtain⟨r1,r2,r3⟩:=R.o e hm;rw[show k + (f + 1)=k + f + 1 by omega,f__law_row,wf,b__law_row];walk_at "wq";refine⟨_,R.l,_,rfl,_,atD_nat (by rw[List.getElem?_map,h];rfl),?_⟩;walk_at "wq";refine⟨_,r3,_,rfl,_,rfl,?_⟩;walk_at "wq";refine⟨_,r3,_,rfl,_,rfl,_,r3,_,rfl,_,rfl,.inl ⟨by omega,by omega⟩,Nat.zero_le _,_,r3,_,rfl,_,rfl,?_⟩;walk_at "wq";refine⟨_,r2,by rw[List.length_map];omega,?_⟩;refine w_compI (fun m ys M'=>Gr M M'/\ys=((e.2.kids.take m).map fun c=>trD (trV f (E.map (·.2)) c))) ⟨Gr.refl,rfl⟩ (fun _ _ _ h=>h.1.keep _ _ r2) ?_ ?_
  ·rintro m d ys M' hd ⟨g,rfl⟩
   rw[List.getElem?_map]at hd;obtain⟨c,hc,rfl⟩:=Option.map_eq_some_iff.mp hd;obtain⟨y,y1,y2⟩:=nf.kd _ hmN c (List.mem_of_getElem? hc);rw[List.getElem?_map]at y1;obtain⟨e',he',rfl⟩:=Option.map_eq_some_iff.mp y1;walk_at "wq";refine row_w f k M' jN E c e' (R.keep g) nf he' (by omega) (by have:=lt_of_get he';omega) hE fun M2 g2=>⟨g.trans g2,?_⟩;rw[List.take_add_one,hc,List.map_append];rfl
  ·rintro ys M' ⟨g,rfl⟩
   rw[List.length_map,List.take_length];walk_at "wq";refine⟨_,get_new _ _,?_⟩;walk_at "wq";refine⟨by omega,?_⟩;have q:=q _ (g.snoc (MO.lst (e.2.kids.map fun c=>trD (trV f (E.map (·.2)) c))));rw[trV_s hN,trD,trDs_eq,List.map_map]at q;exact q
theorem Rep.add {M:MH}{jN k:Nat}{E:List (Nat×Nd)}{x:Nd}(R:Rep M jN E)(h1:M[k]?=some (kidsD x))(h2:M[k + 1]?=some (ndD k x))(hj:jN < k)(hE:∀ e∈E,e.1 + 1 < k):Rep (M.set jN (.lst ((E.map fun e=>.ob (e.1 + 1))++[.ob (k + 1)]))) jN (E++[(k,x)]):=by
 refine⟨?_,fun a b e e' ha hb hab=>?_,fun e he=>?_⟩
 ·rw[List.map_append]
  exact set_get R.l
 ·by_cases hb':b < E.length
  ·rw[List.getElem?_append_left hb']at hb
   rw[List.getElem?_append_left (by omega)]at ha;exact R.lt a b e e' ha hb hab
  ·have hl:=lt_of_get hb
   rw[List.length_append,List.length_singleton]at hl
   have:b=E.length:=by omega
   subst this;rw[List.getElem?_append_left (by omega)]at ha;rw[List.getElem?_append_right (Nat.le_refl _),Nat.sub_self]at hb;cases hb;exact hE e (List.mem_of_getElem? ha)
 ·rcases List.mem_append.mp he with he | he
  ·obtain⟨o1,o2,o3⟩:=R.o e he
   rw[List.getElem?_set_ne (by omega),List.getElem?_set_ne (by omega)];exact⟨o1,o2,o3⟩
  ·rw[List.mem_singleton.mp he]
   rw[List.getElem?_set_ne (by omega),List.getElem?_set_ne (by omega)];exact⟨hj,h1,h2⟩
theorem Rep.other {M:MH}{jN j:Nat}{E:List (Nat×Nd)}(R:Rep M jN E)(o:MO)(hj:jN < j)(hE:∀ e∈E,e.1 + 1 < j):Rep (M.set j o) jN E:=by
 refine⟨by rw[List.getElem?_set_ne (by omega)];exact R.l,R.lt,fun e he=>?_⟩;obtain⟨o1,o2,o3⟩:=R.o e he
 have:=hE e he
 rw[List.getElem?_set_ne (by omega),List.getElem?_set_ne (by omega)];exact⟨o1,o2,o3⟩
theorem Rep.ne {M:MH}{jN a b:Nat}{E:List (Nat×Nd)}(R:Rep M jN E){e e':Nat×Nd}(ha:E[a]?=some e)(hb:E[b]?=some e')(h:a≠b):e.1 + 1 < e'.1\/e'.1 + 1 < e.1:=by
 rcases Nat.lt_or_gt_of_ne h with h | h
 ·exact .inl (R.lt a b e e' ha hb h)
 ·exact .inr (R.lt b a e' e hb ha h)
theorem Rep.upd {M:MH}{jN a j:Nat}{E:List (Nat×Nd)}(R:Rep M jN E){e:Nat×Nd}{y:Nd}{o:MO}(ha:E[a]?=some e)(hj:j=e.1\/j=e.1 + 1)(h1:(M.set j o)[e.1]?=some (kidsD y))(h2:(M.set j o)[e.1 + 1]?=some (ndD e.1 y)):Rep (M.set j o) jN (E.set a (e.1,y)):=by
 have hr:=(R.o e (List.mem_of_getElem? ha)).1;have same:∀ (b:Nat) (z:Nat×Nd),(E.set a (e.1,y))[b]?=some z->∃ z0,E[b]?=some z0/\z0.1=z.1/\(b=a/\z=(e.1,y)\/b≠a/\z0=z):=fun b z hz=>by
  by_cases h:a=b
  ·subst h
   rw[List.getElem?_set_self (lt_of_get ha)]at hz;cases hz;exact⟨e,ha,rfl,.inl ⟨rfl,rfl⟩⟩
  ·rw[List.getElem?_set_ne h]at hz
   exact⟨z,hz,rfl,.inr ⟨Ne.symm h,rfl⟩⟩
 refine⟨?_,fun b c z z' hb hc hbc=>?_,fun z hz=>?_⟩
 ·rw[List.getElem?_set_ne (by omega),R.l,List.map_set]
  have hg:(E.map fun e=>D.ob (e.1 + 1))[a]?=some (.ob (e.1 + 1)):=by rw[List.getElem?_map,ha];rfl
  obtain⟨hlt,he⟩:=List.getElem?_eq_some_iff.mp hg;show _=some (MO.lst ((E.map fun e=>D.ob (e.1 + 1)).set a (.ob (e.1 + 1))));rw[<- he,List.set_getElem_self hlt]
 ·obtain⟨z0,h3,h4,_⟩:=same b z hb
  obtain⟨z1,h5,h6,_⟩:=same c z' hc
  have:=R.lt b c z0 z1 h3 h5 hbc
  omega
 ·obtain⟨b,hb⟩:=List.getElem?_of_mem hz
  obtain⟨z0,h3,h4,h5⟩:=same b z hb;rcases h5 with ⟨rfl,rfl⟩|⟨hne,rfl⟩
  ·exact⟨hr,h1,h2⟩
  ·obtain⟨o1,o2,o3⟩:=R.o z0 (List.mem_of_getElem? h3)
   have:=R.ne ha h3 (Ne.symm hne)
   rw[List.getElem?_set_ne (by omega),List.getElem?_set_ne (by omega)];exact⟨o1,o2,o3⟩
end
end Law
namespace Law
open PySem L3
section
variable {srt:List D->Option (List D)}{as vs:List Str}
noncomputable def manyA (n:Nat):Nat:=[0,1,1,2,1,1,3].getD n 0
theorem many_at (n:Nat)(h:n < 7):atD [D.int 0,D.int 1,D.int 1,D.int 2,D.int 1,D.int 1,D.int 3] (n:Int)=some (.int (manyA n:Int))/\manyA n<=3:=by
 rcases n with _ | _ | _ | _ | _ | _ | _ | n
 all_goals first | exact⟨rfl,by decide⟩ | omega
theorem up_at (sc:List Int)(i:Int)(O:List (Nat×Nd))(hl:0 < O.length){f:Nat×Nd->D}:∃ (y:Int) (e:Nat×Nd),atD [D.int (-1),D.int (pickV sc (i + 11) O.length)] (pickV sc (i + 10) 2)=some (.int y)/\atD (O.map f) y=some (f e)/\e∈O:=by
 obtain⟨v,hv,lv⟩:=pick_nat sc (i + 11) hl;obtain⟨w,hw,lw⟩:=pick_nat sc (i + 10) (m:=2) (by decide);rw[show ((2:Nat):Int)=2 from rfl]at hw;rw[hv,hw];have fin:∀ n:Nat,n < O.length->∃ e,O[n]?=some e/\e∈O:=fun n hn=>⟨O[n],List.getElem?_eq_getElem hn,List.getElem_mem hn⟩
 have:w=0\/w=1:=by omega
 rcases this with rfl | rfl
 ·obtain⟨e,h1,h2⟩:=fin (O.length - 1) (by omega)
  refine⟨-1,e,rfl,?_,h2⟩;unfold atD ixD;rw[List.length_map,if_neg (by omega),if_pos (by omega)];show (O.map f)[(-1 + (O.length:Int)).toNat]?=_;rw[show (-1 + (O.length:Int)).toNat=O.length - 1 by omega,List.getElem?_map,h1];rfl
 ·obtain⟨e,h1,h2⟩:=fin v lv
  exact⟨v,e,rfl,atD_nat (by rw[List.getElem?_map,h1];rfl),h2⟩
theorem nodes_w (k:Nat)(sc:List Int)(i:Int)(many:Nat)(M:MH){d:D}{ns:List Str}{ot:Str}(P:Pool M d as vs ns ot)(h0:0<=i)(h1:i<=1000)(hm:many<=19){Q:D->MH->Prop}(q:∀ (jN:Nat) (E:List (Nat×Nd)) (M':MH),Gr M M'->M.length<=jN->Rep M' jN E->NF (E.map (·.2))->E.length=many + 1->Q (.ob jN) M') :
  W ((cx srt (k + 5)).fn "_law_nodes" [.fl (sc.map .int),.int i,.int (many:Int),d]) M Q:=by
 have big:=line_big;rw[f__law_nodes,wf,b__law_nodes];walk_at "wq";refine⟨by omega,⟨by omega,by omega⟩,?_⟩;have n0:(M++[MO.lst []])[M.length]?=some (.lst []):=get_new _ _;have g0:Gr M (M++[MO.lst []]):=Gr.app _ _;generalize M++[MO.lst []]=M0 at n0 g0 ⊢;refine w_loop (fun m ρ M'=>Gr M M'/\(∃ E:List (Nat×Nd),Rep M' M.length E/\NF (E.map (·.2))/\E.length=m/\(m≠0->potN (E.map (·.2))=25))/\∃ x5 x6 x7 x8 x9 x10 x11 x12,ρ=[some (.fl (sc.map .int)),some (.int i),some (.int (many:Int)),some d,some (.ob M.length),x5,x6,x7,x8,x9,x10,x11,x12])
  ⟨g0,⟨[],⟨n0,(fun _ _ _ _ h=>nomatch h),(fun _ h=>nomatch h)⟩,NF.nil,rfl,fun h=>absurd rfl h⟩,_,_,_,_,_,_,_,_,rfl⟩ (fun _ _ _ _=>trivial) ?_ ?_
 ·rintro m d' ρ M1 hd ⟨g1,⟨E,R,nf,hl,pot⟩,x5,x6,x7,x8,x9,x10,x11,x12,rfl⟩
  obtain⟨rfl,hmm⟩:=rng_get hd;rw[Int.zero_add];have P1:=P.keep g1;obtain⟨ia,iv,iN,rfl,p2,p3,p4⟩:=P1.is;have hm19:m<=19:=by omega
  obtain⟨v12,h12,l12⟩:=pick_nat sc (i + 16 * (m:Int) + 12) (m:=7) (by decide);obtain⟨v13,h13,l13⟩:=pick_nat sc (i + 16 * (m:Int) + 13) (m:=6) (by decide);obtain⟨v14,h14,l14⟩:=pick_nat sc (i + 16 * (m:Int) + 14) (m:=4) (by decide);rw[show ((7:Nat):Int)=7 from rfl]at h12;rw[show ((6:Nat):Int)=6 from rfl]at h13;rw[show ((4:Nat):Int)=4 from rfl]at h14;obtain⟨ma,mb⟩:=many_at v12 l12;walk_at "wq";refine⟨.inl ⟨by omega,by omega⟩,by omega,pick_w (k + 2) sc _ _ _ (by omega) (by omega) (by decide) ?_⟩;rw[h12];walk_at "wq";refine⟨_,get_new _ _,?_⟩;walk_at "wq";refine⟨_,ma,?_⟩;have g2:Gr M1 (M1++[MO.lst [D.int 0,D.int 1,D.int 1,D.int 2,D.int 1,D.int 1,D.int 3]]):=Gr.app _ _;generalize M1++[MO.lst [D.int 0,D.int 1,D.int 1,D.int 2,D.int 1,D.int 1,D.int 3]]=M2 at g2 ⊢;refine askings_w k sc _ _ M2 (P1.keep g2) (by omega) (by omega) (by omega) fun A M3 _ hAl g3=>?_;replace g3:=g2.trans g3;walk_at "wq";refine pick_w (k + 2) sc _ _ _ (by omega) (by omega) (by decide) ?_;rw[h13];walk_at "wq";have p4':=g3.keep _ _ p4;refine⟨_,p4',_,(Gr.app _ _).keep _ _ p4',?_⟩;rw[cut_lo _ (by omega),cut_hi _ (by omega)];have et:(v13:Int).toNat=v13:=rfl;rw[et];refine⟨_,(Gr.app _ _).keep _ _ (get_new _ _),_,get_new _ _,?_,?_⟩
  ·rw[List.length_drop,List.length_take,List.length_map,P1.n6];omega
  rw[<- List.map_drop,<- List.map_take,<- List.map_append];have g4:Gr M1 (M3++[MO.lst ((ns.drop v13).map .str)]++[MO.lst ((ns.take v13).map .str)]):=(g3.snoc _).snoc _;generalize M3++[MO.lst ((ns.drop v13).map .str)]++[MO.lst ((ns.take v13).map .str)]=M4 at g4 ⊢;refine pick_w (k + 2) sc _ _ _ (by omega) (by omega) (by decide) ?_;rw[h14];walk_at "wq";refine⟨_,get_new _ _,?_⟩;rw[cut_hi _ (by omega),<- List.map_take];have et:(v14:Int).toNat=v14:=rfl;rw[et];walk_at "wq";generalize hB:(ns.drop v13++ns.take v13).take v14=B;have n5:(M4++[MO.lst ((ns.drop v13++ns.take v13).map .str)]++[MO.lst (B.map .str)])[(M4++[MO.lst ((ns.drop v13++ns.take v13).map .str)]).length]?=some (.lst (B.map .str)):=get_new _ _;have g5:Gr M1 (M4++[MO.lst ((ns.drop v13++ns.take v13).map .str)]++[MO.lst (B.map .str)]):=(g4.snoc _).snoc _;generalize M4++[MO.lst ((ns.drop v13++ns.take v13).map .str)]++[MO.lst (B.map .str)]=M5 at n5 g5 ⊢;generalize (M4++[MO.lst ((ns.drop v13++ns.take v13).map .str)]).length=j9 at n5 ⊢;have R5:=R.keep g5;refine⟨_,R5.l,by rw[List.length_map];omega,?_⟩;refine w_compI (fun n ys M'=>M'=M5/\ys=((E.take n).filter fun e=>okN e.2).map fun e=>.ob (e.1 + 1)) ⟨rfl,rfl⟩ (fun _ _ _ h=>h.1 ▸ R5.l) ?_ ?_
  ·rintro n dd ys M' hd ⟨rfl,rfl⟩
   rw[List.getElem?_map]at hd;obtain⟨e,he,rfl⟩:=Option.map_eq_some_iff.mp hd;obtain⟨o1,o2,o3⟩:=R5.o e (List.mem_of_getElem? he);have es:(E.take (n + 1)).filter (fun e=>okN e.2)=(E.take n).filter (fun e=>okN e.2)++(if okN e.2 then [e] else []):=by
    rw[List.take_add_one,he,List.filter_append];congr 1;show [e].filter _=_;rw[List.filter_cons];rfl
   walk_at "wq";refine⟨_,o3,_,rfl,_,rfl,?_⟩;walk_at "wq";rw[es];have e4:decide ((e.2.d:Int) < 4)=decide (e.2.d < 4):=by apply decide_eq_decide.mpr;omega
   have e5:okN e.2=(decide (e.2.d < 4)&&decide (e.2.kids.length < 5)):=rfl;rw[e4,e5];refine⟨fun h=>?_,fun h=>by rw[h,Bool.false_and];simp⟩;rw[h];refine⟨_,o3,_,rfl,_,rfl,?_⟩;walk_at "wq";refine⟨_,o2,?_⟩;walk_at "wq";have e6:decide (lenO (kidsD e.2) < 5)=decide (e.2.kids.length < 5):=by
    unfold kidsD;rw[k_lenl,List.length_map];apply decide_eq_decide.mpr;omega
   rw[e6,Bool.true_and];exact⟨fun h=>by rw[h,List.map_append];rfl,fun h=>by rw[h];simp⟩
  ·rintro ys M' ⟨rfl,rfl⟩
   rw[List.length_map,List.take_length];walk_at "wq";generalize hO:E.filter (fun e=>okN e.2)=O;refine⟨_,(Gr.app _ _).keep _ _ n5,Nat.zero_le _,pick_w (k + 2) sc _ _ _ (by omega) (by omega) (by decide) ?_⟩;walk_at "wq";refine⟨by omega,?_⟩;generalize hb:(pickV sc (i + 16 * (m:Int) + 15) 3==0)=b15;have hak:A.length<=3/\B.length<=3:=⟨by omega,by rw[<- hB,List.length_take];omega⟩;have l0:M.length < M1.length:=lt_of_get R.l;have lE:∀ e∈E,e.1 + 1 < M1.length:=fun e he=>lt_of_get (R.o e he).2.2;generalize hM6:M'++[MO.lst (O.map fun e=>D.ob (e.1 + 1))]=M6;have g6:Gr M1 M6:=hM6 ▸ g5.snoc _;have n6:M6[M'.length]?=some (.lst (O.map fun e=>D.ob (e.1 + 1))):=hM6 ▸ get_new _ _;have k1:(M6++[MO.lst []]++[MO.lst [D.tup (A.map askD),D.tup (B.map .str),D.int 0,D.ob M6.length,D.bl b15]])[M6.length]?=some (kidsD ⟨A,B,0,[],b15,m⟩):=(Gr.app _ _).keep _ _ (get_new _ _);have k2:(M6++[MO.lst []]++[MO.lst [D.tup (A.map askD),D.tup (B.map .str),D.int 0,D.ob M6.length,D.bl b15]])[M6.length + 1]?=some (ndD M6.length ⟨A,B,0,[],b15,m⟩):=by
    have:=get_new (M6++[MO.lst []]) (MO.lst [D.tup (A.map askD),D.tup (B.map .str),D.int 0,D.ob M6.length,D.bl b15])
    rw[List.length_append]at this;exact this
   have g7:Gr M6 (M6++[MO.lst []]++[MO.lst [D.tup (A.map askD),D.tup (B.map .str),D.int 0,D.ob M6.length,D.bl b15]]):=(Gr.app _ _).snoc _;have el:(M6++[MO.lst []]).length=M6.length + 1:=List.length_append;have l6:=g6.len;rw[el];generalize M6++[MO.lst []]++[MO.lst [D.tup (A.map askD),D.tup (B.map .str),D.int 0,D.ob M6.length,D.bl b15]]=M7 at k1 k2 g7 ⊢;have n7:=g7.keep _ _ n6;have R7:=R.keep (g6.trans g7);have G7:=g1.trans (g6.trans g7);generalize M6.length=kk at k1 k2 l6 ⊢;refine⟨fun h=>?_,fun h=>?_⟩
   ·have hm0:m≠0:=by have:=of_decide_eq_true h;omega
    have pot:=pot hm0;have hol:0 < O.length:=by
     have:=over_pos pot (by rw[List.length_map,hl];exact hm19)
     rw[List.filter_map,List.length_map]at this;rw[<- hO];exact this
    obtain⟨y,e,y1,y2,y3⟩:=up_at sc (i + 16 * (m:Int)) O hol (f:=fun e=>.ob (e.1 + 1));refine⟨_,n7,?_⟩;rw[k_lenl,List.length_map];refine pick_w (k + 2) sc _ _ _ (by omega) (by omega) (by omega) ?_;walk_at "wq";refine⟨by omega,pick_w (k + 2) sc _ _ _ (by omega) (by omega) (by decide) ?_⟩;walk_at "wq";refine⟨_,get_new _ _,_,rfl,_,y1,?_⟩;walk_at "wq";refine⟨_,(Gr.app _ _).keep _ _ n7,_,rfl,_,y2,?_⟩;walk_at "wq";have g8:Gr M7 (M7++[MO.lst [D.int (-1),D.int (pickV sc (i + 16 * (m:Int) + 11) O.length)]]):=Gr.app _ _;generalize M7++[MO.lst [D.int (-1),D.int (pickV sc (i + 16 * (m:Int) + 11) O.length)]]=M8 at g8 ⊢;have R8:=R7.keep g8;have G8:=G7.trans g8;rw[<- hO]at y3;obtain⟨eE,eok⟩:=List.mem_filter.mp y3;obtain⟨a,hea⟩:=List.getElem?_of_mem eE;have hNa:(E.map (·.2))[a]?=some e.2:=by rw[List.getElem?_map,hea];rfl
    have hid:=nf.id _ _ hNa;obtain⟨o1,o2,o3⟩:=R8.o e eE;have hle:=lE e eE;refine⟨_,o3,_,rfl,_,rfl,?_⟩;walk_at "wq";have k2':M8[kk + 1]?=some (MO.lst [D.tup (A.map askD),D.tup (B.map .str),D.int 0,D.ob kk,D.bl b15]):=g8.keep _ _ k2;refine⟨_,k2',?_⟩;walk_at "wq";refine⟨2,rfl,?_⟩;walk_at "wq";have R9:=R8.other (MO.lst [D.tup (A.map askD),D.tup (B.map .str),D.int ((e.2.d:Int) + 1),D.ob kk,D.bl b15]) (j:=kk + 1) (by omega) fun e he=>by have:=lE e he;omega
    have c1:(M8.set (kk + 1) (MO.lst [D.tup (A.map askD),D.tup (B.map .str),D.int ((e.2.d:Int) + 1),D.ob kk,D.bl b15]))[kk]?=some (kidsD ⟨A,B,e.2.d + 1,[],b15,m⟩):=by
     rw[List.getElem?_set_ne (by omega)];exact g8.keep _ _ k1
    have c2:(M8.set (kk + 1) (MO.lst [D.tup (A.map askD),D.tup (B.map .str),D.int ((e.2.d:Int) + 1),D.ob kk,D.bl b15]))[kk + 1]?=some (ndD kk ⟨A,B,e.2.d + 1,[],b15,m⟩):=set_get (g8.keep _ _ k2);have G9:Gr M (M8.set (kk + 1) (MO.lst [D.tup (A.map askD),D.tup (B.map .str),D.int ((e.2.d:Int) + 1),D.ob kk,D.bl b15])):=G8.set (by omega) _;generalize M8.set (kk + 1) (MO.lst [D.tup (A.map askD),D.tup (B.map .str),D.int ((e.2.d:Int) + 1),D.ob kk,D.bl b15])=M9 at R9 c1 c2 G9 ⊢;obtain⟨o1,o2,o3⟩:=R9.o e eE;refine⟨_,o3,_,rfl,_,rfl,?_⟩;walk_at "wq";have hk5:e.2.kids.length<=5:=nf.k5 _ (List.mem_of_getElem? hNa);refine⟨_,o2,_,o2,by rw[List.length_map];omega,?_⟩;have ek:(MO.lst ((e.2.kids.map fun (n:Nat)=>D.int (n:Int))++[D.int (m:Int)]))=kidsD (kidU e.2 m):=by
     unfold kidsD kidU;rw[List.map_append];rfl
    rw[ek];have R10:=R9.upd (j:=e.1) (o:=kidsD (kidU e.2 m)) (y:=kidU e.2 m) hea (.inl rfl) (set_get o2) (by rw[List.getElem?_set_ne (by omega)];exact o3);have c1':(M9.set e.1 (kidsD (kidU e.2 m)))[kk]?=some (kidsD ⟨A,B,e.2.d + 1,[],b15,m⟩):=by
     rw[List.getElem?_set_ne (by omega)];exact c1
    have c2':(M9.set e.1 (kidsD (kidU e.2 m)))[kk + 1]?=some (ndD kk ⟨A,B,e.2.d + 1,[],b15,m⟩):=by
     rw[List.getElem?_set_ne (by omega)];exact c2
    have G10:Gr M (M9.set e.1 (kidsD (kidU e.2 m))):=G9.set (by omega) _;generalize M9.set e.1 (kidsD (kidU e.2 m))=M10 at R10 c1' c2' G10 ⊢;walk_at "wq";have em:(E.set a (e.1,kidU e.2 m)).map (·.2)=(E.map (·.2)).set e.2.id (kidU e.2 m):=by rw[List.map_set,hid]
    rw[<- hid]at hNa;have hnl:(E.map (·.2)).length=m:=by rw[List.length_map,hl]
    refine⟨_,R10.l,_,R10.l,by rw[List.length_map,List.length_set];omega,G10.set (Nat.le_refl _) _,⟨_,R10.add c1' c2' (by omega) fun z hz=>?_,?_,?_,?_⟩,_,_,_,_,_,_,_,_,rfl⟩
    ·rcases List.mem_or_eq_of_mem_set hz with hz | rfl
     ·have:=lE z hz
      omega
     ·show e.1 + 1 < kk
      omega
    ·rw[List.map_append,em]
     have:=nf.add (u:=e.2) (new:=⟨A,B,e.2.d + 1,[],b15,m⟩) hNa eok hnl.symm rfl rfl hak
     rw[hnl]at this;exact this
    ·rw[List.length_append,List.length_set,hl];rfl
    ·intro _
     rw[List.map_append,em];rw[<- pot];exact pot_add (u:=e.2) (new:=⟨A,B,e.2.d + 1,[],b15,m⟩) hNa rfl rfl m
   ·have hm0:m=0:=by have:=of_decide_eq_false h;omega
    subst hm0;have hE:E=[]:=List.eq_nil_of_length_eq_zero hl;refine⟨_,R7.l,_,R7.l,by rw[List.length_map];omega,G7.set (Nat.le_refl _) _,⟨_,R7.add k1 k2 (by omega) fun e he=>Nat.lt_of_lt_of_le (lE e he) l6,?_,?_,?_⟩,_,_,_,_,_,_,_,_,rfl⟩
    ·rw[hE]
     refine⟨fun a x hx=>?_,fun x hx=>?_,fun x hx=>?_,fun x hx c hc=>?_,fun x hx=>?_,fun x hx=>by cases hx;rfl,once_bare ?_⟩
     ·have:=lt_of_get hx
      have:a=0:=by simpa using this
      subst this;cases hx;rfl
     ·rw[List.mem_singleton.mp hx];exact Nat.zero_le _
     ·rw[List.mem_singleton.mp hx];exact Nat.zero_le _
     ·rw[List.mem_singleton.mp hx]at hc;cases hc
     ·rw[List.mem_singleton.mp hx];exact hak
     ·funext n
      unfold kN;cases n <;> rfl
    ·rw[hE];rfl
    ·rw[hE]
     intro _;rfl
 ·rintro ρ M1 ⟨g1,⟨E,R,nf,hl,pot⟩,x5,x6,x7,x8,x9,x10,x11,x12,rfl⟩
  rw[rng_len]at hl;walk_at "wq";exact q _ E M1 g1 (Nat.le_refl _) R nf (by rw[hl];omega)
noncomputable def rootA (x:Nd)(nm ot:Str):Nd:={ x with a:=[⟨"is",nm,[ot]⟩] }
theorem last6 {ns:List Str}(h:ns.length=6):atD (ns.map D.str) (-1)=some (.str (ns.getD 5 "")):=by
 unfold atD ixD;rw[List.length_map,h,if_neg (by decide),if_pos (by decide)];show (ns.map D.str)[5]?=_;rw[List.getElem?_map,List.getD_eq_getElem?_getD,List.getElem?_eq_getElem (by omega)];rfl
theorem tree_w (k:Nat)(sc:List Int)(i:Int)(many:Nat)(M:MH){d:D}{ns:List Str}{ot:Str}(P:Pool M d as vs ns ot)(h0:0<=i)(h1:i<=1000)(hm:many<=19){Q:D->MH->Prop}(q:∀ t M',Gr M M'->Fit 5 t->szT 5 t<=many + 2->Q (trD t) M') :
  W ((cx srt (k + 6)).fn "_law_tree" [.fl (sc.map .int),.int i,.int (many:Int),d]) M Q:=by
 have big:=line_big;rw[f__law_tree,wf,b__law_tree];walk_at "wq";refine nodes_w k sc i many M P h0 h1 hm fun jN E M1 g1 hj R nf hl=>?_;obtain⟨ia,iv,iN,rfl,p2,p3,p4⟩:=(P.keep g1).is;have h0:∃ e,E[0]?=some e:=⟨E[0],List.getElem?_eq_getElem (by omega)⟩;obtain⟨e,he⟩:=h0;have hN:(E.map (·.2))[0]?=some e.2:=by rw[List.getElem?_map,he];rfl
 obtain⟨o1,o2,o3⟩:=R.o e (List.mem_of_getElem? he);walk_at "wq";refine⟨_,p4,?_⟩;walk_at "wq";refine⟨_,last6 P.n6,by omega,?_⟩;refine⟨by omega,by omega,_,R.l,_,rfl,_,atD_nat (j:=0) (by rw[List.getElem?_map,he];rfl),?_⟩;walk_at "wq";have o3':M1[e.1 + 1]?=some (MO.lst [.tup (e.2.a.map askD),.tup (e.2.n.map .str),.int (e.2.d:Int),.ob e.1,.bl e.2.b]):=o3;refine⟨_,o3',?_⟩;walk_at "wq";refine⟨0,rfl,?_⟩;walk_at "wq";have R2:=R.upd (j:=e.1 + 1) (o:=ndD e.1 (rootA e.2 (ns.getD 5 "") ot)) (y:=rootA e.2 (ns.getD 5 "") ot) he (.inr rfl) (by rw[List.getElem?_set_ne (by omega)];exact o2) (set_get o3);have em:(E.set 0 (e.1,rootA e.2 (ns.getD 5 "") ot)).map (·.2)=(E.map (·.2)).set 0 (rootA e.2 (ns.getD 5 "") ot):=List.map_set;have nf2:NF ((E.set 0 (e.1,rootA e.2 (ns.getD 5 "") ot)).map (·.2)):=by
  rw[em];exact nf.set hN rfl rfl (by show 1<=3;decide) rfl rfl
 have hE0:(E.set 0 (e.1,rootA e.2 (ns.getD 5 "") ot))[0]?=some (e.1,rootA e.2 (ns.getD 5 "") ot):=List.getElem?_set_self (by omega);have hfit:=trV_fit nf2 5 0 (rootA e.2 (ns.getD 5 "") ot) (by rw[List.getElem?_map,hE0];rfl) (Nat.le_add_left _ _);have hsz:szT 5 (trV 5 ((E.set 0 (e.1,rootA e.2 (ns.getD 5 "") ot)).map (·.2)) 0)<=many + 2:=by
  rw[trV_siz]
  have:=nf2.on.siz 5
  rw[List.length_map,List.length_set]at this;omega
 have g2:Gr M (M1.set (e.1 + 1) (ndD e.1 (rootA e.2 (ns.getD 5 "") ot))):=g1.set (by omega) _;exact row_w 5 k _ jN _ 0 _ R2 nf2 hE0 (Nat.le_add_left _ _) (Nat.zero_le _) (by rw[List.length_set];omega) fun M3 g3=>q _ _ (g2.trans g3) hfit hsz
end
end Law
namespace Law
open PySem L3
section
variable {srt:List D->Option (List D)}
structure Rule where
 a:List Ask
 b:List Ask
 ns:List Str
noncomputable def ruleD (r:Rule):D:=.tup [.tup (r.a.map askD),.tup (r.b.map askD),.tup (r.ns.map .str)]
structure Rule.Ok (r:Rule) (as vs:List Str):Prop where
 a:∀ x∈r.a,x.Ok as vs
 b:∀ x∈r.b,x.Ok as vs
 la:r.a.length<=100
 lb:r.b.length<=100
 ln:r.ns.length<=100
noncomputable def sameB (ps qs:List (Str×Str))(ns:List Str):Bool:=ns.all fun n=>valV ps n==valV qs n
noncomputable def isGr (o s:Say)(r:Rule):Bool:=meetA r.a o.ps&&sameB s.ps o.ps r.ns
theorem same_w (k:Nat)(M:MH)(ps qs:List (Str×Str))(ns:List Str)(hn:ns.length<=1000){Q:D->MH->Prop}(q:∀ M',Gr M M'->Q (.bl (sameB ps qs ns)) M'):W ((cx srt (k + 2)).fn "have_same_values" [.tup (ps.map prD),.tup (qs.map prD),.tup (ns.map .str)]) M Q:=by
 have big:=line_big;rw[f_have_same_values,wf,b_have_same_values];walk_at "wq";refine⟨by rw[List.length_map];omega,?_⟩;refine w_compI (fun j ys M'=>M'=M/\ys=((ns.take j).map fun n=>valV ps n==valV qs n).map D.bl) ⟨rfl,rfl⟩ (fun _ _ _ _=>trivial) ?_ ?_
 ·rintro j d ys M' hd ⟨rfl,rfl⟩
  rw[List.getElem?_map]at hd;obtain⟨n,hn,rfl⟩:=Option.map_eq_some_iff.mp hd;walk_at "wq";refine valueIn_w k M' ps n ?_;walk_at "wq";refine valueIn_w k M' qs n ?_;walk_at "wq";rw[List.take_add_one,hn];simp
 ·rintro ys M' ⟨rfl,rfl⟩
  rw[List.length_map,List.take_length];walk_at "wq";refine⟨_,get_new _ _,_,mapM_bools _,?_⟩;rw[List.all_map];exact q _ (Gr.app _ _)
theorem isGreater_w (k:Nat)(M:MH)(o s:Say)(r:Rule)(hl:o.ps.length<=1000)(ha:r.a.length<=1000)(hn:r.ns.length<=1000){Q:D->MH->Prop}(q:∀ M',Gr M M'->Q (.bl (isGr o s r)) M'):W ((cx srt (k + 4)).fn "is_greater" [sayD o,sayD s,ruleD r]) M Q:=by
 rw[f_is_greater,wf,b_is_greater];unfold sayD ruleD;walk_at "wq";refine meetsAll_w k M r.a o.ps ha hl fun M1 g1=>?_;walk_at "wq";unfold isGr at q;refine⟨fun h=>?_,fun h=>?_⟩
 ·rw[h]at q
  refine same_w (k + 1) M1 s.ps o.ps r.ns hn fun M2 g2=>?_;exact q _ (g1.trans g2)
 ·rw[h]at q
  exact q _ g1
noncomputable def toldL (s:Say)(qs:List Qt)(t:Int):List Int:=(qs.filter fun q=>forceB q t&&meetA q.xs s.ps).map (·.n)
noncomputable def heavL (s:Say)(ss:List Say)(t:Int):List Say:=ss.filter fun o=>decide (s.w < o.w)&&standsB o t
noncomputable def greatL (s:Say)(hs:List Say)(r:Rule):List Int:=(hs.filter fun o=>isGr o s r).map (·.n)
theorem allI_of {α:Type}(f:α->Int)(xs:List α):allI (xs.map fun x=>D.int (f x))=some (xs.map f):=by
 have:=allI_map (xs.map f)
 rw[List.map_map]at this;exact this
noncomputable def firstG (s:Say)(hs:List Say):Nat->List Rule->D
 | _,[]=>.non
 | k,r::rs=>if (meetA r.b s.ps&&!(greatL s hs r).isEmpty)=true then .tup [.str "greater",.int k,.int (minI (greatL s hs r))] else firstG s hs (k + 1) rs
noncomputable def groundV (s:Say)(ss:List Say)(qs:List Qt)(rs:List Rule)(t:Int):D:=if (toldL s qs t).isEmpty=true then firstG s (heavL s ss t) 0 rs else .tup [.str "told",.int (minI (toldL s qs t))]
inductive GrV (s:Say) (ss:List Say) (qs:List Qt) (rs:List Rule) (t:Int):D->Prop
 | non:GrV s ss qs rs t .non
 | told (q:Qt):q∈qs->forceB q t=true->meetA q.xs s.ps=true->GrV s ss qs rs t (.tup [.str "told",.int q.n])
 | great (k:Nat) (r:Rule) (o:Say):rs[k]?=some r->o∈ss->s.w < o.w->standsB o t=true->meetA r.b s.ps=true->isGr o s r=true->GrV s ss qs rs t (.tup [.str "greater",.int k,.int o.n])
theorem ground_w (k:Nat)(M:MH)(s:Say)(js jq jr:Nat)(ss:List Say)(qs:List Qt)(rs:List Rule)(t:Int)(ls:ss.length<=1000)(lq:qs.length<=1000)(lp:s.ps.length<=1000)(lo:∀ o∈ss,o.ps.length<=1000)(lx:∀ q∈qs,q.xs.length<=1000)(lr:∀ r∈rs,r.a.length<=1000/\r.b.length<=1000/\r.ns.length<=1000)
  (hs:M[js]?=some (.lst (ss.map sayD))) (hq:M[jq]?=some (.lst (qs.map qtD))) (hr:M[jr]?=some (.lst (rs.map ruleD))) {Q:D->MH->Prop}
  (q:∀ M',Gr M M'->Q (groundV s ss qs rs t) M'):W ((cx srt (k + 5)).fn "ground" [sayD s,.ob js,.ob jq,.ob jr,.int t]) M Q:=by
 have big:=line_big;have eS:sayD s=.tup [.int s.n,.tup (s.ps.map prD),.int s.w,.int s.came,optD s.gone]:=rfl;rw[f_ground,wf,b_ground];walk_at "wq";refine⟨_,hq,by rw[List.length_map];omega,?_⟩;refine w_compI (fun j ys M'=>M'=M/\ys=((qs.take j).filter fun q=>forceB q t).map qtD) ⟨rfl,rfl⟩ (fun _ _ _ h=>by rw[h.1];exact hq) ?_ ?_
 ·rintro j d ys M' hd ⟨rfl,rfl⟩
  rw[List.getElem?_map]at hd;obtain⟨x,hx,rfl⟩:=Option.map_eq_some_iff.mp hd;rw[List.take_add_one,hx,List.filter_append,List.map_append];walk_at "wq";refine inForce_w (k + 3) M' x t ?_;walk_at "wq";refine⟨fun h=>?_,fun h=>?_⟩ <;> simp[h]
 ·rintro ys M' ⟨rfl,rfl⟩
  rw[List.length_map,List.take_length];generalize hF:qs.filter (fun q=>forceB q t)=F;have hFl:F.length<=1000:=by rw[<- hF];exact Nat.le_trans (List.length_filter_le _ _) lq
  generalize hM1:M'++[MO.lst (F.map qtD)]=M1;have g1:Gr M' M1:=hM1 ▸ Gr.app _ _;have h1:M1[M'.length]?=some (.lst (F.map qtD)):=hM1 ▸ get_new _ _;clear hM1;generalize M'.length=j1 at h1 ⊢;walk_at "wq";refine⟨_,h1,by rw[List.length_map];omega,?_⟩;refine w_compI (fun j ys M2=>Gr M1 M2/\ys=((F.take j).filter fun q=>meetA q.xs s.ps).map fun q=>D.int q.n) ⟨Gr.refl,rfl⟩ (fun _ _ _ h=>h.1.keep _ _ h1) ?_ ?_
  ·rintro j d ys M2 hd ⟨g2,rfl⟩
   rw[List.getElem?_map]at hd;obtain⟨x,hx,rfl⟩:=Option.map_eq_some_iff.mp hd;have hxq:x∈qs:=by
    have:=List.mem_of_getElem? hx
    rw[<- hF]at this;exact(List.mem_filter.mp this).1
   rw[List.take_add_one,hx,List.filter_append,List.map_append,eS];unfold qtD;walk_at "wq";refine meetsAll_w (k + 1) M2 x.xs s.ps (lx x hxq) lp fun M3 g3=>?_;walk_at "wq";refine⟨fun h=>⟨g2.trans g3,?_⟩,fun h=>⟨g2.trans g3,?_⟩⟩ <;> simp[h]
  ·rintro ys M2 ⟨g2,rfl⟩
   rw[List.length_map,List.take_length];generalize hT:F.filter (fun q=>meetA q.xs s.ps)=T;generalize hM3:M2++[MO.lst (T.map fun q=>D.int q.n)]=M3;have g3:Gr M1 M3:=hM3 ▸ g2.snoc _;have h3:M3[M2.length]?=some (.lst (T.map fun q=>D.int q.n)):=hM3 ▸ get_new _ _;clear hM3;generalize M2.length=j2 at h3 ⊢;have g3':=g1.trans g3;have hTold:toldL s qs t=T.map (·.n):=by
    unfold toldL;rw[<- hT,<- hF,List.filter_filter];congr 1;refine List.filter_congr fun x _=>?_;rw[Bool.and_comm]
   walk_at "wq";refine⟨_,h3,?_⟩;walk_at "wq";refine⟨fun h=>?_,fun h=>?_⟩
   ·have hne:T≠[]:=fun z=>by rw[z]at h;cases h
    walk_at "wq";refine⟨_,h3,_,allI_of _ _,fun z=>hne (List.map_eq_nil_iff.mp z),by walk_at "o",?_⟩;have e:groundV s ss qs rs t=.tup [.str "told",.int (minI (T.map (·.n)))]:=by
     unfold groundV;rw[hTold,if_neg (by simpa using hne)]
    have:=q _ g3'
    rw[e]at this;exact this
   ·have hT0:T=[]:=by
     cases T with
     | nil=>rfl
     | cons _ _=>cases h
    have eg:groundV s ss qs rs t=firstG s (heavL s ss t) 0 rs:=by
     unfold groundV;rw[hTold,hT0];rfl
    rw[eg]at q;clear eg hTold h3 h1;walk_at "wq";refine⟨_,g3'.keep _ _ hs,by rw[List.length_map];omega,?_⟩;refine w_compI (fun j ys M4=>M4=M3/\ys=(heavL s (ss.take j) t).map sayD) ⟨rfl,rfl⟩ (fun _ _ _ h=>by rw[h.1];exact g3'.keep _ _ hs) ?_ ?_
    ·rintro j d ys M4 hd ⟨rfl,rfl⟩
     rw[List.getElem?_map]at hd;obtain⟨x,hx,rfl⟩:=Option.map_eq_some_iff.mp hd;have eX:sayD x=.tup [.int x.n,.tup (x.ps.map prD),.int x.w,.int x.came,optD x.gone]:=rfl;unfold heavL;rw[List.take_add_one,hx,List.filter_append,List.map_append,eS];walk_at "wq";rw[eX];walk_at "wq";rw[<- eX];refine⟨fun h=>?_,fun h=>?_⟩
     ·refine stands_w (k + 3) M4 x t ?_
      walk_at "wq";refine⟨fun h2=>?_,fun h2=>?_⟩ <;> simp[h,h2,eX]
     ·simp[h]
    ·rintro ys M4 ⟨rfl,rfl⟩
     rw[List.length_map,List.take_length];generalize hH:heavL s ss t=HL at q ⊢;have hHs:∀ o∈HL,o∈ss:=fun o ho=>by
      rw[<- hH]at ho;exact(List.mem_filter.mp ho).1
     have hHl:HL.length<=1000:=by rw[<- hH];exact Nat.le_trans (List.length_filter_le _ _) ls
     generalize hM5:M4++[MO.lst (HL.map sayD)]=M5;have g5:Gr M4 M5:=hM5 ▸ Gr.app _ _;have h5:M5[M4.length]?=some (.lst (HL.map sayD)):=hM5 ▸ get_new _ _;clear hM5;generalize M4.length=j4 at h5 ⊢;have g5':=g3'.trans g5;walk_at "wq";refine⟨_,g5'.keep _ _ hr,?_⟩;refine w_loopP (fun n ρ M6=>Gr M5 M6/\firstG s HL 0 rs=firstG s HL n (rs.drop n)/\∃ x8 x9 x10,ρ=[some (sayD s),some (.ob js),some (.ob jq),some (.ob jr),some (.int t),some (.ob j1),some (.ob j2),some (.ob j4),x8,x9,x10]) ⟨Gr.refl,rfl,none,none,none,rfl⟩ (fun _ _ _ h=>h.1.keep _ _ (g5'.keep _ _ hr)) ?_ ?_
     ·rintro n d ρ M6 hd ⟨g6,ef,x8,x9,x10,rfl⟩
      obtain⟨x,hx,rfl⟩:=enumG hd;rw[List.getElem?_map]at hx;obtain⟨r,hrr,rfl⟩:=Option.map_eq_some_iff.mp hx;obtain⟨hlt,hrg⟩:=List.getElem?_eq_some_iff.mp hrr;have hrm:=lr r (List.mem_of_getElem? hrr);rw[List.drop_eq_getElem_cons hlt,hrg]at ef;have eR:ruleD r=.tup [.tup (r.a.map askD),.tup (r.b.map askD),.tup (r.ns.map .str)]:=rfl;refine⟨_,_,rfl,?_⟩;walk_at "wq";rw[eR];walk_at "wq";rw[eS];walk_at "wq";rw[<- eS];refine meetsAll_w (k + 1) M6 r.b s.ps hrm.2.1 lp fun M7 g7=>?_;have g7':=g6.trans g7;walk_at "wq";refine⟨fun h=>?_,fun h=>?_⟩
      ·walk_at "wq"
       refine⟨_,g7'.keep _ _ h5,by rw[List.length_map];omega,?_⟩;refine w_compI (fun j ys M8=>Gr M7 M8/\ys=(greatL s (HL.take j) r).map D.int) ⟨Gr.refl,rfl⟩ (fun _ _ _ h=>(g7'.trans h.1).keep _ _ h5) ?_ ?_
       ·rintro j d ys M8 hd ⟨g8,rfl⟩
        rw[List.getElem?_map]at hd;obtain⟨o,ho,rfl⟩:=Option.map_eq_some_iff.mp hd;have eO:sayD o=.tup [.int o.n,.tup (o.ps.map prD),.int o.w,.int o.came,optD o.gone]:=rfl;unfold greatL;rw[List.take_add_one,ho,List.filter_append,List.map_append,List.map_append];walk_at "wq";rw[<- eR];refine isGreater_w k M8 o s r (lo o (hHs o (List.mem_of_getElem? ho))) hrm.1 hrm.2.2 fun M9 g9=>?_;walk_at "wq";refine⟨fun h2=>?_,fun h2=>⟨g8.trans g9,?_⟩⟩
        ·rw[eO]
         walk_at "wq";exact⟨g8.trans g9,by simp[h2]⟩
        ·simp[h2]
       ·rintro ys M8 ⟨g8,rfl⟩
        rw[List.length_map,List.take_length];generalize hG:greatL s HL r=GL;generalize hM9:M8++[MO.lst (GL.map D.int)]=M9;have g9:Gr M5 M9:=hM9 ▸ (g7'.trans g8).snoc _;have h9:M9[M8.length]?=some (.lst (GL.map D.int)):=hM9 ▸ get_new _ _;clear hM9;generalize M8.length=j8 at h9 ⊢;walk_at "wq";refine⟨_,h9,?_⟩;walk_at "wq";refine⟨fun h2=>?_,fun h2=>⟨g9,?_,_,_,_,rfl⟩⟩
        ·have hne:GL≠[]:=fun z=>by rw[z]at h2;cases h2
         walk_at "wq";refine⟨_,h9,_,allI_map _,hne,by walk_at "o",?_⟩;have e:firstG s HL 0 rs=.tup [.str "greater",.int n,.int (minI GL)]:=by
          rw[ef];unfold firstG;rw[hG,if_pos (by rw[h];simpa using hne)]
         have:=q _ (g5'.trans g9)
         rw[e]at this;exact this
        ·have hG0:GL=[]:=by
          cases GL with
          | nil=>rfl
          | cons _ _=>cases h2
         rw[ef]
         conv=>lhs;unfold firstG
         rw[hG,hG0,if_neg (by simp)]
      ·refine⟨g7',?_,_,_,_,rfl⟩
       rw[ef]
       conv=>lhs;unfold firstG
       rw[h,if_neg (by simp)]
     ·rintro ρ M6 ⟨g6,ef,x8,x9,x10,rfl⟩
      rw[enumN,List.length_map,List.drop_length]at ef;have e:firstG s HL 0 rs=.non:=ef;walk_at "wq"
      have:=q _ (g5'.trans g6)
      rw[e]at this;exact this
end
end Law
namespace Law
open PySem L3
section
variable {srt:List D->Option (List D)}
theorem rules_w (k:Nat)(sc:List Int)(i:Int)(m:Nat)(M:MH){d:D}{as vs ns:List Str}{ot:Str}(P:Pool M d as vs ns ot){Q:D->MH->Prop}(h0:0<=i)(h1:i<=50000)(hm:m<=100)
  (q:∀ (rs:List Rule) (j:Nat) (M':MH),(∀ r∈rs,r.Ok as vs)->rs.length=m->Gr M M'->M.length<=j->M'[j]?=some (.lst (rs.map ruleD))->Q (.ob j) M') :
  W ((cx srt (k + 5)).fn "_law_rules" [.fl (sc.map .int),.int i,.int m,d]) M Q:=by
 have big:=line_big;have hn6:=P.n6;rw[f__law_rules,wf,b__law_rules];walk_at "wq";refine⟨by walk_at "o",⟨by walk_at "o",by walk_at "o"⟩,?_⟩;refine w_loop (fun n ρ M'=>Gr M M'/\(∃ rs:List Rule,M'[M.length]?=some (.lst (rs.map ruleD))/\(∀ r∈rs,r.Ok as vs)/\rs.length=n)/\∃ x5 x6 x7 x8 x9,ρ=[some (.fl (sc.map .int)),some (.int i),some (.int m),some d,some (.ob M.length),x5,x6,x7,x8,x9])
  ⟨Gr.app _ _,⟨[],get_new _ _,by simp,rfl⟩,none,none,none,none,none,rfl⟩ (fun _ _ _ _=>trivial) ?_ ?_
 ·rintro n e ρ M1 hd ⟨g,⟨rs,hrs,hok,hlen⟩,x5,x6,x7,x8,x9,rfl⟩
  obtain⟨rfl,hn⟩:=rng_get hd;have hnm:n < m:=by walk_at "o"
  obtain⟨ia,iv,iN,hdd,hia,hiv,hiN⟩:=(P.keep g).is;walk_at "wq";refine⟨.inl ⟨by walk_at "o",by walk_at "o"⟩,pick_w (k:=k + 2) sc _ _ M1 (by walk_at "o") (by walk_at "o") (by walk_at "o") ?_⟩;generalize hat:i + 20 * (0 + (n:Int))=at_;have hat0:0<=at_:=by walk_at "o"
  have hat1:at_<=60000:=by walk_at "o"
  have c0:=pick_lo sc (at_ + 16) (show (0:Int) < 6 by walk_at "o");generalize pickV sc (at_ + 16) 6=c at *;walk_at "wq";rw[hdd];walk_at "wq";refine⟨_,hiN,?_⟩;rw[cut_lo _ c0];refine⟨_,(Gr.app _ _).keep _ _ hiN,_,(Gr.app _ _).keep _ _ (get_new _ _),_,get_new _ _,?_⟩;rw[cut_hi _ c0,<- List.map_drop,<- List.map_take,<- List.map_append];have hrl:(ns.drop c.toNat++ns.take c.toNat).length=6:=by rw[List.length_append,List.length_drop,List.length_take];omega
  refine⟨by rw[<- List.length_append,<- List.map_append,List.length_map,hrl];omega,?_⟩;generalize ns.drop c.toNat++ns.take c.toNat=rn at hrl ⊢;generalize hM2:M1++[MO.lst ((ns.drop c.toNat).map D.str)]++[MO.lst ((ns.take c.toNat).map D.str)]=M2;have g2:Gr M1 M2:=hM2 ▸ (Gr.app _ _).snoc _;clear hM2;generalize hM3:M2++[MO.lst (rn.map D.str)]=M3;have g3:Gr M1 M3:=hM3 ▸ g2.snoc _;have h3:M3[M2.length]?=some (.lst (rn.map D.str)):=hM3 ▸ get_new _ _;clear hM3;generalize M2.length=j3 at h3 ⊢;refine pick_w (k:=k + 2) sc _ _ M3 (by walk_at "o") (by walk_at "o") (by walk_at "o") ?_;have p0:=pick_lo sc (at_ + 17) (show (0:Int) < 3 by walk_at "o");generalize pickV sc (at_ + 17) 3=p at *;walk_at "wq";refine⟨_,h3,?_⟩;rw[cut_hi _ p0,<- List.map_take];have hsl:(rn.take p.toNat).length<=100:=by rw[List.length_take];omega
  generalize rn.take p.toNat=sn at hsl ⊢;generalize hM4:M3++[MO.lst (sn.map D.str)]=M4;have g4:Gr M1 M4:=hM4 ▸ g3.snoc _;have h4:M4[M3.length]?=some (.lst (sn.map D.str)):=hM4 ▸ get_new _ _;clear hM4;generalize M3.length=j4 at h4 ⊢;refine pick_w (k:=k + 2) sc _ _ M4 (by walk_at "o") (by walk_at "o") (by walk_at "o") ?_;obtain⟨a,ha,ha3⟩:=pick_nat sc (at_ + 18) (m:=3) (by walk_at "o");rw[show ((3:Nat):Int)=3 from rfl]at ha;rw[ha];walk_at "wq";rw[<- hdd];refine askings_w (k:=k) sc _ a M4 (P.keep (g.trans g4)) (by walk_at "o") (by walk_at "o") (by walk_at "o") fun xs M5 hxs hxl g5=>?_;walk_at "wq";refine⟨_,(g4.trans g5).keep _ _ hrs,pick_w (k:=k + 2) sc _ _ M5 (by walk_at "o") (by walk_at "o") (by walk_at "o") ?_⟩;obtain⟨b,hb,hb3⟩:=pick_nat sc (at_ + 19) (m:=3) (by walk_at "o");rw[show ((3:Nat):Int)=3 from rfl]at hb;rw[hb];walk_at "wq";refine askings_w (k:=k) sc _ b M5 (P.keep ((g.trans g4).trans g5)) (by walk_at "o") (by walk_at "o") (by walk_at "o") fun ys M6 hys hyl g6=>?_;have g6':=(g4.trans g5).trans g6;walk_at "wq";refine⟨_,(g5.trans g6).keep _ _ h4,by walk_at "o",_,g6'.keep _ _ hrs,by rw[List.length_map];omega,(g.trans g6').set (Nat.le_refl _) _,?_,_,_,_,_,_,rfl⟩;refine⟨rs++[⟨xs,ys,sn⟩],?_,fun r hr=>?_,by rw[List.length_append,hlen];rfl⟩
  ·rw[set_get (g6'.keep _ _ hrs),List.map_append];rfl
  ·rcases List.mem_append.mp hr with h | h
   ·exact hok r h
   ·rw[List.mem_singleton.mp h]
    exact⟨hxs,hys,by show xs.length<=100;omega,by show ys.length<=100;omega,hsl⟩
 ·rintro ρ M1 ⟨g,⟨rs,hrs,hok,hlen⟩,x5,x6,x7,x8,x9,rfl⟩
  rw[rng_len]at hlen;walk_at "wq";exact q rs _ _ hok (by walk_at "o") g (Nat.le_refl _) hrs
end
end Law
namespace Law
open PySem L3
section
variable {srt:List D->Option (List D)}
noncomputable def gkK (g:Gp):List (List Ky):=[g.1.map .inl,g.2.map .inr]
theorem kys_ints:∀ p:List Int,kysD (p.map .int)=some (p.map .inl)
 | []=>rfl
 | i::p=>by rw[List.map_cons,kysD,kys_ints p];rfl
theorem kys_strs:∀ p:List Str,kysD (p.map .str)=some (p.map .inr)
 | []=>rfl
 | i::p=>by rw[List.map_cons,kysD,kys_strs p];rfl
theorem kyT_g (g:Gp):kyT (gkD g)=some (gkK g):=by
 show kysT [.tup (g.1.map .int),.tup (g.2.map .str)]=_;simp only[kysT,kyP,kys_ints,kys_strs];rfl
theorem keyD_g (g:Gp):keyD2 (gkK g)=gkD g:=by
 unfold keyD2 gkK gkD plD;simp only[List.map_cons,List.map_nil,List.map_map];rfl
theorem gkK_inj {g h:Gp}(e:gkK g=gkK h):g=h:=by
 unfold gkK at e;injection e with e1 e2
 injection e2 with e2 _
 have h1:=(List.map_inj_right (fun a b h=>Sum.inl.inj h)).mp e1;have h2:=(List.map_inj_right (fun a b h=>Sum.inr.inj h)).mp e2;exact Prod.ext h1 h2
noncomputable abbrev En:=Nat×Gp×List Int
noncomputable def kvE (E:List En):List (List (List Ky)×D):=E.map fun e=>(gkK e.2.1,.ob e.1)
theorem nd_inj {α β:Type}{f:α->β}:∀ {l:List α} {x y:α},(l.map f).Nodup->x∈l->y∈l->f x=f y->x=y
 | a::l,x,y,h,hx,hy,e=>by
  rw[List.map_cons,List.nodup_cons]at h;rcases List.mem_cons.mp hx with e1 | h1
  ·rcases List.mem_cons.mp hy with e2 | h2
   ·rw[e1,e2]
   ·exact absurd (by rw[<- e1,e];exact List.mem_map_of_mem h2) h.1
  ·rcases List.mem_cons.mp hy with e2 | h2
   ·exact absurd (by rw[<- e2,<- e];exact List.mem_map_of_mem h1) h.1
   ·exact nd_inj h.2 h1 h2 e
theorem tk_some:∀ {E:List En} {e:En},(E.map (·.2.1)).Nodup->e∈E->tkGet (kvE E) (gkK e.2.1)=some (.ob e.1)
 | a::E,e,h,he=>by
  rw[List.map_cons,List.nodup_cons]at h;unfold tkGet kvE;rw[List.map_cons,List.find?_cons];rcases List.mem_cons.mp he with rfl | he
  ·simp
  ·have hne:¬ gkK a.2.1=gkK e.2.1:=fun z=>h.1 (gkK_inj z ▸ List.mem_map_of_mem he)
   rw[decide_eq_false hne];exact tk_some h.2 he
theorem tk_none {E:List En}{g:Gp}(h:g ∉ E.map (·.2.1)):tkGet (kvE E) (gkK g)=none:=by
 unfold tkGet kvE;rw[List.find?_eq_none.mpr]
 ·rfl
 ·intro x hx
  obtain⟨e,he,rfl⟩:=List.mem_map.mp hx
  have:¬ gkK e.2.1=gkK g:=fun z=>h (gkK_inj z ▸ List.mem_map_of_mem he)
  simpa using this
theorem tk_put {E:List En}{g:Gp}(h:g ∉ E.map (·.2.1))(j:Nat):tkPut (kvE E) (gkK g) (.ob j)=kvE (E++[(j,g,[])]):=by
 unfold tkPut;rw[if_neg]
 ·unfold kvE
  rw[List.map_append];rfl
 ·rw[List.any_eq_true]
  rintro ⟨x,hx,hd⟩;obtain⟨e,he,rfl⟩:=List.mem_map.mp hx;exact h (gkK_inj (of_decide_eq_true hd) ▸ List.mem_map_of_mem he)
theorem sdf_some {kvs:List (List (List Ky)×D)}{q:List (List Ky)}{d v:D}{k:Nat}{M:MH}{Q:D->MH->Prop}(h:tkGet kvs q=some d)(hq:Q d M):W (sdfD k kvs q v) M Q:=by
 unfold sdfD;rw[h];exact(w_pure _ _ _).mpr hq
theorem sdf_none {kvs:List (List (List Ky)×D)}{q:List (List Ky)}{v:D}{k:Nat}{M:MH}{o:MO}{Q:D->MH->Prop}(h:tkGet kvs q=none)(ho:M[k]?=some o)(hq:Q v (M.set k (.dtt (tkPut kvs q v)))):W (sdfD k kvs q v) M Q:=by
 unfold sdfD;rw[h];dsimp only;rw[w_bind,w_putM];exact⟨lt_of_get ho,(w_pure _ _ _).mpr hq⟩
noncomputable abbrev Pr:=Gp×Int
noncomputable def numsOf (P:List Pr)(g:Gp):List Int:=(P.filter fun p=>decide (p.1=g)).map (·.2)
theorem nums_app (P:List Pr)(g h:Gp)(n:Int):numsOf (P++[(h,n)]) g=numsOf P g++(if h=g then [n] else []):=by
 unfold numsOf;rw[List.filter_append,List.map_append];congr 1;by_cases e:h=g
 ·rw[if_pos e];simp[e]
 ·rw[if_neg e];simp[e]
structure DM (M:MH) (jd:Nat) (E:List En) (P:List Pr):Prop where
 d:M[jd]?=some (.dtt (kvE E))
 o:∀ e∈E,jd < e.1/\M[e.1]?=some (.lst (e.2.2.map .int))
 nd:(E.map (·.2.1)).Nodup
 nj:(E.map (·.1)).Nodup
 ks:∀ g,g∈E.map (·.2.1) ↔ g∈P.map (·.1)
 vs:∀ e∈E,e.2.2=numsOf P e.2.1
 len:E.length<=P.length
theorem DM.keep {M M':MH}{jd:Nat}{E:List En}{P:List Pr}(h:DM M jd E P)(g:Gr M M'):DM M' jd E P:=⟨g.keep _ _ h.d,fun e he=>⟨(h.o e he).1,g.keep _ _ (h.o e he).2⟩,h.nd,h.nj,h.ks,h.vs,h.len⟩
theorem nums_len (P:List Pr)(g:Gp):(numsOf P g).length<=P.length:=by
 unfold numsOf;rw[List.length_map];exact List.length_filter_le _ _
theorem put_w {M:MH}{jd:Nat}{E:List En}{P:List Pr}(h:DM M jd E P)(g:Gp)(n:Int)(hP:P.length<=1000){F:D->MH->Prop}
  (q:∀ E' M',DM M' jd E' (P++[(g,n)])->M.length<=M'.length->(∀ (i:Nat) (o:MO),M[i]?=some o->i≠jd->(∀ e∈E,e.1≠i)->M'[i]?=some o)->(∀ e∈E',(∃ e0∈E,e0.1=e.1)\/e.1=M.length)->F .non M') :
  W (sdfD jd (kvE E) (gkK g) (.ob M.length)) (M++[.lst []]) fun x M1=>∃ ds,M1[jd]?=some (.dtt ds)/\∃ j,x=.ob j/\∃ l,M1[j]?=some (.lst l)/\l.length < sizeLine/\F .non (M1.set j (.lst (l++[.int n]))):=by
 have big:=line_big;have hlt:=lt_of_get h.d;have keep:=(Gr.app M [MO.lst []]).keep;by_cases hg:g∈E.map (·.2.1)
 ·obtain⟨e,he,rfl⟩:=List.mem_map.mp hg
  obtain⟨o1,o2⟩:=h.o e he;have hel:=lt_of_get o2;have o2':=keep _ _ o2;have hvl:e.2.2.length<=1000:=by rw[h.vs e he];exact Nat.le_trans (nums_len _ _) hP
  refine sdf_some (tk_some h.nd he) ⟨_,keep _ _ h.d,_,rfl,_,o2',by rw[List.length_map];omega,?_⟩;have inj:∀ x∈E,x.2.1=e.2.1->x=e:=fun x hx z=>nd_inj h.nd hx he z;have injj:∀ x∈E,x.1=e.1->x=e:=fun x hx z=>nd_inj h.nj hx he z;let f:En->En:=fun x=>if x.2.1=e.2.1 then (x.1,x.2.1,x.2.2++[n]) else x
  have f1:∀ x,(f x).1=x.1:=fun x=>by show (if _ then _ else _:En).1=_;split <;> rfl
  have f2:∀ x,(f x).2.1=x.2.1:=fun x=>by show (if _ then _ else _:En).2.1=_;split <;> rfl
  have m1:(E.map f).map (·.1)=E.map (·.1):=by rw[List.map_map];exact List.map_congr_left fun x _=>f1 x
  have m2:(E.map f).map (·.2.1)=E.map (·.2.1):=by rw[List.map_map];exact List.map_congr_left fun x _=>f2 x
  refine q (E.map f) _ ⟨?_,fun x hx=>?_,by rw[m2];exact h.nd,by rw[m1];exact h.nj,fun z=>?_,fun x hx=>?_,?_⟩ ?_ (fun i o ho hi hE=>?_) fun x hx=>?_
  ·rw[List.getElem?_set_ne (by omega),keep _ _ h.d]
   unfold kvE;rw[List.map_map];congr 2;exact List.map_congr_left fun x _=>by show _=(gkK (f x).2.1,D.ob (f x).1);rw[f1,f2]
  ·obtain⟨y,hy,rfl⟩:=List.mem_map.mp hx
   rw[f1];obtain⟨p1,p2⟩:=h.o y hy;refine⟨p1,?_⟩;by_cases z:y.2.1=e.2.1
   ·have:=inj y hy z
    subst this;rw[set_get o2'];show _=some (MO.lst ((if y.2.1=y.2.1 then (y.1,y.2.1,y.2.2++[n]) else y:En).2.2.map D.int));rw[if_pos rfl,List.map_append];rfl
   ·rw[List.getElem?_set_ne (fun w=>z (by rw[injj y hy w.symm])),keep _ _ p2]
    show _=some (MO.lst ((if y.2.1=e.2.1 then (y.1,y.2.1,y.2.2++[n]) else y:En).2.2.map D.int));rw[if_neg z]
  ·rw[m2,List.map_append]
   refine(h.ks z).trans ⟨fun w=>List.mem_append_left _ w,fun w=>?_⟩;rcases List.mem_append.mp w with w | w
   ·exact w
   ·have:z=e.2.1:=by simpa using w
    rw[this];exact(h.ks _).mp hg
  ·obtain⟨y,hy,rfl⟩:=List.mem_map.mp hx
   rw[f2,nums_app,<- h.vs y hy];show (if y.2.1=e.2.1 then (y.1,y.2.1,y.2.2++[n]) else y:En).2.2=_;by_cases z:y.2.1=e.2.1
   ·rw[if_pos z,if_pos z.symm]
   ·rw[if_neg z,if_neg (Ne.symm z),List.append_nil]
  ·rw[List.length_map,List.length_append]
   exact Nat.le_succ_of_le h.len
  ·rw[List.length_set,List.length_append]
   exact Nat.le_succ _
  ·rw[List.getElem?_set_ne (hE e he)]
   exact keep _ _ ho
  ·obtain⟨y,hy,rfl⟩:=List.mem_map.mp hx
   exact .inl ⟨y,hy,(f1 y).symm⟩
 ·refine sdf_none (tk_none hg) (keep _ _ h.d) ?_
  rw[tk_put hg];have hl:((M++[MO.lst []]).set jd (.dtt (kvE (E++[(M.length,g,[])]))))[M.length]?=some (.lst []):=by
   rw[List.getElem?_set_ne (by omega)];exact get_new _ _
  have lE:∀ e∈E,e.1 < M.length:=fun e he=>lt_of_get (h.o e he).2;refine⟨_,set_get (keep _ _ h.d),_,rfl,_,hl,by show 0 < _;omega,?_⟩;refine q (E++[(M.length,g,[n])]) _ ⟨?_,fun x hx=>?_,?_,?_,fun z=>?_,fun x hx=>?_,?_⟩ ?_ (fun i o ho hi hE=>?_) fun x hx=>?_
  ·rw[List.getElem?_set_ne (by omega),set_get (keep _ _ h.d)]
   unfold kvE;rw[List.map_append,List.map_append];rfl
  ·rcases List.mem_append.mp hx with hx | hx
   ·obtain⟨p1,p2⟩:=h.o x hx
    refine⟨p1,?_⟩;rw[List.getElem?_set_ne (by have:=lE x hx;omega),List.getElem?_set_ne (by omega)];exact keep _ _ p2
   ·rw[List.mem_singleton.mp hx]
    exact⟨hlt,set_get hl⟩
  ·rw[List.map_append,List.nodup_append]
   exact⟨h.nd,by simp,fun a ha b hb z=>hg (by rw[show g=b by simpa using (List.mem_singleton.mp hb).symm,<- z];exact ha)⟩
  ·rw[List.map_append,List.nodup_append]
   refine⟨h.nj,by simp,fun a ha b hb z=>?_⟩;obtain⟨x,hx,rfl⟩:=List.mem_map.mp ha
   have:=lE x hx
   have:b=M.length:=List.mem_singleton.mp hb
   omega
  ·rw[List.map_append,List.map_append,List.mem_append,List.mem_append,h.ks z]
   rfl
  ·rcases List.mem_append.mp hx with hx | hx
   ·have:¬ g=x.2.1:=fun z=>hg (z ▸ List.mem_map_of_mem hx)
    rw[nums_app,if_neg this,List.append_nil];exact h.vs x hx
   ·rw[List.mem_singleton.mp hx]
    show [n]=numsOf (P++[(g,n)]) g;rw[nums_app,if_pos rfl]
    have:numsOf P g=[]:=by
     unfold numsOf;rw[List.filter_eq_nil_iff.mpr]
     ·rfl
     ·intro p hp z
      exact hg ((h.ks g).mpr (by rw[<- of_decide_eq_true z];exact List.mem_map_of_mem hp))
    rw[this];rfl
  ·rw[List.length_append,List.length_append]
   exact Nat.add_le_add_right h.len _
  ·rw[List.length_set,List.length_set,List.length_append]
   exact Nat.le_succ _
  ·rw[List.getElem?_set_ne (by have:=lt_of_get ho;omega),List.getElem?_set_ne (by omega)]
   exact keep _ _ ho
  ·rcases List.mem_append.mp hx with hx | hx
   ·exact .inl ⟨x,hx,rfl⟩
   ·rw[List.mem_singleton.mp hx]
    exact .inr rfl
end
end Law
namespace Law
open PySem L3
section
variable {srt:List D->Option (List D)}
noncomputable def SortsI (srt:List D->Option (List D)):Prop:=∀ ns:List Int,ns.length < 64->srt (ns.map .int)=some ((sortI ns).map .int)
structure SortsG (srt:List D->Option (List D)) (lt:Gp->Gp->Bool):Prop where
 as:∀ a b,lt a b=true->lt b a=true->False
 so:∀ gs:List Gp,gs.length < 64->gs.Nodup->∃ gs':List Gp,srt (gs.map gkD)=some (gs'.map gkD)/\gs'.Perm gs/\gs'.Pairwise fun a b=>lt a b=true
structure IsMem (lt:Gp->Gp->Bool) (P:List Pr) (L:List (Gp×List Int)):Prop where
 up:(L.map (·.1)).Pairwise fun a b=>lt a b=true
 ks:∀ g,g∈L.map (·.1) ↔ g∈P.map (·.1)
 vs:∀ x∈L,x.2=sortI (numsOf P x.1)
theorem rise_ext {lt:Gp->Gp->Bool}(as:∀ a b,lt a b=true->lt b a=true->False):∀ {l l':List Gp},(l.Pairwise fun a b=>lt a b=true)->(l'.Pairwise fun a b=>lt a b=true)->(∀ a,a∈l ↔ a∈l')->l=l'
 | [],[],_,_,_=>rfl
 | [],b::r,_,_,h=>absurd ((h b).mpr List.mem_cons_self) (by simp)
 | a::r,[],_,_,h=>absurd ((h a).mp List.mem_cons_self) (by simp)
 | a::r,b::r',h1,h2,h=>by
  rw[List.pairwise_cons]at h1 h2;have e:a=b:=by
   rcases List.mem_cons.mp ((h a).mp List.mem_cons_self) with e | e
   ·exact e
   ·rcases List.mem_cons.mp ((h b).mpr List.mem_cons_self) with e' | e'
    ·exact e'.symm
    ·exact(as _ _ (h2.1 a e) (h1.1 b e')).elim
  subst e;have n1:a ∉ r:=fun z=>as a a (h1.1 a z) (h1.1 a z);have n2:a ∉ r':=fun z=>as a a (h2.1 a z) (h2.1 a z);rw[rise_ext as h1.2 h2.2 fun x=>⟨fun z=>?_,fun z=>?_⟩]
  ·rcases List.mem_cons.mp ((h x).mp (List.mem_cons_of_mem _ z)) with e | e
   ·exact absurd (e ▸ z) n1
   ·exact e
  ·rcases List.mem_cons.mp ((h x).mpr (List.mem_cons_of_mem _ z)) with e | e
   ·exact absurd (e ▸ z) n2
   ·exact e
theorem mem_uniq {lt:Gp->Gp->Bool}(as:∀ a b,lt a b=true->lt b a=true->False){P P':List Pr}{L L':List (Gp×List Int)}(h:IsMem lt P L)(h':IsMem lt P' L')(p:P.Perm P'):L=L':=by
 have e:L.map (·.1)=L'.map (·.1):=rise_ext as h.up h'.up fun g=>(h.ks g).trans (((p.map _).mem_iff).trans (h'.ks g).symm);have go:∀ (P:List Pr) (L:List (Gp×List Int)),(∀ x∈L,x.2=sortI (numsOf P x.1))->L=(L.map (·.1)).map fun g=>(g,sortI (numsOf P g)):=fun P L h=>by
  rw[List.map_map]
  have:L.map ((fun g=>(g,sortI (numsOf P g))) ∘ fun x=>x.1)=L.map id:=List.map_congr_left fun x hx=>Prod.ext rfl (h x hx).symm
  rw[this,List.map_id]
 rw[go P L h.vs,go P' L' h'.vs,e];refine List.map_congr_left fun g _=>Prod.ext rfl ?_;exact sortI_same ((p.filter _).map _)
noncomputable def rowR (r:En):D:=.tup [plD r.2.1.1,.tup (r.2.1.2.map .str),.ob r.1]
structure MemAt (M:MH) (j:Nat) (R:List En):Prop where
 l:M[j]?=some (.lst (R.map rowR))
 o:∀ r∈R,M[r.1]?=some (.lst (r.2.2.map .int))
theorem MemAt.keep {M M':MH}{j:Nat}{R:List En}(h:MemAt M j R)(g:Gr M M'):MemAt M' j R:=⟨g.keep _ _ h.l,fun r hr=>g.keep _ _ (h.o r hr)⟩
noncomputable def prOf (t:Tr)(s:Say):List Pr:=(groupsV t s.ps).map fun g=>(g,s.n)
noncomputable def prL (t:Tr)(st:List Say)(fo:List Qt)(rs:List Rule)(turn:Int)(l:List Say):List Pr:=(l.filter fun s=>isN (groundV s st fo rs turn)).flatMap (prOf t)
theorem prL_snoc (t:Tr)(st:List Say)(fo:List Qt)(rs:List Rule)(turn:Int)(l:List Say)(s:Say):prL t st fo rs turn (l++[s])=prL t st fo rs turn l++(if isN (groundV s st fo rs turn)=true then prOf t s else []):=by
 unfold prL;rw[List.filter_append,List.flatMap_append];congr 1;split
 ·rename_i h;simp[h]
 ·rename_i h;simp[h]
theorem prL_len {t:Tr}(hz:szT 5 t<=6)(st:List Say)(fo:List Qt)(rs:List Rule)(turn:Int):∀ l:List Say,(prL t st fo rs turn l).length<=6 * l.length
 | []=>Nat.zero_le _
 | s::l=>by
  have ih:=prL_len hz st fo rs turn l;have h1:(prOf t s).length<=6:=by
   unfold prOf groupsV;rw[List.length_map,List.length_map];exact Nat.le_trans (takenV_sz _ _ _) hz
  unfold prL at ih ⊢;rw[List.filter_cons,List.length_cons];split
  ·rw[List.flatMap_cons,List.length_append];omega
  ·omega
noncomputable def prsV (t:Tr)(ss:List Say)(qs:List Qt)(rs:List Rule)(turn:Int):List Pr:=prL t (ss.filter fun s=>standsB s turn) (qs.filter fun q=>forceB q turn) rs turn (ss.filter fun s=>standsB s turn)
theorem members_w {lt:Gp->Gp->Bool}(hG:SortsG srt lt)(hI:SortsI srt)(k:Nat)(M:MH)(t:Tr)(fit:Fit 5 t)(hz:szT 5 t<=6)(js jq jr:Nat)(ss:List Say)(qs:List Qt)(rs:List Rule)(turn:Int)(ls:ss.length<=5)(lq:qs.length<=1000)(lo:∀ o∈ss,o.ps.length<=1000)(lx:∀ q∈qs,q.xs.length<=1000)(lr:∀ r∈rs,r.a.length<=1000/\r.b.length<=1000/\r.ns.length<=1000)
  (hs:M[js]?=some (.lst (ss.map sayD))) (hq:M[jq]?=some (.lst (qs.map qtD))) (hr:M[jr]?=some (.lst (rs.map ruleD))) {Q:D->MH->Prop}
  (q:∀ (R:List En) (j:Nat) (M':MH),Gr M M'->MemAt M' j R->IsMem lt (prsV t ss qs rs turn) (R.map (·.2))->Q (.ob j) M'):W ((cx srt (k + 12)).fn "members" [trD t,.ob js,.ob jq,.ob jr,.int turn]) M Q:=by
 have big:=line_big;unfold prsV at q;rw[f_members,wf,b_members];walk_at "wq";refine⟨_,hs,by rw[List.length_map];omega,?_⟩;refine w_compI (fun j ys M'=>M'=M/\ys=((ss.take j).filter fun s=>standsB s turn).map sayD) ⟨rfl,rfl⟩ (fun _ _ _ h=>by rw[h.1];exact hs) ?_ ?_
 ·rintro j d ys M' hd ⟨rfl,rfl⟩
  rw[List.getElem?_map]at hd;obtain⟨x,hx,rfl⟩:=Option.map_eq_some_iff.mp hd;rw[List.take_add_one,hx,List.filter_append,List.map_append];walk_at "wq";refine stands_w (k + 10) M' x turn ?_;walk_at "wq";refine⟨fun h=>?_,fun h=>?_⟩ <;> simp[h]
 rintro ys M' ⟨rfl,rfl⟩;rw[List.length_map,List.take_length];generalize hF:ss.filter (fun s=>standsB s turn)=st at q ⊢;have stl:st.length<=5:=by rw[<- hF];exact Nat.le_trans (List.length_filter_le _ _) ls
 have sto:∀ o∈st,o.ps.length<=1000:=fun o ho=>lo o (List.mem_filter.mp (hF ▸ ho)).1;clear hF;generalize hM1:M'++[MO.lst (st.map sayD)]=M1;have g1:Gr M' M1:=hM1 ▸ Gr.app _ _;have h1:M1[M'.length]?=some (.lst (st.map sayD)):=hM1 ▸ get_new _ _;clear hM1;generalize M'.length=j1 at h1 ⊢;have hq1:=g1.keep _ _ hq;walk_at "wq";refine⟨_,hq1,by rw[List.length_map];omega,?_⟩;refine w_compI (fun j ys M2=>M2=M1/\ys=((qs.take j).filter fun s=>forceB s turn).map qtD) ⟨rfl,rfl⟩ (fun _ _ _ h=>by rw[h.1];exact hq1) ?_ ?_
 ·rintro j d ys M2 hd ⟨rfl,rfl⟩
  rw[List.getElem?_map]at hd;obtain⟨x,hx,rfl⟩:=Option.map_eq_some_iff.mp hd;rw[List.take_add_one,hx,List.filter_append,List.map_append];walk_at "wq";refine inForce_w (k + 10) M2 x turn ?_;walk_at "wq";refine⟨fun h=>?_,fun h=>?_⟩ <;> simp[h]
 rintro ys M2 ⟨rfl,rfl⟩;rw[List.length_map,List.take_length];generalize hF:qs.filter (fun s=>forceB s turn)=fo at q ⊢;have fol:fo.length<=1000:=by rw[<- hF];exact Nat.le_trans (List.length_filter_le _ _) lq
 have fox:∀ o∈fo,o.xs.length<=1000:=fun o ho=>lx o (List.mem_filter.mp (hF ▸ ho)).1;clear hF;generalize hM2:M2++[MO.lst (fo.map qtD)]=M3;have g3:Gr M2 M3:=hM2 ▸ Gr.app _ _;have h3:M3[M2.length]?=some (.lst (fo.map qtD)):=hM2 ▸ get_new _ _;clear hM2;generalize M2.length=j2 at h3 ⊢;have h1':=g3.keep _ _ h1;have hr':=(g1.trans g3).keep _ _ hr;have g13:=g1.trans g3;walk_at "wq";have n4:(M3++[MO.dtt []])[M3.length]?=some (.dtt []):=get_new _ _;have g4:Gr M3 (M3++[MO.dtt []]):=Gr.app _ _;generalize M3++[MO.dtt []]=M4 at n4 g4 ⊢;refine⟨_,g4.keep _ _ h1',?_⟩;refine w_loop (fun m ρ M'=>Gr M3 M'/\(∃ E:List En,DM M' M3.length E (prL t st fo rs turn (st.take m)))/\∃ x8 x9,ρ=[some (trD t),some (.ob js),some (.ob jq),some (.ob jr),some (.int turn),some (.ob j1),some (.ob j2),some (.ob M3.length),x8,x9])
  ⟨g4,⟨[],n4,(fun _ h=>nomatch h),List.nodup_nil,List.nodup_nil,(fun g=>⟨fun h=>(nomatch h),fun h=>(nomatch h)⟩),(fun _ h=>nomatch h),Nat.zero_le _⟩,_,_,rfl⟩ (fun _ _ _ h=>h.1.keep _ _ h1') ?_ ?_
 ·rintro m d ρ M5 hd ⟨g5,⟨E,hE⟩,x8,x9,rfl⟩
  rw[List.getElem?_map]at hd;obtain⟨s,hsm,rfl⟩:=Option.map_eq_some_iff.mp hd;have hsl:=lt_of_get hsm;have hss:=List.mem_of_getElem? hsm;have et:st.take (m + 1)=st.take m++[s]:=by rw[List.take_add_one,hsm];rfl
  have eP:=prL_snoc t st fo rs turn (st.take m) s;rw[<- et]at eP;generalize hP:prL t st fo rs turn (st.take m)=P at hE eP;have hPl:P.length<=30:=by
   rw[<- hP]
   have:=prL_len hz st fo rs turn (st.take m)
   rw[List.length_take]at this;omega
  clear hP;walk_at "wq";refine ground_w (k + 6) M5 s j1 j2 jr st fo rs turn (by omega) fol (sto s hss) sto fox lr (g5.keep _ _ h1') (g5.keep _ _ h3) (g5.keep _ _ hr') fun M6 g6=>?_;walk_at "wq";refine⟨rfl,fun hn=>?_,fun hn=>?_⟩
  ·rw[if_pos hn]at eP
   have eS:sayD s=.tup [.int s.n,.tup (s.ps.map prD),.int s.w,.int s.came,optD s.gone]:=rfl;rw[eS];walk_at "wq";refine groups_w k M6 t fit s.ps (sto s hss) fun jg M7 g7 hjg h7=>?_;walk_at "wq";refine⟨_,h7,?_⟩;have G7:=(g5.trans g6).trans g7;have lE:∀ e∈E,e.1≠jg:=fun e he=>by
    have:=lt_of_get (hE.o e he).2
    have:=g6.len
    omega
   unfold prOf at eP;have hgl:(groupsV t s.ps).length<=6:=by
    unfold groupsV;rw[List.length_map];exact Nat.le_trans (takenV_sz _ _ _) hz
   generalize groupsV t s.ps=gs at h7 eP hgl ⊢;refine w_loop (fun i ρ M'=>Gr M3 M'/\M'[jg]?=some (.lst (gs.map gkD))/\(∃ E,DM M' M3.length E (P++(gs.take i).map fun g=>(g,s.n))/\∀ e∈E,e.1≠jg)/\∃ x9,ρ=[some (trD t),some (.ob js),some (.ob jq),some (.ob jr),some (.int turn),some (.ob j1),some (.ob j2),some (.ob M3.length),some (.tup [.int s.n,.tup (s.ps.map prD),.int s.w,.int s.came,optD s.gone]),x9])
    ⟨G7,h7,⟨E,by rw[List.take_zero,List.map_nil,List.append_nil];exact(hE.keep g6).keep g7,lE⟩,_,rfl⟩ (fun _ _ _ h=>h.2.1) ?_ ?_
   ·rintro i d ρ M8 hd ⟨g8,h8,⟨E8,hE8,lE8⟩,x9,rfl⟩
    rw[List.getElem?_map]at hd;obtain⟨g,hg,rfl⟩:=Option.map_eq_some_iff.mp hd;have hgi:=lt_of_get hg;have hP8:(P++(gs.take i).map fun g=>(g,s.n)).length<=1000:=by
     rw[List.length_append,List.length_map,List.length_take];omega
    have hkl:=hE8.len;walk_at "wq";refine⟨_,hE8.d,Nat.zero_le _,_,(Gr.app _ _).keep _ _ hE8.d,_,kyT_g g,by unfold kvE;rw[List.length_map];omega,?_⟩;obtain⟨x,M9,ex,_,_,j,rfl,l,hl,hll,hF⟩:=put_w (F:=fun _ M'=>Gr M3 M'/\M'[jg]?=some (.lst (gs.map gkD))/\∃ E,DM M' M3.length E (P++(gs.take (i + 1)).map fun g=>(g,s.n))/\∀ e∈E,e.1≠jg) hE8 g s.n hP8 fun E9 M9 d9 hlen hkeep hnew=>by
     refine⟨⟨fun a o ho=>hkeep a o (g8.keep _ _ ho) (Nat.ne_of_lt (lt_of_get ho)) fun e he=>?_,Nat.le_trans g8.len hlen⟩,hkeep jg _ h8 (fun z=>?_) lE8,E9,?_,fun e he=>?_⟩
     ·have:=(hE8.o e he).1
      have:=lt_of_get ho
      omega
     ·rw[z,hE8.d]at h8
      cases h8
     ·rw[List.take_add_one,hg,List.map_append,<- List.append_assoc]
      exact d9
     ·rcases hnew e he with ⟨e0,h0,h1⟩ | h0
      ·rw[<- h1];exact lE8 e0 h0
      ·have:=lt_of_get h8
       omega
    refine⟨_,_,ex,?_⟩;walk_at "wq";exact⟨_,hl,_,hl,hll,hF.1,hF.2.1,hF.2.2,_,rfl⟩
   ·rintro ρ M8 ⟨g8,h8,⟨E8,hE8,lE8⟩,x9,rfl⟩
    rw[List.length_map,List.take_length,<- eP]at hE8;walk_at "wq";exact⟨g8,⟨E8,hE8⟩,_,_,rfl⟩
  ·rw[if_neg (by rw[hn];exact Bool.false_ne_true),List.append_nil]at eP
   exact⟨g5.trans g6,⟨E,by rw[eP];exact hE.keep g6⟩,_,_,rfl⟩
 ·rintro ρ M5 ⟨g5,⟨E,hE⟩,x8,x9,rfl⟩
  rw[List.length_map,List.take_length]at hE;have hPl:=prL_len hz st fo rs turn st;generalize prL t st fo rs turn st=P at hE q hPl;have hEl:=hE.len;walk_at "wq";have ek:(kvE E).map (fun p=>keyD2 p.1)=(E.map (·.2.1)).map gkD:=by
   unfold kvE;rw[List.map_map,List.map_map];exact List.map_congr_left fun e _=>keyD_g e.2.1
  obtain⟨gs,e1,e2,e3⟩:=hG.so (E.map (·.2.1)) (by rw[List.length_map];omega) hE.nd;have egl:gs.length=E.length:=by rw[e2.length_eq,List.length_map]
  refine⟨_,hE.d,_,by rw[ek];exact e1,_,get_new _ _,by rw[List.length_map];omega,?_⟩;generalize hM6:M5++[MO.lst (gs.map gkD)]=M6;have g6:Gr M5 M6:=hM6 ▸ Gr.app _ _;have h6:M6[M5.length]?=some (.lst (gs.map gkD)):=hM6 ▸ get_new _ _;clear hM6;generalize M5.length=j6 at h6 ⊢;have hE6:=hE.keep g6;refine w_compI (fun i ys M'=>Gr M6 M'/\∃ R:List En,ys=R.map rowR/\R.map (·.2.1)=gs.take i/\∀ r∈R,M'[r.1]?=some (.lst (r.2.2.map .int))/\r.2.2=sortI (numsOf P r.2.1)) ⟨Gr.refl,[],rfl,rfl,fun _ h=>nomatch h⟩ (fun _ _ _ h=>h.1.keep _ _ h6) ?_ ?_
  ·rintro i d ys M7 hd ⟨g7,R,rfl,hR,oR⟩
   rw[List.getElem?_map]at hd;obtain⟨g,hg,rfl⟩:=Option.map_eq_some_iff.mp hd;obtain⟨e,he,rfl⟩:=List.mem_map.mp (e2.mem_iff.mp (List.mem_of_getElem? hg));have hE7:=hE6.keep g7;have evl:=nums_len P e.2.1;rw[<- hE.vs e he]at evl;have es:=hI e.2.2 (by omega);have egk:gkD e.2.1=.tup [plD e.2.1.1,.tup (e.2.1.2.map .str)]:=rfl;walk_at "wq";refine⟨_,hE7.d,_,kyT_g _,_,tk_some hE.nd he,?_⟩;walk_at "wq";refine⟨_,(hE7.o e he).2,_,es,?_⟩;rw[egk];walk_at "wq";refine⟨by omega,by walk_at "o",g7.snoc _,R++[(M7.length,e.2.1,sortI e.2.2)],?_,?_,fun r hr=>?_⟩
   ·rw[List.map_append]
    rfl
   ·rw[List.map_append,hR,List.take_add_one,hg]
    rfl
   ·rcases List.mem_append.mp hr with hr | hr
    ·exact⟨(Gr.app _ _).keep _ _ (oR r hr).1,(oR r hr).2⟩
    ·rw[List.mem_singleton.mp hr]
     exact⟨get_new _ _,by show sortI e.2.2=sortI (numsOf P e.2.1);rw[hE.vs e he]⟩
  ·rintro ys M7 ⟨g7,R,rfl,hR,oR⟩
   rw[List.length_map,List.take_length]at hR;have G7:=((g13.trans g5).trans g6).trans g7;refine q R _ _ (G7.snoc _) ⟨get_new _ _,fun r hr=>(Gr.app _ _).keep _ _ (oR r hr).1⟩ ⟨?_,fun g=>?_,fun x hx=>?_⟩
   ·rw[List.map_map]
    show (R.map fun r=>r.2.1).Pairwise _;rw[hR];exact e3
   ·rw[List.map_map]
    show g∈(R.map fun r=>r.2.1) ↔ _;rw[hR,e2.mem_iff];exact hE.ks g
   ·obtain⟨r,hr,rfl⟩:=List.mem_map.mp hx
    exact(oR r hr).2
end
end Law
namespace Law
open PySem L3
section
noncomputable abbrev Co:=Int×List (Str×Str)×Int
noncomputable def coS (s:Say):Co:=(s.n,s.ps,s.w)
noncomputable def grC (o c:Co)(r:Rule):Bool:=decide (c.2.2 < o.2.2)&&(meetA r.a o.2.1&&sameB c.2.1 o.2.1 r.ns)
noncomputable def qC (cs:List Co)(xss:List (List Ask))(rs:List Rule)(c:Co):Bool:=(xss.all fun xs=>!meetA xs c.2.1)&&rs.all fun r=>!(meetA r.b c.2.1)||cs.all fun o=>!grC o c r
theorem isN_first (s:Say)(hs:List Say):∀ (rs:List Rule) (k:Nat),isN (firstG s hs k rs)=rs.all fun r=>!(meetA r.b s.ps&&!(greatL s hs r).isEmpty)
 | [],_=>rfl
 | r::rs,k=>by
  rw[firstG,List.all_cons];split
  ·rename_i h;rw[h];rfl
  ·rename_i h
   have h:(meetA r.b s.ps&&!(greatL s hs r).isEmpty)=false:=by simpa using h
   rw[h,isN_first s hs rs (k + 1)];rfl
theorem filter_emp {α:Type}(p:α->Bool):∀ l:List α,(l.filter p).isEmpty=l.all fun x=>!p x
 | []=>rfl
 | x::l=>by
  rw[List.filter_cons,List.all_cons,<- filter_emp p l];cases p x <;> rfl
theorem all_congr {α:Type}{p q:α->Bool}:∀ {l:List α},(∀ x∈l,p x=q x)->l.all p=l.all q
 | [],_=>rfl
 | x::l,h=>by rw[List.all_cons,List.all_cons,h x List.mem_cons_self,all_congr fun y hy=>h y (List.mem_cons_of_mem _ hy)]
theorem isN_ground {st:List Say}{fo:List Qt}{t:Int}(hs:∀ o∈st,standsB o t=true)(hf:∀ q∈fo,forceB q t=true)(rs:List Rule)(s:Say):isN (groundV s st fo rs t)=qC (st.map coS) (fo.map (·.xs)) rs (coS s):=by
 have e1:(toldL s fo t).isEmpty=(fo.map (·.xs)).all fun xs=>!meetA xs s.ps:=by
  unfold toldL;rw[List.isEmpty_map,filter_emp,List.all_map];exact all_congr fun q hq=>by rw[hf q hq,Bool.true_and];rfl
 have e2:∀ r,(greatL s (heavL s st t) r).isEmpty=(st.map coS).all fun o=>!grC o (coS s) r:=fun r=>by
  unfold greatL heavL;rw[List.isEmpty_map,List.filter_filter,filter_emp,List.all_map];refine all_congr fun o ho=>?_;show _ = !grC (coS o) (coS s) r;unfold grC coS isGr;rw[hs o ho,Bool.and_true,Bool.and_comm]
 unfold groundV qC;show _=((_:List (List Ask)).all (fun xs=>!meetA xs s.ps)&&_);rw[<- e1];split
 ·rename_i h
  rw[h,isN_first,Bool.true_and];refine all_congr fun r _=>?_;rw[e2 r];show _=(!meetA r.b s.ps||_);cases meetA r.b s.ps <;> simp
 ·rename_i h
  have h:(toldL s fo t).isEmpty=false:=by simpa using h
  rw[h];rfl
noncomputable def prC (t:Tr)(cs:List Co)(xss:List (List Ask))(rs:List Rule):List Pr:=(cs.filter (qC cs xss rs)).flatMap fun c=>(groupsV t c.2.1).map fun g=>(g,c.1)
theorem filter_cong {α:Type}{p q:α->Bool}:∀ {l:List α},(∀ x∈l,p x=q x)->l.filter p=l.filter q
 | [],_=>rfl
 | x::l,h=>by rw[List.filter_cons,List.filter_cons,h x List.mem_cons_self,filter_cong fun y hy=>h y (List.mem_cons_of_mem _ hy)]
theorem prs_co (t:Tr)(ss:List Say)(qs:List Qt)(rs:List Rule)(turn:Int):prsV t ss qs rs turn=prC t ((ss.filter fun s=>standsB s turn).map coS) ((qs.filter fun q=>forceB q turn).map (·.xs)) rs:=by
 unfold prsV prL prC;rw[List.filter_map,List.flatMap_map]
 have:(ss.filter fun s=>standsB s turn).filter (fun s=>isN (groundV s (ss.filter fun s=>standsB s turn) (qs.filter fun q=>forceB q turn) rs turn))=(ss.filter fun s=>standsB s turn).filter (qC ((ss.filter fun s=>standsB s turn).map coS) ((qs.filter fun q=>forceB q turn).map (·.xs)) rs ∘ coS) :=
  filter_cong fun s _=>isN_ground (fun o ho=>(List.mem_filter.mp ho).2) (fun q hq=>(List.mem_filter.mp hq).2) rs s
 rw[this];rfl
theorem all_perm {α:Type}{p:α->Bool}{l l':List α}(h:l.Perm l'):l.all p=l'.all p:=by
 rw[Bool.eq_iff_iff,List.all_eq_true,List.all_eq_true];exact⟨fun z x hx=>z x (h.mem_iff.mpr hx),fun z x hx=>z x (h.mem_iff.mp hx)⟩
theorem prC_perm (t:Tr){cs cs':List Co}{xss xss':List (List Ask)}(rs:List Rule)(h1:cs.Perm cs')(h2:xss.Perm xss'):(prC t cs xss rs).Perm (prC t cs' xss' rs):=by
 have e:qC cs xss rs=qC cs' xss' rs:=by
  funext c;unfold qC;rw[all_perm h2];congr 1;exact all_congr fun r _=>by rw[all_perm h1]
 unfold prC;rw[e];exact(h1.filter _).flatMap_right _
theorem prs_perm (t:Tr){ss ss':List Say}{qs qs':List Qt}(rs:List Rule)(turn:Int)(h1:ss.Perm ss')(h2:qs.Perm qs'):(prsV t ss qs rs turn).Perm (prsV t ss' qs' rs turn):=by
 rw[prs_co,prs_co];exact prC_perm t rs ((h1.filter _).map _) ((h2.filter _).map _)
noncomputable def keepS (t:Int)(s:Say):List Say:=if s.came<=t then [match s.gone with
 | some g=>if t < g then ⟨s.n,s.ps,s.w,s.came,none⟩ else s
 | none=>s] else []
noncomputable def keepQ (t:Int)(s:Qt):List Qt:=if s.fst<=t then [if t < s.lst then ⟨s.n,s.xs,s.fst,1000000000000⟩ else s] else []
theorem keepS_co (t:Int)(s:Say):((keepS t s).filter fun s=>standsB s t).map coS=([s].filter fun s=>standsB s t).map coS:=by
 obtain⟨n,ps,w,came,gone⟩:=s;unfold keepS;dsimp only;split
 ·rename_i h
  cases gone with
  | none=>rfl
  | some g =>
   dsimp only;split
   ·rename_i h2
    have e1:standsB ⟨n,ps,w,came,none⟩ t=true:=by unfold standsB;simp[h]
    have e2:standsB ⟨n,ps,w,came,some g⟩ t=true:=by unfold standsB;simp[h,h2]
    simp[e1,e2,coS]
   ·rfl
 ·rename_i h
  have e2:standsB ⟨n,ps,w,came,gone⟩ t=false:=by unfold standsB;simp[h]
  simp[e2]
theorem keepQ_co (t:Int)(ht:t < 1000000000000)(s:Qt):((keepQ t s).filter fun s=>forceB s t).map (·.xs)=([s].filter fun s=>forceB s t).map (·.xs):=by
 obtain⟨n,xs,f,l⟩:=s;unfold keepQ;dsimp only;split
 ·rename_i h
  split
  ·rename_i h2
   have e1:forceB ⟨n,xs,f,1000000000000⟩ t=true:=by unfold forceB;simp[h,ht]
   have e2:forceB ⟨n,xs,f,l⟩ t=true:=by unfold forceB;simp[h,h2]
   simp[e1,e2]
  ·rfl
 ·rename_i h
  have e2:forceB ⟨n,xs,f,l⟩ t=false:=by unfold forceB;simp[h]
  simp[e2]
theorem keeps_co {α β:Type}{p:α->Bool}{f:α->β}{k:α->List α}(h:∀ s,((k s).filter p).map f=([s].filter p).map f):∀ l:List α,((l.flatMap k).filter p).map f=(l.filter p).map f
 | []=>rfl
 | s::l=>by
  rw[List.flatMap_cons,List.filter_append,List.map_append,h,keeps_co h l,<- List.map_append,<- List.filter_append];rfl
theorem prs_keep (t:Tr)(ss:List Say)(qs:List Qt)(rs:List Rule)(turn:Int)(ht:turn < 1000000000000):prsV t (ss.flatMap (keepS turn)) (qs.flatMap (keepQ turn)) rs turn=prsV t ss qs rs turn:=by
 rw[prs_co,prs_co,keeps_co (keepS_co turn),keeps_co (keepQ_co turn ht)]
theorem eo_rows {M:MH}:∀ (R R':List En),R.map (·.2)=R'.map (·.2)->(∀ r∈R,M[r.1]?=some (.lst (r.2.2.map .int)))->(∀ r∈R',M[r.1]?=some (.lst (r.2.2.map .int)))->eqL (eqO M 19) (R.map rowR) (R'.map rowR)=some true
 | [],[],_,_,_=>rfl
 | [],_::_,h,_,_=>by cases h
 | _::_,[],h,_,_=>by cases h
 | r::R,r'::R',h,h1,h2=>by
  rw[List.map_cons,List.map_cons]at h;injection h with e1 e2
  have ih:=eo_rows R R' e2 (fun x hx=>h1 x (List.mem_cons_of_mem _ hx)) fun x hx=>h2 x (List.mem_cons_of_mem _ hx);have a1:eqO M 18 (plD r.2.1.1) (plD r.2.1.1)=some true:=eo_reflP (by
   show (r.2.1.1.map D.int).all (plainD 17)=true;rw[List.all_map,List.all_eq_true];exact fun _ _=>rfl)
  have a2:eqO M 18 (.tup (r.2.1.2.map .str)) (.tup (r.2.1.2.map .str))=some true:=eo_reflP (by
   show (r.2.1.2.map D.str).all (plainD 17)=true;rw[List.all_map,List.all_eq_true];exact fun _ _=>rfl)
  have a3:eqO M 18 (.ob r.1) (.ob r'.1)=some true:=eo_obP (h1 r List.mem_cons_self) (by rw[e1];exact h2 r' List.mem_cons_self) fun x hx=>by
   obtain⟨i,_,rfl⟩:=List.mem_map.mp hx;rfl
  rw[List.map_cons,List.map_cons,eqL,ih];have e:eqO M 19 (rowR r) (rowR r')=some true:=by
   unfold rowR;rw[<- e1,eo_tup];simp only[eqL,a1,a2,a3];rfl
  rw[e];rfl
theorem eo_mem {M:MH}{j j':Nat}{R R':List En}(h:MemAt M j R)(h':MemAt M j' R')(e:R.map (·.2)=R'.map (·.2)):eqO M 20 (.ob j) (.ob j')=some true:=by
 have hl:R.length=R'.length:=by have:=congrArg List.length e;simpa using this
 rw[eo_ob h.l h'.l,if_pos (by rw[List.length_map,List.length_map,hl])];exact eo_rows R R' e h.o h'.o
end
end Law
namespace Law
open PySem L3
section
variable {srt:List D->Option (List D)}
theorem kS_len (turn:Int)(l:List Say):(l.flatMap (keepS turn)).length<=l.length:=by
 induction l with
 | nil=>exact Nat.le_refl _
 | cons s l ih =>
  rw[List.flatMap_cons,List.length_append,List.length_cons]
  have:(keepS turn s).length<=1:=by unfold keepS;split <;> simp
  omega
theorem kQ_len (turn:Int)(l:List Qt):(l.flatMap (keepQ turn)).length<=l.length:=by
 induction l with
 | nil=>exact Nat.le_refl _
 | cons s l ih =>
  rw[List.flatMap_cons,List.length_append,List.length_cons]
  have:(keepQ turn s).length<=1:=by unfold keepQ;split <;> simp
  omega
theorem tailC {lt:Gp->Gp->Bool}(hG:SortsG srt lt)(hI:SortsI srt)(sc:List Int)(pd:D)(base turn:Int)(t:Tr)(js jq jr:Nat)(ss:List Say)(qs:List Qt)(rs:List Rule)(M:MH)(ht:turn < 1000000000000)(fit:Fit 5 t)(hz:szT 5 t<=6)(ls:ss.length<=5)(lq:qs.length<=1000)(lo:∀ o∈ss,o.ps.length<=1000)(lx:∀ q∈qs,q.xs.length<=1000)(lr:∀ r∈rs,r.a.length<=1000/\r.b.length<=1000/\r.ns.length<=1000)
  (hs:M[js]?=some (.lst (ss.map sayD))) (hq:M[jq]?=some (.lst (qs.map qtD))) (hr:M[jr]?=some (.lst (rs.map ruleD)))
  (R:List En) (jf jk jt:Nat) (x10 x12:Option D) (mem:MemAt M jf R) (isM:IsMem lt (prsV t ss qs rs turn) (R.map (·.2))) (hk:M[jk]?=some (.lst ((ss.flatMap (keepS turn)).map sayD))) (ht2:M[jt]?=some (.lst ((qs.flatMap (keepQ turn)).map qtD))) :
  W (semSs (cx srt 39) (dropS 12 b_law) [some (.fl (sc.map .int)),some pd,some (.int base),some (trD t),some (.ob js),some (.ob jq),some (.ob jr),some (.int turn),some (.ob jf),some (.ob jk),x10,some (.ob jt),x12]) M (endF fun d _=>d=.bl true):=by
 have kS:∀ o∈ss.flatMap (keepS turn),∃ s∈ss,o.ps=s.ps:=fun o ho=>by
  obtain⟨s,hs,h⟩:=List.mem_flatMap.mp ho;refine⟨s,hs,?_⟩;unfold keepS at h;split at h
  ·rw[List.mem_singleton.mp h]
   split
   ·split <;> rfl
   ·rfl
  ·cases h
 have kQ:∀ o∈qs.flatMap (keepQ turn),∃ s∈qs,o.xs=s.xs:=fun o ho=>by
  obtain⟨s,hs,h⟩:=List.mem_flatMap.mp ho;refine⟨s,hs,?_⟩;unfold keepQ at h;split at h
  ·rw[List.mem_singleton.mp h]
   split <;> rfl
  ·cases h
 have big:=line_big;simp only[b_law,drop_s,drop_0];walk_at "wq";refine⟨_,hr,?_⟩;refine members_w hG hI 27 _ t fit hz _ _ _ (ss.flatMap (keepS turn)) (qs.flatMap (keepQ turn)) rs turn (Nat.le_trans (kS_len turn ss) ls) (Nat.le_trans (kQ_len turn qs) lq) (fun o ho=>let ⟨s,h1,h2⟩:=kS o ho;by rw[h2];exact lo s h1) (fun o ho=>let ⟨s,h1,h2⟩:=kQ o ho;by rw[h2];exact lx s h1) lr ((Gr.app _ _).keep _ _ hk) ((Gr.app _ _).keep _ _ ht2) (get_new _ _) fun R2 j2 M2 g2 mem2 is2=>?_;have g2:Gr M M2:=Gr.trans (Gr.app _ _) g2;rw[prs_keep t ss qs rs turn ht]at is2;walk_at "wq";rw[p_ne];refine⟨true,eo_mem mem2 (mem.keep g2) (mem_uniq hG.as is2 isM (.refl _)),?_⟩;walk_at "wq";refine mixedUp_w (k:=36) sc _ M2 js (ss.map sayD) (by decide) (by decide) (by rw[List.length_map];omega) (g2.keep _ _ hs) fun es j3 M3 hp g3 _ h3=>?_;obtain⟨ss3,rfl,hv⟩:=map_of_perm hp;replace g3:=g2.trans g3;walk_at "wq";refine⟨_,g3.keep _ _ hq,_,(Gr.app _ _).keep _ _ (g3.keep _ _ hr),?_⟩;rw[<- List.map_reverse];refine members_w hG hI 27 _ t fit hz _ _ _ ss3 qs.reverse rs turn (by rw[hv.length_eq];exact ls) (by rw[List.length_reverse];exact lq) (fun o ho=>lo o (hv.mem_iff.mp ho)) (fun o ho=>lx o (List.mem_reverse.mp ho)) lr (((Gr.app _ _).snoc _).keep _ _ h3) ((Gr.app _ _).keep _ _ (get_new _ _)) (get_new _ _) fun R4 j4 M4 g4 mem4 is4=>?_;have g4:Gr M M4:=g3.trans (Gr.trans ((Gr.app _ _).snoc _) g4);walk_at "wq";rw[p_ne];refine⟨true,eo_mem mem4 (mem.keep g4) (mem_uniq hG.as is4 isM (prs_perm t rs turn hv (List.reverse_perm _))),?_⟩;walk_at "wq";exact⟨true,M4,by
  show (getM jf >>= fun o=>_:Mo Bool) M4=_;rw[ok_bind (m:=getM jf) (M1:=M4) (a:=.lst (R.map rowR)) (by unfold getM;rw[(mem.keep g4).l])]
  rfl,rfl⟩
theorem tailA {lt:Gp->Gp->Bool}(hG:SortsG srt lt)(hI:SortsI srt)(sc:List Int)(pd:D)(base turn:Int)(t:Tr)(js jq jr:Nat)(ss:List Say)(qs:List Qt)(rs:List Rule)(M:MH)(ht:turn < 1000000000000)(fit:Fit 5 t)(hz:szT 5 t<=6)(ls:ss.length<=5)(lq:qs.length<=1000)(lo:∀ o∈ss,o.ps.length<=1000)(lx:∀ q∈qs,q.xs.length<=1000)(lr:∀ r∈rs,r.a.length<=1000/\r.b.length<=1000/\r.ns.length<=1000)
  (hs:M[js]?=some (.lst (ss.map sayD))) (hq:M[jq]?=some (.lst (qs.map qtD))) (hr:M[jr]?=some (.lst (rs.map ruleD))) :
  W (semSs (cx srt 39) (dropS 7 b_law) [some (.fl (sc.map .int)),some pd,some (.int base),some (trD t),some (.ob js),some (.ob jq),some (.ob jr),some (.int turn),none,none,none,none,none]) M (endF fun d _=>d=.bl true):=by
 have big:=line_big;have tC:=fun M hs hq hr R jf jk jt x10 x12=>tailC (lt:=lt) hG hI sc pd base turn t js jq jr ss qs rs M ht fit hz ls lq lo lx lr hs hq hr R jf jk jt x10 x12;rw[show dropS 7 b_law=cutS 5 (dropS 7 b_law) (dropS 12 b_law) from rfl];generalize dropS 12 b_law=tl at tC ⊢;simp only[b_law,drop_s,drop_0,cut_s,cut_0];walk_at "wq";refine⟨_,hs,_,(Gr.app _ _).keep _ _ hq,_,((Gr.app _ _).snoc _).keep _ _ hr,?_⟩;have g6:Gr M (M++[MO.lst (ss.map sayD)]++[MO.lst (qs.map qtD)]++[MO.lst (rs.map ruleD)]):=((Gr.app _ _).snoc _).snoc _;refine members_w hG hI 27 _ t fit hz _ _ _ ss qs rs turn ls lq lo lx lr (((Gr.app _ _).snoc _).keep _ _ (get_new _ _)) ((Gr.app _ _).keep _ _ (get_new _ _)) (get_new _ _) fun R jf M7 g7 mem7 is7=>?_;replace g7:=g6.trans g7;clear g6;have hs7:=g7.keep _ _ hs;have hq7:=g7.keep _ _ hq;have hr7:=g7.keep _ _ hr;clear g7;walk_at "wq";refine⟨Nat.zero_le _,_,(Gr.app _ _).keep _ _ hs7,?_⟩;have n8:(M7++[MO.lst []])[M7.length]?=some (.lst (([]:List Say).map sayD)):=get_new _ _;have g8:Gr M7 (M7++[MO.lst []]):=Gr.app _ _;generalize M7++[MO.lst []]=M8 at n8 g8 ⊢;refine w_loop (fun i ρ M'=>Gr M7 M'/\M'[M7.length]?=some (.lst (((ss.take i).flatMap (keepS turn)).map sayD))/\∃ x10,ρ=[some (.fl (sc.map .int)),some pd,some (.int base),some (trD t),some (.ob js),some (.ob jq),some (.ob jr),some (.int turn),some (.ob jf),some (.ob M7.length),x10,none,none])
  ⟨g8,n8,_,rfl⟩ (fun _ _ _ h=>h.1.keep _ _ hs7) ?_ ?_
 ·rintro i d ρ M9 hd ⟨g9,h9,x10,rfl⟩
  rw[List.getElem?_map]at hd;obtain⟨s,hsi,rfl⟩:=Option.map_eq_some_iff.mp hd;have hil:=lt_of_get hsi;have kl:=kS_len turn (ss.take i);rw[List.length_take]at kl;have et:(ss.take (i + 1)).flatMap (keepS turn)=(ss.take i).flatMap (keepS turn)++keepS turn s:=by rw[List.take_add_one,hsi,List.flatMap_append];simp
  have put:∀ s':Say,keepS turn s=[s']->(M9.set M7.length (MO.lst (((ss.take i).flatMap (keepS turn)).map sayD++[sayD s'])))[M7.length]?=some (.lst (((ss.take (i + 1)).flatMap (keepS turn)).map sayD)):=fun s' e=>by
   rw[set_get h9,et,e,List.map_append];rfl
  have hll:(((ss.take i).flatMap (keepS turn)).map sayD).length < sizeLine:=by rw[List.length_map];omega
  obtain⟨n,ps,w,came,gone⟩:=s;have non:keepS turn ⟨n,ps,w,came,gone⟩=[]->M9[M7.length]?=some (.lst (((ss.take (i + 1)).flatMap (keepS turn)).map sayD)):=fun e=>by
   rw[et,e,List.append_nil];exact h9
  cases gone with
  | none =>
   have eS:sayD ⟨n,ps,w,came,none⟩=.tup [.int n,.tup (ps.map prD),.int w,.int came,.non]:=rfl;rw[eS];walk_at "wq";have old:came<=turn->keepS turn ⟨n,ps,w,came,none⟩=[⟨n,ps,w,came,none⟩]:=fun h=>by unfold keepS;simp[h]
   have bad:decide (came<=turn)=false->keepS turn ⟨n,ps,w,came,none⟩=[]:=fun h=>by unfold keepS;simp[of_decide_eq_false h]
   refine⟨fun h1=>⟨rfl,fun z=>(by cases z),fun _=>⟨fun _=>⟨_,h9,_,h9,hll,g9.set (Nat.le_refl _) _,put _ (old (of_decide_eq_true h1)),_,rfl⟩,fun z=>(by rw[h1]at z;cases z)⟩⟩,fun h1=>⟨fun z=>(by rw[h1]at z;cases z),fun _=>⟨g9,non (bad h1),_,rfl⟩⟩⟩
  | some g =>
   have eS:sayD ⟨n,ps,w,came,some g⟩=.tup [.int n,.tup (ps.map prD),.int w,.int came,.int g]:=rfl;rw[eS];walk_at "wq";have new:came<=turn->turn < g->keepS turn ⟨n,ps,w,came,some g⟩=[⟨n,ps,w,came,none⟩]:=fun h h2=>by unfold keepS;simp[h,h2]
   have old:came<=turn->decide (turn < g)=false->keepS turn ⟨n,ps,w,came,some g⟩=[⟨n,ps,w,came,some g⟩]:=fun h h2=>by unfold keepS;simp[h,of_decide_eq_false h2]
   have bad:decide (came<=turn)=false->keepS turn ⟨n,ps,w,came,some g⟩=[]:=fun h=>by unfold keepS;simp[of_decide_eq_false h]
   refine⟨fun h1=>⟨rfl,fun _=>⟨fun h2=>⟨_,h9,by omega,by show 4 + 1<=_;omega,_,h9,hll,g9.set (Nat.le_refl _) _,put _ (new (of_decide_eq_true h1) (of_decide_eq_true h2)),_,rfl⟩,fun h2=>⟨fun _=>⟨_,h9,_,h9,hll,g9.set (Nat.le_refl _) _,put _ (old (of_decide_eq_true h1) h2),_,rfl⟩,fun z=>(by rw[h1]at z;cases z)⟩⟩,fun z=>(by cases z)⟩,fun h1=>⟨fun z=>(by rw[h1]at z;cases z),fun _=>⟨g9,non (bad h1),_,rfl⟩⟩⟩
 ·rintro ρ M9 ⟨g9,h9,x10,rfl⟩
  rw[List.length_map,List.take_length]at h9;have hs9:=g9.keep _ _ hs7;have hq9:=g9.keep _ _ hq7;have hr9:=g9.keep _ _ hr7;have mem9:=mem7.keep g9;clear g8 n8 hs7 hq7 hr7 mem7;generalize M7.length=jk at h9 ⊢;walk_at "wq";refine⟨Nat.zero_le _,_,(Gr.app _ _).keep _ _ hq9,?_⟩;have n8:(M9++[MO.lst []])[M9.length]?=some (.lst (([]:List Qt).map qtD)):=get_new _ _;have g8:Gr M9 (M9++[MO.lst []]):=Gr.app _ _;generalize M9++[MO.lst []]=M8 at n8 g8 ⊢;refine w_loop (fun i ρ M'=>Gr M9 M'/\M'[M9.length]?=some (.lst (((qs.take i).flatMap (keepQ turn)).map qtD))/\∃ x10,ρ=[some (.fl (sc.map .int)),some pd,some (.int base),some (trD t),some (.ob js),some (.ob jq),some (.ob jr),some (.int turn),some (.ob jf),some (.ob jk),x10,some (.ob M9.length),none])
   ⟨g8,n8,_,rfl⟩ (fun _ _ _ h=>h.1.keep _ _ hq9) ?_ ?_
  ·rintro i d ρ MA hd ⟨gA,hA,x10,rfl⟩
   rw[List.getElem?_map]at hd;obtain⟨s,hsi,rfl⟩:=Option.map_eq_some_iff.mp hd;have hil:=lt_of_get hsi;have kl:=kQ_len turn (qs.take i);rw[List.length_take]at kl;have et:(qs.take (i + 1)).flatMap (keepQ turn)=(qs.take i).flatMap (keepQ turn)++keepQ turn s:=by rw[List.take_add_one,hsi,List.flatMap_append];simp
   have put:∀ s':Qt,keepQ turn s=[s']->(MA.set M9.length (MO.lst (((qs.take i).flatMap (keepQ turn)).map qtD++[qtD s'])))[M9.length]?=some (.lst (((qs.take (i + 1)).flatMap (keepQ turn)).map qtD)):=fun s' e=>by
    rw[set_get hA,et,e,List.map_append];rfl
   have hll:(((qs.take i).flatMap (keepQ turn)).map qtD).length < sizeLine:=by rw[List.length_map];omega
   obtain⟨n,xs,f,l⟩:=s;have non:keepQ turn ⟨n,xs,f,l⟩=[]->MA[M9.length]?=some (.lst (((qs.take (i + 1)).flatMap (keepQ turn)).map qtD)):=fun e=>by
    rw[et,e,List.append_nil];exact hA
   have eS:qtD ⟨n,xs,f,l⟩=.tup [.int n,.tup (xs.map askD),.int f,.int l]:=rfl;rw[eS];have new:f<=turn->turn < l->keepQ turn ⟨n,xs,f,l⟩=[⟨n,xs,f,1000000000000⟩]:=fun h h2=>by unfold keepQ;simp[h,h2]
   have old:f<=turn->decide (turn < l)=false->keepQ turn ⟨n,xs,f,l⟩=[⟨n,xs,f,l⟩]:=fun h h2=>by unfold keepQ;simp[h,of_decide_eq_false h2]
   have bad:decide (f<=turn)=false->keepQ turn ⟨n,xs,f,l⟩=[]:=fun h=>by unfold keepQ;simp[of_decide_eq_false h]
   walk_at "wq";refine⟨fun h1=>⟨fun h2=>⟨_,hA,⟨by decide,by decide,by decide⟩,by omega,by show 3 + 1<=_;omega,_,hA,hll,gA.set (Nat.le_refl _) _,put _ (new (of_decide_eq_true h1) (of_decide_eq_true h2)),_,rfl⟩,fun h2=>⟨fun _=>⟨_,hA,_,hA,hll,gA.set (Nat.le_refl _) _,put _ (old (of_decide_eq_true h1) h2),_,rfl⟩,fun z=>(by rw[h1]at z;cases z)⟩⟩,fun h1=>⟨fun z=>(by rw[h1]at z;cases z),fun _=>⟨gA,non (bad h1),_,rfl⟩⟩⟩
  ·rintro ρ MA ⟨gA,hA,x10,rfl⟩
   rw[List.length_map,List.take_length]at hA;walk_at "wq";exact tC MA (gA.keep _ _ hs9) (gA.keep _ _ hq9) (gA.keep _ _ hr9) R jf jk _ _ _ (mem9.keep gA) is7 (gA.keep _ _ h9) hA
theorem law_w {lt:Gp->Gp->Bool}(hsrt:Sorts srt)(hG:SortsG srt lt)(hI:SortsI srt)(sc:List Int):W ((cx srt 40).fn "law" [.fl (sc.map .int)]) [] fun d _=>d=.bl true:=by
 have big:=line_big;have tA:=fun pd base turn t js jq jr ss qs rs M ht fit hz ls lq lo lx lr hs hq hr=>tailA (lt:=lt) hG hI sc pd base turn t js jq jr ss qs rs M ht fit hz ls lq lo lx lr hs hq hr;rw[f_law,wf];rw[cut_S 7 b_law];generalize dropS 7 b_law=tl at tA ⊢;simp only[b_law,cut_s,cut_0];walk_at "wq";refine pool_w 35 sc [] fun pd as vs ns ot M1 P g1=>?_;walk_at "wq";refine⟨⟨by walk_at "o",by walk_at "o",by decide⟩,number_w (k:=37) sc _ _ M1 (by walk_at "o") (by walk_at "o") (by decide) fun b M2 b0 b1 g2=>?_⟩;have b1:b<=100000000000:=by
  have:max ((10:Int) ^ (11:Int).toNat) 1000000=100000000000:=by decide
  omega
 clear g1;have P2:=P.keep g2;walk_at "wq";obtain⟨m0,hm0,hm04⟩:=pick_nat sc 27 (m:=4) (by walk_at "o");rw[show ((4:Nat):Int)=4 from rfl]at hm0;refine pick_w (k:=37) sc _ _ _ (by walk_at "o") (by walk_at "o") (by walk_at "o") ?_;rw[hm0];walk_at "wq";rw[show (1:Int) + (m0:Int)=((1 + m0:Nat):Int) by walk_at "o"];refine tree_w 33 sc 200 (1 + m0) M2 P2 (by decide) (by decide) (by omega) fun t M2' g2' fit hsz=>?_;have hz:szT 5 t<=6:=by omega
 have P2:=P2.keep g2';clear g2 g2';walk_at "wq";obtain⟨m,hm,hm4⟩:=pick_nat sc 126 (m:=5) (by walk_at "o");rw[show ((5:Nat):Int)=5 from rfl]at hm;refine pick_w (k:=37) sc _ _ _ (by walk_at "o") (by walk_at "o") (by walk_at "o") ?_;rw[hm];walk_at "wq";rw[show (1:Int) + (m:Int)=((1 + m:Nat):Int) by walk_at "o"];refine sayings_w hsrt 35 sc _ (1 + m) (5 + b) M2' P2 (by walk_at "o") (by walk_at "o") (by walk_at "o") (by walk_at "o") fun ss js M3 hss hsl hsn g3 hjs=>?_;have P3:=P2.keep g3;walk_at "wq";obtain⟨m2,hm2,hm24⟩:=pick_nat sc 127 (m:=3) (by walk_at "o");rw[show ((3:Nat):Int)=3 from rfl]at hm2;refine pick_w (k:=37) sc _ _ _ (by walk_at "o") (by walk_at "o") (by walk_at "o") ?_;rw[hm2];walk_at "wq";refine quietings_w 34 sc _ m2 (5 + b) M3 P3 (by walk_at "o") (by walk_at "o") (by walk_at "o") (by walk_at "o") fun qs jq M4 hqs hql hqn g4 hjq=>?_;have P4:=P3.keep g4;walk_at "wq";obtain⟨m3,hm3,hm34⟩:=pick_nat sc 128 (m:=3) (by walk_at "o");rw[show ((3:Nat):Int)=3 from rfl]at hm3;refine pick_w (k:=37) sc _ _ _ (by walk_at "o") (by walk_at "o") (by walk_at "o") ?_;rw[hm3];walk_at "wq";refine rules_w 34 sc _ m3 M4 P4 (by walk_at "o") (by walk_at "o") (by walk_at "o") fun rs jr M5 hrs hrl g5 hjr5 hjr=>?_;walk_at "wq";obtain⟨m4,hm4,hm44⟩:=pick_nat sc 129 (m:=3) (by walk_at "o");rw[show ((3:Nat):Int)=3 from rfl]at hm4;refine pick_w (k:=37) sc _ _ _ (by walk_at "o") (by walk_at "o") (by walk_at "o") ?_;rw[hm4];walk_at "wq";have ht:5 + b + (m4:Int) < 1000000000000:=by omega
 have hjs5:=(g4.trans g5).keep _ _ hjs;have hjq5:=g5.keep _ _ hjq;have los:∀ o∈ss,o.ps.length<=1000:=fun o ho=>by have:=(hss o ho).mks.len;omega
 have lqs:∀ o∈qs,o.xs.length<=1000:=fun o ho=>by have:=(hqs o ho).len;omega
 have lrs:∀ r∈rs,r.a.length<=1000/\r.b.length<=1000/\r.ns.length<=1000:=fun r hr=>⟨by have:=(hrs r hr).la;omega,by have:=(hrs r hr).lb;omega,by have:=(hrs r hr).ln;omega⟩;exact tA pd (5 + b) (5 + b + m4) t js jq jr ss qs rs M5 ht fit hz (by omega) (by omega) los lqs lrs hjs5 hjq5 hjr
theorem law_d0 {lt:Gp->Gp->Bool}(hsrt:Sorts srt)(hG:SortsG srt lt)(hI:SortsI srt)(ns:List Int):∃ M',(cx srt 40).fn "law" [.fl (ns.map .int)] []=some (.ok (.bl true),M'):=by
 obtain⟨a,M',e,rfl⟩:=law_w hsrt hG hI ns;exact⟨M',e⟩
end
end Law
namespace L3
open PySem
theorem sortD_permP {ds:List D}(h:ds.length < 64)(hg:∀ d∈ds,gP d=none)(hf:ds.all firstStr=true)(hl:∀ i j,i < ds.length->j < ds.length->∃ b,cmpT ds i j=some b):∃ ys,sortD ds=some ys/\ys.Perm ds:=by
 cases ds with
 | nil =>
  have e:=sortD_str (xs:=[]) (by show 0 < 64;omega);have e2:sortS []=[]:=List.length_eq_zero_iff.mp (sortS_perm []).length_eq;rw[e2]at e;exact⟨[],e,.refl _⟩
 | cons d r =>
  have hn:sortF (d::r)=none:=by
   have hd:strO d=none/\intD d=none:=by
    rw[List.all_cons,Bool.and_eq_true]at hf;cases d <;> first | exact⟨rfl,rfl⟩ | exact absurd hf.1 Bool.false_ne_true
   simp only[sortF,allS,allI,hd.1,hd.2]
  have hp:sortP (d::r)=none:=by
   unfold sortP;rw[gsP,hg d List.mem_cons_self]
  unfold sortD;rw[hn];unfold sortQ;rw[hp];exact sortT_perm h (.inl hf) hl
theorem sort_pairs {ps:List (Str×Str)}(h:ps.length < 64):∃ qs:List (Str×Str),sortD (ps.map prD)=some (qs.map prD)/\qs.Perm ps:=by
 obtain⟨ys,e,hp⟩:=sortD_permP (ds:=ps.map prD) (by rw[List.length_map];exact h) (fun d hd=>by obtain⟨p,_,rfl⟩:=List.mem_map.mp hd;rfl) (by rw[List.all_map,List.all_eq_true];exact fun p _=>rfl) (fun i j hi hj=>by
  rw[List.length_map]at hi hj;unfold cmpT;rw[List.getElem?_map,List.getElem?_map,List.getElem?_eq_getElem hi,List.getElem?_eq_getElem hj];show ∃ b,lexK [.str ps[i].1,.str ps[i].2] [.str ps[j].1,.str ps[j].2]=some b;simp only[lexK,flatD,Bool.and_self,if_true,ltD];split
  ·split <;> exact⟨_,rfl⟩
  ·exact⟨_,rfl⟩)
 have hy:∀ y∈ys,prD (unD y)=y:=fun y hy=>by
  obtain⟨p,_,rfl⟩:=List.mem_map.mp (hp.mem_iff.mp hy);rfl
 refine⟨ys.map unD,?_,?_⟩
 ·rw[List.map_map,e]
  congr 1
  have:ys.map (prD ∘ unD)=ys.map id:=List.map_congr_left fun y h=>hy y h
  rw[this,List.map_id]
 ·have:=hp.map unD
  rw[List.map_map]at this;have e2:ps.map (unD ∘ prD)=ps.map id:=List.map_congr_left fun y h=>rfl;rw[e2,List.map_id]at this;exact this
end L3
namespace Law
open PySem L3
theorem sorts_i:SortsI sortD:=fun ns h=>by
 cases ns with
 | nil =>
  have e:=sortD_str (xs:=[]) (by show 0 < 64;omega);have e2:sortS []=[]:=List.length_eq_zero_iff.mp (sortS_perm []).length_eq;have e3:sortI []=[]:=List.length_eq_zero_iff.mp (sortI_perm []).length_eq;rw[e2]at e;rw[e3];exact e
 | cons n r =>
  have e:sortF ((n::r).map D.int)=some ((sortI (n::r)).map .int):=by
   unfold sortF;have e1:allS ((n::r).map D.int)=none:=rfl;rw[e1,allI_map]
  unfold sortD;rw[e];dsimp only;rw[if_pos (by rw[List.length_map];exact h)]
theorem sorts_g:SortsG sortD ltG:=⟨fun _ _ h1 h2=>ltG_o.asym h1 h2,fun _ h nd=>sort_gs h nd⟩
theorem law_d (ns:List Int)(_:ns.length<=63):∃ M',(cx sortD 40).fn "law" [.fl (ns.map .int)] []=some (.ok (.bl true),M'):=law_d0 (fun _ h=>sort_pairs h) sorts_g sorts_i ns
end Law
namespace Law
open PySem PySem.Spec PySem.Calls PyProof.Rows L2 L3
def top (i:Nat):Stmt:=PySem.Challenge.pw_belfry_k41_records_do_not_reach_back.main.body.getD i (.Pass ⟨0,0,0,0⟩)
noncomputable def glN:List Str:=[]
noncomputable def blN:List Str:=["all","any","enumerate","isinstance","len","list","max","min","range","reversed","sorted","tuple"]
noncomputable def e_has_name:Ent:=⟨"has_name",top 1,["marks","name"],["marks","name"],b_has_name⟩
noncomputable def e_value_in:Ent:=⟨"value_in",top 2,["marks","name","pair"],["marks","name"],b_value_in⟩
noncomputable def e_meets:Ent:=⟨"meets",top 4,["asking","marks","word","name","values"],["asking","marks"],b_meets⟩
noncomputable def e_meets_all:Ent:=⟨"meets_all",top 5,["askings","marks"],["askings","marks"],b_meets_all⟩
noncomputable def e_stands:Ent:=⟨"stands",top 7,["saying","turn"],["saying","turn"],b_stands⟩
noncomputable def e_in_force:Ent:=⟨"in_force",top 8,["quieting","turn"],["quieting","turn"],b_in_force⟩
noncomputable def e_have_same_values:Ent:=⟨"have_same_values",top 9,["marks","others","names"],["marks","others","names"],b_have_same_values⟩
noncomputable def e_is_greater:Ent:=⟨"is_greater",top 10,["other","saying","rule"],["other","saying","rule"],b_is_greater⟩
noncomputable def e_ground:Ent:=⟨"ground",top 11,["saying","sayings","quietings","rules","turn","there","told","heavier","k","rule","greater"],["saying","sayings","quietings","rules","turn"],b_ground⟩
noncomputable def e_row_at:Ent:=⟨"row_at",top 16,["tree","place","row","k"],["tree","place"],b_row_at⟩
noncomputable def e_taken_from:Ent:=⟨"taken_from",top 17,["row","place","marks","found","k","below"],["row","place","marks"],b_taken_from⟩
noncomputable def e_taken:Ent:=⟨"taken",top 18,["tree","marks"],["tree","marks"],b_taken⟩
noncomputable def e_key_of:Ent:=⟨"key_of",top 19,["row","marks"],["row","marks"],b_key_of⟩
noncomputable def e_groups_of:Ent:=⟨"groups_of",top 20,["tree","marks"],["tree","marks"],b_groups_of⟩
noncomputable def e_members:Ent:=⟨"members",top 22,["tree","sayings","quietings","rules","turn","standing","forcing","numbers","saying","group"],["tree","sayings","quietings","rules","turn"],b_members⟩
noncomputable def e__law_mixed:Ent:=⟨"_law_mixed",top 24,["_law_script","_law_k","_law_number_here"],["_law_script","_law_k"],b__law_mixed⟩
noncomputable def e__law_pick:Ent:=⟨"_law_pick",top 25,["_law_script","_law_k","_law_many"],["_law_script","_law_k","_law_many"],b__law_pick⟩
noncomputable def e__law_words:Ent:=⟨"_law_words",top 26,["_law_script","_law_k","_law_signs","_law_many","_law_word","_law_way","_law_at","_law_first","_law_some","_law_j","_law_sign"],["_law_script","_law_k","_law_signs","_law_many"],b__law_words⟩
noncomputable def e__law_pool:Ent:=⟨"_law_pool",top 27,["_law_script","_law_k","_law_names","_law_values","_law_turn","_law_asked"],["_law_script","_law_k"],b__law_pool⟩
noncomputable def e__law_asking:Ent:=⟨"_law_asking",top 28,["_law_script","_law_k","_law_pool_here","_law_name","_law_word","_law_first","_law_some"],["_law_script","_law_k","_law_pool_here"],b__law_asking⟩
noncomputable def e__law_askings:Ent:=⟨"_law_askings",top 29,["_law_script","_law_k","_law_many","_law_pool_here"],["_law_script","_law_k","_law_many","_law_pool_here"],b__law_askings⟩
noncomputable def e__law_nodes:Ent:=⟨"_law_nodes",top 30,["_law_script","_law_k","_law_many","_law_pool_here","_law_nodes_here","_law_j","_law_at","_law_some","_law_turn","_law_names","_law_over","_law_node","_law_head"],["_law_script","_law_k","_law_many","_law_pool_here"],b__law_nodes⟩
noncomputable def e__law_row:Ent:=⟨"_law_row",top 31,["_law_nodes_here","_law_j","_law_node"],["_law_nodes_here","_law_j"],b__law_row⟩
noncomputable def e__law_tree:Ent:=⟨"_law_tree",top 32,["_law_script","_law_k","_law_many","_law_pool_here","_law_nodes_here"],["_law_script","_law_k","_law_many","_law_pool_here"],b__law_tree⟩
noncomputable def e__law_marks:Ent:=⟨"_law_marks",top 33,["_law_script","_law_k","_law_pool_here","_law_pairs","_law_j","_law_way"],["_law_script","_law_k","_law_pool_here"],b__law_marks⟩
noncomputable def e__law_number:Ent:=⟨"_law_number",top 34,["_law_script","_law_k","_law_most","_law_number_here","_law_reach"],["_law_script","_law_k","_law_most"],b__law_number⟩
noncomputable def e__law_mixed_up:Ent:=⟨"_law_mixed_up",top 35,["_law_script","_law_k","_law_some","_law_found","_law_j"],["_law_script","_law_k","_law_some"],b__law_mixed_up⟩
noncomputable def e__law_sayings:Ent:=⟨"_law_sayings",top 36,["_law_script","_law_k","_law_many","_law_base","_law_pool_here","_law_some","_law_j","_law_at","_law_came","_law_gone","_law_weight"],["_law_script","_law_k","_law_many","_law_base","_law_pool_here"],b__law_sayings⟩
noncomputable def e__law_quietings:Ent:=⟨"_law_quietings",top 37,["_law_script","_law_k","_law_many","_law_base","_law_pool_here","_law_some","_law_j","_law_at","_law_first","_law_last","_law_asked"],["_law_script","_law_k","_law_many","_law_base","_law_pool_here"],b__law_quietings⟩
noncomputable def e__law_rules:Ent:=⟨"_law_rules",top 38,["_law_script","_law_k","_law_many","_law_pool_here","_law_some","_law_j","_law_at","_law_turn","_law_names","_law_over"],["_law_script","_law_k","_law_many","_law_pool_here"],b__law_rules⟩
noncomputable def e_law:Ent:=⟨"law",top 39,["_law_script","_law_pool_here","_law_base","_law_tree_here","_law_sayings_here","_law_quietings_here","_law_rules_here","_law_turn","_law_found","_law_kept","_law_one","_law_told","_law_others"],["_law_script"],b_law⟩
noncomputable def ents:List Ent:=[e_has_name,e_value_in,e_meets,e_meets_all,e_stands,e_in_force,e_have_same_values,e_is_greater,e_ground,e_row_at,e_taken_from,e_taken,e_key_of,e_groups_of,e_members,e__law_mixed,e__law_pick,e__law_words,e__law_pool,e__law_asking,e__law_askings,e__law_nodes,e__law_row,e__law_tree,e__law_marks,e__law_number,e__law_mixed_up,e__law_sayings,e__law_quietings,e__law_rules,e_law]
theorem tab_eq:tabOf ents=tab:=rfl
theorem c_has_name:cSs ⟨defScope (top 1),e_has_name.N,ents.map (·.x),glN,blN⟩ 200 (defBody (top 1))=some b_has_name:=by kernel_rfl
theorem s_has_name:FnScope e_has_name.N e_has_name.ps (defScope (top 1)):=⟨rfl,rfl,rfl,by decide +kernel,rfl,by decide +kernel,by decide +kernel⟩
theorem t_has_name:(tabOf ents).lookup e_has_name.x=some ⟨e_has_name.N.length,e_has_name.ps.length,e_has_name.b⟩:=by kernel_rfl
theorem c_value_in:cSs ⟨defScope (top 2),e_value_in.N,ents.map (·.x),glN,blN⟩ 200 (defBody (top 2))=some b_value_in:=by kernel_rfl
theorem s_value_in:FnScope e_value_in.N e_value_in.ps (defScope (top 2)):=⟨rfl,rfl,rfl,by decide +kernel,rfl,by decide +kernel,by decide +kernel⟩
theorem t_value_in:(tabOf ents).lookup e_value_in.x=some ⟨e_value_in.N.length,e_value_in.ps.length,e_value_in.b⟩:=by kernel_rfl
theorem c_meets:cSs ⟨defScope (top 4),e_meets.N,ents.map (·.x),glN,blN⟩ 200 (defBody (top 4))=some b_meets:=by kernel_rfl
theorem s_meets:FnScope e_meets.N e_meets.ps (defScope (top 4)):=⟨rfl,rfl,rfl,by decide +kernel,rfl,by decide +kernel,by decide +kernel⟩
theorem t_meets:(tabOf ents).lookup e_meets.x=some ⟨e_meets.N.length,e_meets.ps.length,e_meets.b⟩:=by kernel_rfl
theorem c_meets_all:cSs ⟨defScope (top 5),e_meets_all.N,ents.map (·.x),glN,blN⟩ 200 (defBody (top 5))=some b_meets_all:=by kernel_rfl
theorem s_meets_all:FnScope e_meets_all.N e_meets_all.ps (defScope (top 5)):=⟨rfl,rfl,rfl,by decide +kernel,rfl,by decide +kernel,by decide +kernel⟩
theorem t_meets_all:(tabOf ents).lookup e_meets_all.x=some ⟨e_meets_all.N.length,e_meets_all.ps.length,e_meets_all.b⟩:=by kernel_rfl
theorem c_stands:cSs ⟨defScope (top 7),e_stands.N,ents.map (·.x),glN,blN⟩ 200 (defBody (top 7))=some b_stands:=by kernel_rfl
theorem s_stands:FnScope e_stands.N e_stands.ps (defScope (top 7)):=⟨rfl,rfl,rfl,by decide +kernel,rfl,by decide +kernel,by decide +kernel⟩
theorem t_stands:(tabOf ents).lookup e_stands.x=some ⟨e_stands.N.length,e_stands.ps.length,e_stands.b⟩:=by kernel_rfl
theorem c_in_force:cSs ⟨defScope (top 8),e_in_force.N,ents.map (·.x),glN,blN⟩ 200 (defBody (top 8))=some b_in_force:=by kernel_rfl
theorem s_in_force:FnScope e_in_force.N e_in_force.ps (defScope (top 8)):=⟨rfl,rfl,rfl,by decide +kernel,rfl,by decide +kernel,by decide +kernel⟩
theorem t_in_force:(tabOf ents).lookup e_in_force.x=some ⟨e_in_force.N.length,e_in_force.ps.length,e_in_force.b⟩:=by kernel_rfl
theorem c_have_same_values:cSs ⟨defScope (top 9),e_have_same_values.N,ents.map (·.x),glN,blN⟩ 200 (defBody (top 9))=some b_have_same_values:=by kernel_rfl
theorem s_have_same_values:FnScope e_have_same_values.N e_have_same_values.ps (defScope (top 9)):=⟨rfl,rfl,rfl,by decide +kernel,rfl,by decide +kernel,by decide +kernel⟩
theorem t_have_same_values:(tabOf ents).lookup e_have_same_values.x=some ⟨e_have_same_values.N.length,e_have_same_values.ps.length,e_have_same_values.b⟩:=by kernel_rfl
theorem c_is_greater:cSs ⟨defScope (top 10),e_is_greater.N,ents.map (·.x),glN,blN⟩ 200 (defBody (top 10))=some b_is_greater:=by kernel_rfl
theorem s_is_greater:FnScope e_is_greater.N e_is_greater.ps (defScope (top 10)):=⟨rfl,rfl,rfl,by decide +kernel,rfl,by decide +kernel,by decide +kernel⟩
theorem t_is_greater:(tabOf ents).lookup e_is_greater.x=some ⟨e_is_greater.N.length,e_is_greater.ps.length,e_is_greater.b⟩:=by kernel_rfl
theorem c_ground:cSs ⟨defScope (top 11),e_ground.N,ents.map (·.x),glN,blN⟩ 200 (defBody (top 11))=some b_ground:=by kernel_rfl
theorem s_ground:FnScope e_ground.N e_ground.ps (defScope (top 11)):=⟨rfl,rfl,rfl,by decide +kernel,rfl,by decide +kernel,by decide +kernel⟩
theorem t_ground:(tabOf ents).lookup e_ground.x=some ⟨e_ground.N.length,e_ground.ps.length,e_ground.b⟩:=by kernel_rfl
theorem c_row_at:cSs ⟨defScope (top 16),e_row_at.N,ents.map (·.x),glN,blN⟩ 200 (defBody (top 16))=some b_row_at:=by kernel_rfl
theorem s_row_at:FnScope e_row_at.N e_row_at.ps (defScope (top 16)):=⟨rfl,rfl,rfl,by decide +kernel,rfl,by decide +kernel,by decide +kernel⟩
theorem t_row_at:(tabOf ents).lookup e_row_at.x=some ⟨e_row_at.N.length,e_row_at.ps.length,e_row_at.b⟩:=by kernel_rfl
theorem c_taken_from:cSs ⟨defScope (top 17),e_taken_from.N,ents.map (·.x),glN,blN⟩ 200 (defBody (top 17))=some b_taken_from:=by kernel_rfl
theorem s_taken_from:FnScope e_taken_from.N e_taken_from.ps (defScope (top 17)):=⟨rfl,rfl,rfl,by decide +kernel,rfl,by decide +kernel,by decide +kernel⟩
theorem t_taken_from:(tabOf ents).lookup e_taken_from.x=some ⟨e_taken_from.N.length,e_taken_from.ps.length,e_taken_from.b⟩:=by kernel_rfl
theorem c_taken:cSs ⟨defScope (top 18),e_taken.N,ents.map (·.x),glN,blN⟩ 200 (defBody (top 18))=some b_taken:=by kernel_rfl
theorem s_taken:FnScope e_taken.N e_taken.ps (defScope (top 18)):=⟨rfl,rfl,rfl,by decide +kernel,rfl,by decide +kernel,by decide +kernel⟩
theorem t_taken:(tabOf ents).lookup e_taken.x=some ⟨e_taken.N.length,e_taken.ps.length,e_taken.b⟩:=by kernel_rfl
theorem c_key_of:cSs ⟨defScope (top 19),e_key_of.N,ents.map (·.x),glN,blN⟩ 200 (defBody (top 19))=some b_key_of:=by kernel_rfl
theorem s_key_of:FnScope e_key_of.N e_key_of.ps (defScope (top 19)):=⟨rfl,rfl,rfl,by decide +kernel,rfl,by decide +kernel,by decide +kernel⟩
theorem t_key_of:(tabOf ents).lookup e_key_of.x=some ⟨e_key_of.N.length,e_key_of.ps.length,e_key_of.b⟩:=by kernel_rfl
theorem c_groups_of:cSs ⟨defScope (top 20),e_groups_of.N,ents.map (·.x),glN,blN⟩ 200 (defBody (top 20))=some b_groups_of:=by kernel_rfl
theorem s_groups_of:FnScope e_groups_of.N e_groups_of.ps (defScope (top 20)):=⟨rfl,rfl,rfl,by decide +kernel,rfl,by decide +kernel,by decide +kernel⟩
theorem t_groups_of:(tabOf ents).lookup e_groups_of.x=some ⟨e_groups_of.N.length,e_groups_of.ps.length,e_groups_of.b⟩:=by kernel_rfl
theorem c_members:cSs ⟨defScope (top 22),e_members.N,ents.map (·.x),glN,blN⟩ 200 (defBody (top 22))=some b_members:=by kernel_rfl
theorem s_members:FnScope e_members.N e_members.ps (defScope (top 22)):=⟨rfl,rfl,rfl,by decide +kernel,rfl,by decide +kernel,by decide +kernel⟩
theorem t_members:(tabOf ents).lookup e_members.x=some ⟨e_members.N.length,e_members.ps.length,e_members.b⟩:=by kernel_rfl
theorem c__law_mixed:cSs ⟨defScope (top 24),e__law_mixed.N,ents.map (·.x),glN,blN⟩ 200 (defBody (top 24))=some b__law_mixed:=by kernel_rfl
theorem s__law_mixed:FnScope e__law_mixed.N e__law_mixed.ps (defScope (top 24)):=⟨rfl,rfl,rfl,by decide +kernel,rfl,by decide +kernel,by decide +kernel⟩
theorem t__law_mixed:(tabOf ents).lookup e__law_mixed.x=some ⟨e__law_mixed.N.length,e__law_mixed.ps.length,e__law_mixed.b⟩:=by kernel_rfl
theorem c__law_pick:cSs ⟨defScope (top 25),e__law_pick.N,ents.map (·.x),glN,blN⟩ 200 (defBody (top 25))=some b__law_pick:=by kernel_rfl
theorem s__law_pick:FnScope e__law_pick.N e__law_pick.ps (defScope (top 25)):=⟨rfl,rfl,rfl,by decide +kernel,rfl,by decide +kernel,by decide +kernel⟩
theorem t__law_pick:(tabOf ents).lookup e__law_pick.x=some ⟨e__law_pick.N.length,e__law_pick.ps.length,e__law_pick.b⟩:=by kernel_rfl
theorem c__law_words:cSs ⟨defScope (top 26),e__law_words.N,ents.map (·.x),glN,blN⟩ 200 (defBody (top 26))=some b__law_words:=by kernel_rfl
theorem s__law_words:FnScope e__law_words.N e__law_words.ps (defScope (top 26)):=⟨rfl,rfl,rfl,by decide +kernel,rfl,by decide +kernel,by decide +kernel⟩
theorem t__law_words:(tabOf ents).lookup e__law_words.x=some ⟨e__law_words.N.length,e__law_words.ps.length,e__law_words.b⟩:=by kernel_rfl
theorem c__law_pool:cSs ⟨defScope (top 27),e__law_pool.N,ents.map (·.x),glN,blN⟩ 200 (defBody (top 27))=some b__law_pool:=by kernel_rfl
theorem s__law_pool:FnScope e__law_pool.N e__law_pool.ps (defScope (top 27)):=⟨rfl,rfl,rfl,by decide +kernel,rfl,by decide +kernel,by decide +kernel⟩
theorem t__law_pool:(tabOf ents).lookup e__law_pool.x=some ⟨e__law_pool.N.length,e__law_pool.ps.length,e__law_pool.b⟩:=by kernel_rfl
theorem c__law_asking:cSs ⟨defScope (top 28),e__law_asking.N,ents.map (·.x),glN,blN⟩ 200 (defBody (top 28))=some b__law_asking:=by kernel_rfl
theorem s__law_asking:FnScope e__law_asking.N e__law_asking.ps (defScope (top 28)):=⟨rfl,rfl,rfl,by decide +kernel,rfl,by decide +kernel,by decide +kernel⟩
theorem t__law_asking:(tabOf ents).lookup e__law_asking.x=some ⟨e__law_asking.N.length,e__law_asking.ps.length,e__law_asking.b⟩:=by kernel_rfl
theorem c__law_askings:cSs ⟨defScope (top 29),e__law_askings.N,ents.map (·.x),glN,blN⟩ 200 (defBody (top 29))=some b__law_askings:=by kernel_rfl
theorem s__law_askings:FnScope e__law_askings.N e__law_askings.ps (defScope (top 29)):=⟨rfl,rfl,rfl,by decide +kernel,rfl,by decide +kernel,by decide +kernel⟩
theorem t__law_askings:(tabOf ents).lookup e__law_askings.x=some ⟨e__law_askings.N.length,e__law_askings.ps.length,e__law_askings.b⟩:=by kernel_rfl
theorem c__law_nodes:cSs ⟨defScope (top 30),e__law_nodes.N,ents.map (·.x),glN,blN⟩ 200 (defBody (top 30))=some b__law_nodes:=by kernel_rfl
theorem s__law_nodes:FnScope e__law_nodes.N e__law_nodes.ps (defScope (top 30)):=⟨rfl,rfl,rfl,by decide +kernel,rfl,by decide +kernel,by decide +kernel⟩
theorem t__law_nodes:(tabOf ents).lookup e__law_nodes.x=some ⟨e__law_nodes.N.length,e__law_nodes.ps.length,e__law_nodes.b⟩:=by kernel_rfl
theorem c__law_row:cSs ⟨defScope (top 31),e__law_row.N,ents.map (·.x),glN,blN⟩ 200 (defBody (top 31))=some b__law_row:=by kernel_rfl
theorem s__law_row:FnScope e__law_row.N e__law_row.ps (defScope (top 31)):=⟨rfl,rfl,rfl,by decide +kernel,rfl,by decide +kernel,by decide +kernel⟩
theorem t__law_row:(tabOf ents).lookup e__law_row.x=some ⟨e__law_row.N.length,e__law_row.ps.length,e__law_row.b⟩:=by kernel_rfl
theorem c__law_tree:cSs ⟨defScope (top 32),e__law_tree.N,ents.map (·.x),glN,blN⟩ 200 (defBody (top 32))=some b__law_tree:=by kernel_rfl
theorem s__law_tree:FnScope e__law_tree.N e__law_tree.ps (defScope (top 32)):=⟨rfl,rfl,rfl,by decide +kernel,rfl,by decide +kernel,by decide +kernel⟩
theorem t__law_tree:(tabOf ents).lookup e__law_tree.x=some ⟨e__law_tree.N.length,e__law_tree.ps.length,e__law_tree.b⟩:=by kernel_rfl
theorem c__law_marks:cSs ⟨defScope (top 33),e__law_marks.N,ents.map (·.x),glN,blN⟩ 200 (defBody (top 33))=some b__law_marks:=by kernel_rfl
theorem s__law_marks:FnScope e__law_marks.N e__law_marks.ps (defScope (top 33)):=⟨rfl,rfl,rfl,by decide +kernel,rfl,by decide +kernel,by decide +kernel⟩
theorem t__law_marks:(tabOf ents).lookup e__law_marks.x=some ⟨e__law_marks.N.length,e__law_marks.ps.length,e__law_marks.b⟩:=by kernel_rfl
theorem c__law_number:cSs ⟨defScope (top 34),e__law_number.N,ents.map (·.x),glN,blN⟩ 200 (defBody (top 34))=some b__law_number:=by kernel_rfl
theorem s__law_number:FnScope e__law_number.N e__law_number.ps (defScope (top 34)):=⟨rfl,rfl,rfl,by decide +kernel,rfl,by decide +kernel,by decide +kernel⟩
theorem t__law_number:(tabOf ents).lookup e__law_number.x=some ⟨e__law_number.N.length,e__law_number.ps.length,e__law_number.b⟩:=by kernel_rfl
theorem c__law_mixed_up:cSs ⟨defScope (top 35),e__law_mixed_up.N,ents.map (·.x),glN,blN⟩ 200 (defBody (top 35))=some b__law_mixed_up:=by kernel_rfl
theorem s__law_mixed_up:FnScope e__law_mixed_up.N e__law_mixed_up.ps (defScope (top 35)):=⟨rfl,rfl,rfl,by decide +kernel,rfl,by decide +kernel,by decide +kernel⟩
theorem t__law_mixed_up:(tabOf ents).lookup e__law_mixed_up.x=some ⟨e__law_mixed_up.N.length,e__law_mixed_up.ps.length,e__law_mixed_up.b⟩:=by kernel_rfl
theorem c__law_sayings:cSs ⟨defScope (top 36),e__law_sayings.N,ents.map (·.x),glN,blN⟩ 200 (defBody (top 36))=some b__law_sayings:=by kernel_rfl
theorem s__law_sayings:FnScope e__law_sayings.N e__law_sayings.ps (defScope (top 36)):=⟨rfl,rfl,rfl,by decide +kernel,rfl,by decide +kernel,by decide +kernel⟩
theorem t__law_sayings:(tabOf ents).lookup e__law_sayings.x=some ⟨e__law_sayings.N.length,e__law_sayings.ps.length,e__law_sayings.b⟩:=by kernel_rfl
theorem c__law_quietings:cSs ⟨defScope (top 37),e__law_quietings.N,ents.map (·.x),glN,blN⟩ 200 (defBody (top 37))=some b__law_quietings:=by kernel_rfl
theorem s__law_quietings:FnScope e__law_quietings.N e__law_quietings.ps (defScope (top 37)):=⟨rfl,rfl,rfl,by decide +kernel,rfl,by decide +kernel,by decide +kernel⟩
theorem t__law_quietings:(tabOf ents).lookup e__law_quietings.x=some ⟨e__law_quietings.N.length,e__law_quietings.ps.length,e__law_quietings.b⟩:=by kernel_rfl
theorem c__law_rules:cSs ⟨defScope (top 38),e__law_rules.N,ents.map (·.x),glN,blN⟩ 200 (defBody (top 38))=some b__law_rules:=by kernel_rfl
theorem s__law_rules:FnScope e__law_rules.N e__law_rules.ps (defScope (top 38)):=⟨rfl,rfl,rfl,by decide +kernel,rfl,by decide +kernel,by decide +kernel⟩
theorem t__law_rules:(tabOf ents).lookup e__law_rules.x=some ⟨e__law_rules.N.length,e__law_rules.ps.length,e__law_rules.b⟩:=by kernel_rfl
theorem c_law:cSs ⟨defScope (top 39),e_law.N,ents.map (·.x),glN,blN⟩ 200 (defBody (top 39))=some b_law:=by kernel_rfl
theorem s_law:FnScope e_law.N e_law.ps (defScope (top 39)):=⟨rfl,rfl,rfl,by decide +kernel,rfl,by decide +kernel,by decide +kernel⟩
theorem t_law:(tabOf ents).lookup e_law.x=some ⟨e_law.N.length,e_law.ps.length,e_law.b⟩:=by kernel_rfl
noncomputable def recs:List DefRec:=[recT ("has_name" : Str) (top 1),recT ("value_in" : Str) (top 2),recT ("meets" : Str) (top 4),recT ("meets_all" : Str) (top 5),recT ("stands" : Str) (top 7),recT ("in_force" : Str) (top 8),recT ("have_same_values" : Str) (top 9),recT ("is_greater" : Str) (top 10),recT ("ground" : Str) (top 11),recT ("row_at" : Str) (top 16),recT ("taken_from" : Str) (top 17),recT ("taken" : Str) (top 18),recT ("key_of" : Str) (top 19),recT ("groups_of" : Str) (top 20),recT ("members" : Str) (top 22),recT ("_law_mixed" : Str) (top 24),recT ("_law_pick" : Str) (top 25),recT ("_law_words" : Str) (top 26),recT ("_law_pool" : Str) (top 27),recT ("_law_asking" : Str) (top 28),recT ("_law_askings" : Str) (top 29),recT ("_law_nodes" : Str) (top 30),recT ("_law_row" : Str) (top 31),recT ("_law_tree" : Str) (top 32),recT ("_law_marks" : Str) (top 33),recT ("_law_number" : Str) (top 34),recT ("_law_mixed_up" : Str) (top 35),recT ("_law_sayings" : Str) (top 36),recT ("_law_quietings" : Str) (top 37),recT ("_law_rules" : Str) (top 38),recT ("law" : Str) (top 39)]
theorem all_mk {P q:Program}{w:World}{lo:List Str}{mean:ExcName->Option Value}{mg mb:Str->Option Value}{h:Heap}{fa:Addr}(T:Top q lo mean mg mb h)(hfa:mg "law" = some (.ref fa))(r:recsOf q=recs)(z:freeB q lo blN=true)
  : ∃ fd:FuncData,(∀ (s:Shared) (v:Value),BindsTo s fd ⟨[v],[]⟩ [("_law_script",v)])/\∀ base:Heap,(heapK h).In base->base.Ns mainGlobals mg->FnOk P w (heapK h) mg base CX0 40 fa fd ["_law_script"] (spOf (heapK h) 1 ((cx sortD 40).fn "law")) :=
 have hd:∀ e∈ents,DefR (heapK h) mg ents glN blN e:=List.forall_mem_cons.mpr ⟨DefR.mkT T r 0 rfl (fun _ _ _ _ _ _=>on2 fun _ _=>rfl) s_has_name c_has_name t_has_name,
  List.forall_mem_cons.mpr ⟨DefR.mkT T r 1 rfl (fun _ _ _ _ _ _=>on2 fun _ _=>rfl) s_value_in c_value_in t_value_in,
  List.forall_mem_cons.mpr ⟨DefR.mkT T r 2 rfl (fun _ _ _ _ _ _=>on2 fun _ _=>rfl) s_meets c_meets t_meets,
  List.forall_mem_cons.mpr ⟨DefR.mkT T r 3 rfl (fun _ _ _ _ _ _=>on2 fun _ _=>rfl) s_meets_all c_meets_all t_meets_all,
  List.forall_mem_cons.mpr ⟨DefR.mkT T r 4 rfl (fun _ _ _ _ _ _=>on2 fun _ _=>rfl) s_stands c_stands t_stands,
  List.forall_mem_cons.mpr ⟨DefR.mkT T r 5 rfl (fun _ _ _ _ _ _=>on2 fun _ _=>rfl) s_in_force c_in_force t_in_force,
  List.forall_mem_cons.mpr ⟨DefR.mkT T r 6 rfl (fun _ _ _ _ _ _=>on3 fun _ _ _=>rfl) s_have_same_values c_have_same_values t_have_same_values,
  List.forall_mem_cons.mpr ⟨DefR.mkT T r 7 rfl (fun _ _ _ _ _ _=>on3 fun _ _ _=>rfl) s_is_greater c_is_greater t_is_greater,
  List.forall_mem_cons.mpr ⟨DefR.mkT T r 8 rfl (fun _ _ _ _ _ _=>on5 fun _ _ _ _ _=>rfl) s_ground c_ground t_ground,
  List.forall_mem_cons.mpr ⟨DefR.mkT T r 9 rfl (fun _ _ _ _ _ _=>on2 fun _ _=>rfl) s_row_at c_row_at t_row_at,
  List.forall_mem_cons.mpr ⟨DefR.mkT T r 10 rfl (fun _ _ _ _ _ _=>on3 fun _ _ _=>rfl) s_taken_from c_taken_from t_taken_from,
  List.forall_mem_cons.mpr ⟨DefR.mkT T r 11 rfl (fun _ _ _ _ _ _=>on2 fun _ _=>rfl) s_taken c_taken t_taken,
  List.forall_mem_cons.mpr ⟨DefR.mkT T r 12 rfl (fun _ _ _ _ _ _=>on2 fun _ _=>rfl) s_key_of c_key_of t_key_of,
  List.forall_mem_cons.mpr ⟨DefR.mkT T r 13 rfl (fun _ _ _ _ _ _=>on2 fun _ _=>rfl) s_groups_of c_groups_of t_groups_of,
  List.forall_mem_cons.mpr ⟨DefR.mkT T r 14 rfl (fun _ _ _ _ _ _=>on5 fun _ _ _ _ _=>rfl) s_members c_members t_members,
  List.forall_mem_cons.mpr ⟨DefR.mkT T r 15 rfl (fun _ _ _ _ _ _=>on2 fun _ _=>rfl) s__law_mixed c__law_mixed t__law_mixed,
  List.forall_mem_cons.mpr ⟨DefR.mkT T r 16 rfl (fun _ _ _ _ _ _=>on3 fun _ _ _=>rfl) s__law_pick c__law_pick t__law_pick,
  List.forall_mem_cons.mpr ⟨DefR.mkT T r 17 rfl (fun _ _ _ _ _ _=>on4 fun _ _ _ _=>rfl) s__law_words c__law_words t__law_words,
  List.forall_mem_cons.mpr ⟨DefR.mkT T r 18 rfl (fun _ _ _ _ _ _=>on2 fun _ _=>rfl) s__law_pool c__law_pool t__law_pool,
  List.forall_mem_cons.mpr ⟨DefR.mkT T r 19 rfl (fun _ _ _ _ _ _=>on3 fun _ _ _=>rfl) s__law_asking c__law_asking t__law_asking,
  List.forall_mem_cons.mpr ⟨DefR.mkT T r 20 rfl (fun _ _ _ _ _ _=>on4 fun _ _ _ _=>rfl) s__law_askings c__law_askings t__law_askings,
  List.forall_mem_cons.mpr ⟨DefR.mkT T r 21 rfl (fun _ _ _ _ _ _=>on4 fun _ _ _ _=>rfl) s__law_nodes c__law_nodes t__law_nodes,
  List.forall_mem_cons.mpr ⟨DefR.mkT T r 22 rfl (fun _ _ _ _ _ _=>on2 fun _ _=>rfl) s__law_row c__law_row t__law_row,
  List.forall_mem_cons.mpr ⟨DefR.mkT T r 23 rfl (fun _ _ _ _ _ _=>on4 fun _ _ _ _=>rfl) s__law_tree c__law_tree t__law_tree,
  List.forall_mem_cons.mpr ⟨DefR.mkT T r 24 rfl (fun _ _ _ _ _ _=>on3 fun _ _ _=>rfl) s__law_marks c__law_marks t__law_marks,
  List.forall_mem_cons.mpr ⟨DefR.mkT T r 25 rfl (fun _ _ _ _ _ _=>on3 fun _ _ _=>rfl) s__law_number c__law_number t__law_number,
  List.forall_mem_cons.mpr ⟨DefR.mkT T r 26 rfl (fun _ _ _ _ _ _=>on3 fun _ _ _=>rfl) s__law_mixed_up c__law_mixed_up t__law_mixed_up,
  List.forall_mem_cons.mpr ⟨DefR.mkT T r 27 rfl (fun _ _ _ _ _ _=>on5 fun _ _ _ _ _=>rfl) s__law_sayings c__law_sayings t__law_sayings,
  List.forall_mem_cons.mpr ⟨DefR.mkT T r 28 rfl (fun _ _ _ _ _ _=>on5 fun _ _ _ _ _=>rfl) s__law_quietings c__law_quietings t__law_quietings,
  List.forall_mem_cons.mpr ⟨DefR.mkT T r 29 rfl (fun _ _ _ _ _ _=>on4 fun _ _ _ _=>rfl) s__law_rules c__law_rules t__law_rules,
  List.forall_mem_cons.mpr ⟨DefR.mkT T r 30 rfl (fun _ _ _ _ _ _=>on1 fun _=>rfl) s_law c_law t_law,
  fun _ h9=>nomatch h9⟩⟩⟩⟩⟩⟩⟩⟩⟩⟩⟩⟩⟩⟩⟩⟩⟩⟩⟩⟩⟩⟩⟩⟩⟩⟩⟩⟩⟩⟩⟩
 have hg:∀ x∈glN,GlR (heapK h) mg gl x:=fun _ h9=>nomatch h9
 law_mkT (fun k=>srt_ok (by cases k <;> rfl)) hd hg (free_of T z) 40 (e:=e_law) (by simp[ents]) rfl (fun _ _ _ _ _ _ _=>rfl) hfa
end Law
open PySem PySem.W PyProof.Rows
def Law.pw2:Program:={ PySem.Challenge.pw_belfry_k41_records_do_not_reach_back with main:={ PySem.Challenge.pw_belfry_k41_records_do_not_reach_back.main with body:=[Law.top 0,Law.top 1,Law.top 2,Law.top 3,Law.top 4,Law.top 5,Law.top 6,Law.top 7,Law.top 8,Law.top 9,Law.top 10,Law.top 11,Law.top 12,Law.top 13,Law.top 14,Law.top 15,Law.top 16,Law.top 17,Law.top 18,Law.top 19,Law.top 20,Law.top 21,Law.top 22,Law.top 23,Law.top 24,Law.top 25,Law.top 26,Law.top 27,Law.top 28,Law.top 29,Law.top 30,Law.top 31,Law.top 32,Law.top 33,Law.top 34,Law.top 35,Law.top 36,Law.top 37,Law.top 38,Law.top 39] } }
def Law.rw2:OpenLaw:={ PySem.Challenge.rw_belfry_k41_records_do_not_reach_back with prog:=Law.pw2 }
theorem Law.rw_eq:Law.rw2=PySem.Challenge.rw_belfry_k41_records_do_not_reach_back:=by kernel_rfl
noncomputable def Law.vw:Program:={ Law.pw2 with main:={ Law.pw2.main with body:=[Law.top 1,Law.top 2,Law.top 4,Law.top 5,Law.top 7,Law.top 8,Law.top 9,Law.top 10,Law.top 11,Law.top 13,Law.top 14,Law.top 16,Law.top 17,Law.top 18,Law.top 19,Law.top 20,Law.top 22,Law.top 24,Law.top 25,Law.top 26,Law.top 27,Law.top 28,Law.top 29,Law.top 30,Law.top 31,Law.top 32,Law.top 33,Law.top 34,Law.top 35,Law.top 36,Law.top 37,Law.top 38,Law.top 39] } }
set_option maxRecDepth 100000 in
set_option maxHeartbeats 0 in
theorem Law.left:LeftO Law.rw2.row.prog Law.vw [] (fun s=>xlAt Law.vw [] s&&recOk (RowW.records (OpenRow.toRowW Law.rw2.row)) s) (Hook.obs PySem.W.Hook.none) (Hook.val PySem.W.Hook.none) 20000:=fun w=>by kernel_rfl
set_option maxRecDepth 100000 in
set_option maxHeartbeats 0 in
theorem Law.said:Law.rw2.wellSaid=true:=by kernel_rfl
set_option maxRecDepth 100000 in
set_option maxHeartbeats 0 in
theorem Law.holds2:Law.rw2.Holds:=by
 refine holds_law Law.said fun said=>?_;refine holds_open (q:=Law.vw) (loose:=[]) (Xt:=fun s=>xlAt Law.vw [] s&&recOk (RowW.records (OpenRow.toRowW Law.rw2.row)) s) (XP:=XL Law.vw []) (Yf:=Hook.obs PySem.W.Hook.none) (Ya:=Hook.val PySem.W.Hook.none) (YP:=Hook.says PySem.W.Hook.none) (N:=20000) Law.left (Hook.of PySem.W.Hook.none) (Hook.keeps PySem.W.Hook.none)
  (fun s e=>xl_of s (Bool.and_eq_true_iff.mp e).1) XL.keeps (by rfl) (by rfl) (by rfl) (fun s e=>recFacts_of (Bool.and_eq_true_iff.mp e).2) (by rfl) said (by decide +kernel) ⟨rfl,rfl,rfl,rfl,rfl,by decide +kernel⟩ ?hw ?hc
 case hw=>w_witness2
 refine L3.walkT (l:=Law.rw2) (x:="_law_script") (k:=40) (g:=(Law.cx L3.sortD 40).fn "law") ⟨rfl,by decide,by decide,rfl⟩ rfl rfl Law.law_d ?F
 case F =>
  intro w mean mg mb fa h T hmg;exact Law.all_mk T hmg (by kernel_rfl) (by kernel_rfl)
theorem PySem.Challenge.cw_belfry_k41_records_do_not_reach_back_holds : PySem.Challenge.rw_belfry_k41_records_do_not_reach_back.Holds := by
 exact Law.rw_eq ▸ Law.holds2
