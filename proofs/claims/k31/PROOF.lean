import PyProof.Rows.All
import Wide.All
import OpenK.AllK
import Wide.FinOn
import Lean
import PyProof.EqAt
import PyProof.EqKinds
import PyProof.TupleCall
import PySem.Challenge.RW_holebook_k31_what_no_table_is
set_option linter.all false
set_option Elab.async false
set_option maxRecDepth 100000
set_option maxHeartbeats 4000000
noncomputable section
local macro_rules|`(tactic|omega)=>`(tactic|first|with_reducible assumption|with_reducible exact Nat.le_trans (by assumption) (Nat.le_of_ble_eq_true rfl)|with_reducible exact Nat.lt_of_lt_of_le (by assumption) (by assumption)|with_reducible exact Nat.le_of_lt (by assumption)|lia)
theorem O9m{p:Prop}(h:p:=by omega):p:=h
def qa0:=@Nat.le_refl
def qa1:=@Nat.le_trans
def qa2:=@List.length_map
def qa3:=@PySem.Heap.get?_push_of_some
def qa4:=@Nat.lt_of_le_of_lt
def qa5:=@PySem.wpAny_bind
def qa6:=@Nat.lt_of_lt_of_le
def qa7:=@PySem.Heap.lt_size
def qa8:=@Nat.zero_le
def qa9:=@Int.natAbs_mul
def qb0:=@List.getElem?_eq_getElem
def qb1:=@Nat.mul_le_mul_right
def qb2:=@List.getElem?_eq_some_iff
def qb3:=@List.size_toArray
def qb4:=@Int.natAbs_neg
def qb5:=@PySem.Heap.get?_push_size
def qb6:=@Bool.false_ne_true
def qb7:=@List.getElem?_map
def qb8:=@Nat.ne_of_lt
def qb9:=@List.mem_cons
def qc0:=@Int.one_mul
def qc1:=@List.mem_cons_of_mem
def qc2:=@of_decide_eq_true
def qc3:=@Nat.le_of_lt
def qc4:=@Nat.le_add_right
def qc5:=@Bool.and_eq_true
def qc6:=@List.length_cons
def qc7:=@Nat.pow_add
def qc8:=@List.map_append
def qc9:=@PySem.PassesOwn.never
def qd0:=@Int.natAbs_add_le
def qd1:=@Nat.one_mul
def qd2:=@Nat.mul_le_mul_left
def qd3:=@PySem.wpAny_pure
def qd4:=@Nat.add_mul
def qd5:=@List.getD_eq_getElem?_getD
def qd6:=@Int.fdiv_eq_ediv_of_nonneg
def qd7:=@Option.some.inj
def qd8:=@List.mem_append_right
def qd9:=@Nat.mul_le_mul
def qe0:=@Int.natAbs_ediv_le_natAbs
def qe1:=@Nat.pow_le_pow_right
def qe2:=@List.mem_of_getElem?
def qe3:=@List.length_take
def qe4:=@Int.toNat_natCast
def qe5:=@List.length_append
def qe6:=@Decidable.byContradiction
def qe7:=@Int.mul_comm
def qe8:=@List.mem_cons_self
def qe9:=@Int.mul_assoc
def qf0:=@decide_eq_false
def qf1:=@PyProof.Rows.callWith_type1
def qf2:=@List.getElem?_eq_none
def qf3:=@Nat.le_of_not_lt
def qf4:=@PySem.F.plainAttrs_list
def qf5:=@Nat.lt_or_ge
def qf6:=@PySem.boot_len
def qf7:=@List.mem_map
def qf8:=@Int.mul_nonneg
def qf9:=@PySem.W.mg_none_of
def qg0:=@Int.eq_ofNat_of_zero_le
def qg1:=@Nat.pow_lt_pow_right
def qg2:=@Nat.succ_le_succ
def qg3:=@List.not_mem_nil
def qg4:=@List.length_eraseIdx_of_lt
def qg5:=@PySem.wpAny_mono
def qg6:=@List.mem_or_eq_of_mem_set
def qg7:=@Nat.pow_succ
def qg8:=@Int.mul_le_mul_of_nonneg_right
def qg9:=@Nat.one_le_two_pow
def qh0:=@Int.mul_ediv_cancel_left
def qh1:=@Nat.lt_of_not_le
def qh2:=@Nat.le_antisymm
def qh3:=@List.replicate_succ
def qh4:=@List.append_nil
def qh5:=@PySem.W.mg_of
def qh6:=@PySem.Heap.size_push
def qh7:=@List.length_drop
def qh8:=@List.all_eq_true
def qh9:=@PySem.W.callWith_K
def qi0:=@Int.mul_zero
def qi1:=@PySem.wpAny_Call_Name_kw
def qi2:=@List.length_set
def qi3:=@PySem.wpAny_field
def qi4:=@Int.zero_add
def qi5:=@Nat.lt_irrefl
def qi6:=@List.map_cons
def qi7:=@List.getElem_of_mem
def qi8:=@PySem.wpAny_truthy_bool
def qi9:=@PySem.wpAny_loadPart_at
def qj0:=@Int.mul_le_mul_of_nonneg_left
def qj1:=@decide_eq_true
def qj2:=@PySem.W.kia_one
def qj3:=@List.flatten_cons
def qj4:=@Int.le_of_dvd
def qj5:=@List.getElem?_set_ne
def qj6:=@PySem.wpAny_passesOwn
def qj7:=@List.mem_range
def qj8:=@List.getElem?_append_left
def qj9:=@Bool.false_and
def qk0:=@List.getElem_mem
def qk1:=@beq_eq_false_iff_ne
def qk2:=@PySem.mem_of_lookup
def qk3:=@Nat.le_succ
def qk4:=@Nat.add_le_add_left
def qk5:=@List.getElem?_range
def qk6:=@Int.neg_neg
def qk7:=@PySem.F.slot_tuple_iterator_next
def qk8:=@PySem.wpAny_seqItems
def qk9:=@Nat.le_mul_of_pos_right
def ql0:=@Int.emod_nonneg
def ql1:=@Bool.eq_iff_iff
def ql2:=@PyProof.Rows.boot_repr
def ql3:=@Option.map_eq_some_iff
def ql4:=@List.take_of_length_le
def ql5:=@List.getElem?_set
def ql6:=@Int.neg_mul
def ql7:=@PySem.wpAny_setField_rec
def ql8:=@PySem.W.methodCall_KW
def ql9:=@Nat.sub_self
def qm0:=@Nat.mul_lt_mul''
def qm1:=@List.take_length
def qm2:=@List.lookup_cons
def qm3:=@List.getElem?_of_mem
def qm4:=@Bool.and_eq_true_iff
def qm5:=@Bool.true_and
def qm6:=@PySem.W.hideAll_get
def qm7:=@Nat.mul_lt_mul_of_pos_left
def qm8:=@List.getElem?_append_right
def qm9:=@Nat.ne_of_gt
def qn0:=@Int.emod_lt_of_pos
def qn1:=@Bool.and_false
def qn2:=@PySem.wpAny_execs_nil
def qn3:=@beq_iff_eq
def qn4:=@PySem.F.type_list_insert
def qn5:=@PySem.F.type_list_append
def qn6:=@PySem.F.slot_list_insert
def qn7:=@PySem.F.slot_list_append
def qn8:=@Nat.lt_trichotomy
def qn9:=@List.length_range
def qo0:=@List.ext_getElem?
def qo1:=@List.append_assoc
def qo2:=@Int.not_lt
def qo3:=@Int.dvd_mul_of_dvd_right
def qo4:=@Nat.add_assoc
def qo5:=@Nat.lt_succ_self
def qo6:=@PySem.W.cellsFrom_some
def qo7:=@Nat.le_mul_of_pos_left
def qo8:=@List.getElem?_set_self
def qo9:=@Int.fmod_nonneg_of_pos
def qp0:=@PySem.wpAny_pyIter_list
def qp1:=@Nat.min_self
def qp2:=@List.of_mem_zip
def qp3:=@List.nodup_cons
def qp4:=@List.mem_append
def qp5:=@Int.natAbs_dvd_natAbs
def qp6:=@Int.mul_eq_zero
def qp7:=@Int.le_trans
def qp8:=@Int.le_of_lt
def qp9:=@List.mem_append_left
def qq0:=@PySem.wpAny_pyIter_zip
def qq1:=@PySem.wpAny_call_entry
def qq2:=@Int.mul_le_mul
def qq3:=@PySem.W.plainGet_of
def qq4:=@Nat.lt_two_pow_self
def qq5:=@Nat.log2_lt
def qq6:=@List.filterMap_cons
def qq7:=@Int.mul_one
def qq8:=@Int.ediv_mul_cancel
def qq9:=@PySem.Heap.get?_update_other
def qr0:=@List.mem_filterMap
def qr1:=@Int.fmod_lt_of_pos
def qr2:=@Int.dvd_trans
def qr3:=@PySem.Heap.get?_update_self
def qr4:=@PySem.F.typeOf_object_class
def qr5:=@PySem.F.slot_zip_next
def qr6:=@Bool.false_eq_true
def qr7:=@decide_eq_true_eq
def qr8:=@Nat.sub_zero
def qr9:=@Nat.lt_trans
def qs0:=@Nat.le_of_eq
def qs1:=@Int.zero_mul
open PySem in
noncomputable abbrev QL:=List (List Int)
open PySem in
noncomputable abbrev LAObj:=List (Addr × Obj)
open PySem in
noncomputable abbrev Py:=Array (Option Value)
open PySem in
noncomputable abbrev OAddr:=Option Addr
namespace L2
open PySem PySem.Spec PyProof.Rows
noncomputable abbrev Key:=Sum Int Str
noncomputable def KU:Key->Value->Bool
 | .inl k,v=>Value.isInt k v
 | .inr x,v=>Value.isStrOf x v
noncomputable def SQ(w:World):Key->Int
 | .inl k=>hashInt k
 | .inr x=>hashStr w x
theorem Ds:∀{k:Key}{v:Value},KU k v=true->(∃i t,k=Sum.inl i/\v=Value.int i t)\/(∃x t,k=Sum.inr x/\v=Value.str x t)
 | .inl i,v,h=>by
   obtain⟨t,e⟩:=Value.isInt_shape (k:=i) (v:=v) h;exact .inl ⟨i,t,rfl,e⟩
 | .inr x,v,h=>by
   obtain⟨t,e⟩:=Value.isStrOf_shape (x:=x) (v:=v) h;exact .inr ⟨x,t,rfl,e⟩
theorem mO(a b:Int):decide ((Sum.inl a:Key)=Sum.inl b)=(a==b):=by
 by_cases e:a=b
 . subst e;simp
 . have h:¬(Sum.inl a:Key)=Sum.inl b:=fun q=>e (Sum.inl.inj q);rw[qf0 h];exact(qk1.mpr e).symm
theorem ML(a b:Str):decide ((Sum.inr a:Key)=Sum.inr b)=decide (a=b):=by
 by_cases e:a=b
 . subst e;simp
 . have h:¬(Sum.inr a:Key)=Sum.inr b:=fun q=>e (Sum.inr.inj q);rw[qf0 h,qf0 e]
theorem MN(a:Int)(b:Str):decide ((Sum.inl a:Key)=Sum.inr b)=false:=qf0 (fun q=>nomatch q)
theorem MM(a:Str)(b:Int):decide ((Sum.inr a:Key)=Sum.inl b)=false:=qf0 (fun q=>nomatch q)
noncomputable def X1(prog:Program)(w:World):PySem.KeyKind prog w Key where
 is:=KU
 hash:=SQ w
 inj:=fun v a b ha hb=>by
  rcases Ds ha with⟨i,t,rfl,rfl⟩|⟨x,t,rfl,rfl⟩
  . rcases Ds hb with⟨j,u,rfl,e⟩|⟨y,u,rfl,e⟩
    . injection e with e1 _;rw[e1]
    . exact nomatch e
  . rcases Ds hb with⟨j,u,rfl,e⟩|⟨y,u,rfl,e⟩
    . exact nomatch e
    . injection e with e1 _;rw[e1]
 byValue:=fun k v h=>by
  rcases Ds h with⟨i,t,rfl,rfl⟩|⟨x,t,rfl,rfl⟩<;>rfl
 pyHash:=fun hv h=>by
  rcases Ds hv with⟨i,t,rfl,rfl⟩|⟨x,t,rfl,rfl⟩
  . exact wpAny_pyHash_int h
  . exact wpAny_pyHash_str h
 eqBool:=fun hu hv h=>by
  rcases Ds hu with⟨i,t,rfl,rfl⟩|⟨x,t,rfl,rfl⟩
  . rcases Ds hv with⟨j,u,rfl,rfl⟩|⟨y,u,rfl,rfl⟩
    . rw[mO]at h;exact wpAny_eqBool_int h
    . rw[MN]at h;exact SeqAt.EqAt.int_str i t y u _ _ _ _ h
  . rcases Ds hv with⟨j,u,rfl,rfl⟩|⟨y,u,rfl,rfl⟩
    . rw[MM]at h;exact SeqAt.EqAt.str_int x t j u _ _ _ _ h
    . rw[ML]at h;exact wpAny_eqBool_str h
 «strs»:=fun k x t v h=>by
  rcases Ds h with⟨i,u,rfl,e⟩|⟨y,u,rfl,e⟩
  . exact nomatch e
  . injection e with e1 _;subst e1;cases v<;>rfl
inductive V where
 | non | bl (b:Bool) | int (i:Int) | str (x:Str) | byt (b:Array UInt8) | flt (b:UInt64) | ref (a:Addr) | ty (n:String)
 deriving DecidableEq
noncomputable abbrev rS(a:Addr):Option V:=some (.ref a)
noncomputable abbrev iS(i:Int):Option V:=some (.int i)
noncomputable def RelV:V->Value->Prop
 | .non,u=>u=Value.none
 | .bl b,u=>u=Value.bool b
 | .int i,u=>∃t,u=Value.int i t
 | .str x,u=>∃t,u=Value.str x t
 | .byt b,u=>∃t,u=Value.bytes b t
 | .flt b,u=>∃t,u=Value.float b t
 | .ref a,u=>u=Value.ref a
 | .ty n,u=>u=Value.type n
noncomputable abbrev Cg:List V->List Value->Prop:=Paired RelV
theorem Cg.length{xs:List V}{us:List Value}(r:Cg xs us):xs.length=us.length:=Paired.length r
theorem Cg.get:∀{xs:List V}{us:List Value}{i:Nat}{x:V},Cg xs us->xs[i]?=some x->∃u,us[i]?=some u/\RelV x u
 | _,_,_,_,.nil,e=>by simp at e
 | _,_,0,_,.cons r _,e=>by simp at e;subst e;exact⟨_,rfl,r⟩
 | _,_,i+1,x,.cons _ t,e=>by
   obtain⟨u,h1,h2⟩:=Cg.get (i:=i) (x:=x) t (by simpa using e);exact⟨u,by simpa using h1,h2⟩
theorem Cg.set{x:V}{u:Value}(r:RelV x u):∀{xs:List V}{us:List Value} (i:Nat),Cg xs us->Cg (xs.set i x) (us.set i u)
 | _,_,_,.nil=>.nil
 | _,_,0,.cons _ t=>.cons r t
 | _,_,i+1,.cons q t=>.cons q (Cg.set r i t)
theorem Cg.append:∀{xs ys:List V}{us ws:List Value},Cg xs us->Cg ys ws->Cg (xs++ys) (us++ws)
 | _,_,_,_,.nil,s=>s
 | _,_,_,_,.cons r t,s=>.cons r (Cg.append t s)
theorem Cg.take:∀{xs:List V}{us:List Value} (n:Nat),Cg xs us->Cg (xs.take n) (us.take n)
 | _,_,0,_=>.nil
 | _,_,_+1,.nil=>.nil
 | _,_,n+1,.cons r t=>.cons r (Cg.take n t)
theorem Cg.drop:∀{xs:List V}{us:List Value} (n:Nat),Cg xs us->Cg (xs.drop n) (us.drop n)
 | _,_,0,r=>r
 | _,_,_+1,.nil=>.nil
 | _,_,n+1,.cons _ t=>Cg.drop n t
noncomputable def Vs:Option V->Option Value->Prop
 | some v,some u=>RelV v u
 | none,none=>True
 | _,_=>False
noncomputable def KV{κ:Type}:List (κ × V)->List (κ × Value)->Prop:=Paired fun(p:κ × V) (q:κ × Value)=>p.1=q.1/\RelV p.2 q.2
noncomputable def kV:Key->V
 | .inl i=>.int i
 | .inr x=>.str x
inductive HO where
 | lst (xs:List V)
 | tup (xs:List V)
 | dK (kvs:List (Key × V)) | dT (kvs:List (List Key × V))
 | set (S:Int->Bool) (n:Nat)
 | ins (C dx:Addr) (fs:List (Str × V))
 | own (x:Addr)
 | xd (fs:List (Str × V))
 | met (f x:Addr)
 | rng (lo hi:Int)
 | frz (o:Obj) (u:HO)
 | tbl (ps:Array Value)
 | ext (φ:Heap->Prop)
noncomputable abbrev Hp:=Addr->Option HO
noncomputable def upd(H:Hp)(a:Addr)(o:HO):Hp:=fun b=>if b=a then some o else H b
theorem Ae{H:Hp}{a:Addr}{o:HO}:upd H a o a=some o:=by unfold upd;rw[if_pos rfl]
theorem Bb{H:Hp}{a b:Addr}{o:HO}(h:b≠a):upd H a o b=H b:=by unfold upd;rw[if_neg h]
theorem E5{H:Hp}{a b:Addr}{o u:HO}(h:H a=some o)(h':H b=some u)(d:o≠u):a≠b:=by
 intro e;subst e;rw[h]at h';exact d (qd7 h')
theorem Bj{H:Hp}{a b:Addr}{o:HO}(h:H a=some o)(h':H b=none):a≠b:=by
 intro e;subst e;rw[h]at h';cases h'
noncomputable def Mi(h:Heap)(a:Addr)(items:Array Value):Prop:=∃o,h.get? a=some o/\o.cls=.type "tuple"/\o.dict=none/\∃n,o.data=.seq items n
theorem Mi.tup{h:Heap}{a:Addr}{items:Array Value}(x:Mi h a items):IsTup h a items:=let ⟨o,e,c,_,d⟩:=x;⟨o,e,c,d⟩
theorem Mi.lt{h:Heap}{a:Addr}{items:Array Value}(x:Mi h a items):a<h.objs.size:=x.tup.lt
theorem Mi.new(h:Heap)(items:Array Value):Mi (h.push { cls:=.type "tuple",data:=.seq items }) h.objs.size items:=⟨_,qb5 _ rfl,rfl,rfl,_,rfl⟩
section
variable(P:Program)(w:World)
noncomputable def ObjOk(H:Hp)(h:Heap)(a:Addr):HO->Prop
 | .lst xs=>xs.length<=sizeLine/\∃(its:List Value) (n:Nat),Cg xs its/\h.get? a=some { cls:=.type "list",data:=.seq its.toArray n }
 | .tup xs=>xs.length<=sizeLine/\∃its:List Value,Cg xs its/\Mi h a its.toArray
 | .dK kvs=>kvs.length<=sizeLine/\(a==sysModules)=false/\∃vs,KV kvs vs/\h.DictOf (X1 P w) a vs
 | .dT kvs=>kvs.length<=sizeLine/\(a==sysModules)=false/\∃xs:List (List Key × Addr × Value),
    Paired (fun(p:List Key × V) (q:List Key × Addr × Value)=>p.1=q.1/\H q.2.1=some (.tup (p.1.map kV))/\RelV p.2 q.2.2) kvs xs ∧
    ∃o es ep,h.get? a=some o/\o.ExactDict/\o.data=.dict es ep/\es.toList=xs.map (entryOfKey (tupleKind (X1 P w)))/\(xs.map (·.1)).Nodup
 | .set S n=>h.SetOf (intKind P w) a S n
 | .ins C dx fs=>H dx=some (.own a)/\fs.length<=1000/\dx≠a/\h.get? a=some (PySem.W.instObj C dx) ∧
    ∃mA,h.Ns1 dx mA/\(∀f,Vs (fs.lookup f) (mA f))/\PySem.Within mA (fs.map (·.1))
 | .own _=>∃o,h.get? a=some o
 | .xd fs=>∃mA,h.Ns1 a mA/\∀f,Vs (fs.lookup f) (mA f)
 | .rng lo hi=>∃t u v,h.get? a=some { cls:=.type "range",data:=.fields #[.int lo t,.int hi u,.int 1 v] }
 | .frz o u=>h.get? a=some o/\ObjOk H h a u
 | .tbl ps=>h.get? a=some { cls:=.none,data:=.fields ps }
 | .met f x=>h.get? a=some (PySem.W.methodObj (.ref f) (.ref x))
 | .ext φ=>φ h/\(∃o,h.get? a=some o)/\∀h1 h2:Heap,φ h1->(∀o,h1.get? a=some o->h2.get? a=some o)->φ h2
noncomputable def Nk(H:Hp)(h:Heap):Prop:=∀a o,H a=some o->ObjOk P w H h a o
end
section
variable{P:Program}{w:World}{H H':Hp}{h h':Heap}{a:Addr}{o:HO}
theorem ObjOk.lt(x:ObjOk P w H h a o):a<h.objs.size:=by
 cases o with
 | lst xs=>obtain⟨_,_,_,_,e⟩:=x;exact qa7 e
 | tup xs=>obtain⟨_,_,_,p⟩:=x;exact p.lt
 | dK kvs=>obtain⟨_,_,_,_,o,_,_,e,_⟩:=x;exact qa7 e
 | dT kvs=>obtain⟨_,_,_,_,o,_,_,e,_⟩:=x;exact qa7 e
 | set S n=>obtain⟨o,_,_,_,e,_⟩:=x;exact qa7 e
 | ins C dx fs=>obtain⟨_,_,_,e,_⟩:=x;exact qa7 e
 | own y=>obtain⟨_,e⟩:=x;exact qa7 e
 | xd fs=>obtain⟨_,⟨_,_,_,e,_⟩,_⟩:=x;exact qa7 e
 | rng lo hi=>obtain⟨_,_,_,e⟩:=x;exact qa7 e
 | frz ob u=>obtain⟨e,_⟩:=x;exact qa7 e
 | tbl ps=>exact qa7 (show h.get? a=some _ from x)
 | met f y=>exact qa7 (show h.get? a=some _ from x)
 | ext φ=>obtain⟨_,⟨_,e⟩,_⟩:=x;exact qa7 e
theorem Paired.mapP{α β:Type}{F G:α->β->Prop}:∀{l₁:List α}{l₂:List β},Paired F l₁ l₂->(∀a b,F a b->G a b)->Paired G l₁ l₂
 | _,_,.nil,_=>.nil
 | _,_,.cons r t,f=>.cons (f _ _ r) (Paired.mapP t f)
theorem ObjOk.stay(x:ObjOk P w H h a o)(k:∀b u,(b=a\/H b=some (.own a))->h.get? b=some u->h'.get? b=some u)
 (ho:∀b,H b=some (.own a)->H' b=some (.own a)) (ht:∀b xs,H b=some (.tup xs)->H' b=some (.tup xs)):ObjOk P w H' h' a o:=by
 induction o with
 | lst xs=>obtain⟨z,its,n,r,e⟩:=x;exact⟨z,its,n,r,k _ _ (.inl rfl) e⟩
 | tup xs=>obtain⟨z,its,r,ob,e,c⟩:=x;exact⟨z,its,r,ob,k _ _ (.inl rfl) e,c⟩
 | dK kvs=>obtain⟨z,y,vs,r,ob,es,ep,e,c⟩:=x;exact⟨z,y,vs,r,ob,es,ep,k _ _ (.inl rfl) e,c⟩
 | dT kvs =>
   obtain⟨z,y,xs,r,ob,es,ep,e,c⟩:=x;exact⟨z,y,xs,Paired.mapP r fun p q z=>⟨z.1,ht _ _ z.2.1,z.2.2⟩,ob,es,ep,k _ _ (.inl rfl) e,c⟩
 | set S n=>obtain⟨ob,es,ep,t,e,c⟩:=x;exact⟨ob,es,ep,t,k _ _ (.inl rfl) e,c⟩
 | ins C dx fs =>
   obtain⟨d,z,ne,e,mA,⟨od,es,ep,e2,c⟩,r⟩:=x;exact⟨ho _ d,z,ne,k _ _ (.inl rfl) e,mA,⟨od,es,ep,k _ _ (.inr d) e2,c⟩,r⟩
 | own y=>obtain⟨ob,e⟩:=x;exact⟨ob,k _ _ (.inl rfl) e⟩
 | xd fs=>obtain⟨mA,⟨od,es,ep,e,c⟩,r⟩:=x;exact⟨mA,⟨od,es,ep,k _ _ (.inl rfl) e,c⟩,r⟩
 | rng lo hi=>obtain⟨t,u,v,e⟩:=x;exact⟨t,u,v,k _ _ (.inl rfl) e⟩
 | frz ob u ih=>obtain⟨e,q⟩:=x;exact⟨k _ _ (.inl rfl) e,ih q⟩
 | tbl ps =>
   have e:h.get? a=some { cls:=.none,data:=.fields ps }:=x;show h'.get? a=some { cls:=.none,data:=.fields ps };exact k a _ (.inl rfl) e
 | met f y =>
   have e:h.get? a=some (PySem.W.methodObj (.ref f) (.ref y)):=x;show h'.get? a=some (PySem.W.methodObj (.ref f) (.ref y));exact k a _ (.inl rfl) e
 | ext φ=>obtain⟨p,⟨o,e⟩,st⟩:=x;exact⟨st _ _ p fun o q=>k _ _ (.inl rfl) q,⟨o,k _ _ (.inl rfl) e⟩,st⟩
theorem Nk.lt(x:Nk P w H h)(e:H a=some o):a<h.objs.size:=(x a o e).lt
theorem Nk.fresh(x:Nk P w H h)(e:h.objs.size<=a):H a=none:=by
 cases q:H a with
 | none=>rfl
 | some u=>exact absurd (qa6 (x.lt q) e) (qi5 _)
theorem Nk.kept(x:Nk P w H h)(k:∀b u,h.get? b=some u->h'.get? b=some u):Nk P w H h':=fun a o e =>
 (x a o e).stay (fun b u _ q=>k b u q) (fun _ q=>q) fun _ _ q=>q
theorem Nk.laid(x:Nk P w H h)(k:∀b u,h.get? b=some u->h'.get? b=some u)(hp:h.objs.size<=a)(new:ObjOk P w (upd H a o) h' a o):Nk P w (upd H a o) h':=fun b u e=>by
 have hn:=x.fresh hp;by_cases hb:b=a
 . subst hb;rw[Ae]at e;cases e;exact new
 . rw[Bb hb]at e;exact(x b u e).stay (fun c v _ q=>k c v q) (fun c q=>by rw[Bb (Bj q hn)];exact q) fun c xs q=>by rw[Bb (Bj q hn)];exact q
end
noncomputable def Rd(H:Hp)(a:Addr)(u:HO):Prop:=H a=some u\/∃o,H a=some (.frz o u)
theorem Rd.ok{P:Program}{w:World}{H:Hp}{h:Heap}{a:Addr}{u:HO}(r:Rd H a u)(x:Nk P w H h):ObjOk P w H h a u:=by
 rcases r with r|⟨o,r⟩
 . exact x a u r
 . obtain⟨_,q⟩:=x a _ r;exact q
noncomputable def RP:Option HO->Prop
 | some (.lst _)=>True
 | some (.dK _)=>True
 | some (.dT _)=>True
 | some (.set _ _)=>True
 | some (.ins _ _ _)=>True
 | some (.ext _)=>True
 | _=>False
section
variable{P:Program}{w:World}{H:Hp}{h h':Heap}{x e:Addr}{o':HO}
theorem Nk.write(ok:Nk P w H h)(mu:RP (H x))(he:e=x\/H e=some (.own x))(k:∀b u,b≠e->h.get? b=some u->h'.get? b=some u)(NR:∃u,h'.get? e=some u)
 (new:ObjOk P w (upd H x o') h' x o'):Nk P w (upd H x o') h':=fun b u q=>by
 have pB:∀c y,H c=some (.own y)->c≠x:=fun c y r z=>by subst z;rw[r]at mu;exact mu
 have sI:∀c xs,H c=some (.tup xs)->c≠x:=fun c xs r z=>by subst z;rw[r]at mu;exact mu
 by_cases hb:b=x
 . subst hb;rw[Ae]at q;cases q;exact new
 . rw[Bb hb]at q;by_cases MT:b=e
   . have q':H b=some (.own x):=by
      rcases he with z | z
      . exact absurd (MT.trans z) hb
      . rw[MT];exact z
     rw[q]at q';cases q';obtain⟨v,hv⟩:=NR;exact⟨v,by rw[MT];exact hv⟩
   . refine(ok b u q).stay (fun c v hc r=>k c v ?_ r) (fun c r=>by rw[Bb (pB c b r)];exact r) fun c xs r=>by rw[Bb (sI c xs r)];exact r
     rcases hc with rfl | hc
     . exact MT
     . rintro rfl;rcases he with z | z
       . exact pB c b hc z
       . rw[hc]at z;cases z;exact hb rfl
end
structure Un(fs ex:List Addr)(H H':Hp)(h h':Heap):Prop where
 keep:∀b o,h.get? b=some o->H b=none->b ∉ fs->b ∉ ex->h'.get? b=some o
 slot:∀b o,h.get? b=some o->H b=none->b∈fs->b ∉ ex->∃sl,h'.get? b=some { o with slots:=sl }
 free:∀b o,h.get? b=some o->H b=none->b ∉ ex->H' b=none
 there:∀b o,h.get? b=some o->b ∉ ex->∃o',h'.get? b=some o'
 tups:∀b xs,H b=some (.tup xs)->H' b=some (.tup xs)
 frzs:∀b o u,H b=some (.frz o u)->H' b=some (.frz o u)
 tbls:∀b ps,H b=some (.tbl ps)->∃more,H' b=some (.tbl (ps++more))
section
variable{fs fs' ex ex':List Addr}{H H1 H2:Hp}{h h1 h2 h':Heap}{a x e:Addr}{o:HO}
theorem Un.any(u:Un fs ex H H1 h h1){b:Addr}{ob:Obj}(q:h.get? b=some ob)(n:H b=none)(hx:b ∉ ex):∃sl,h1.get? b=some { ob with slots:=sl }:=by
 by_cases hb:b∈fs
 . exact u.slot b ob q n hb hx
 . exact⟨ob.slots,u.keep b ob q n hb hx⟩
theorem Un.kept(k:∀b u,h.get? b=some u->h'.get? b=some u):Un fs ex H H h h' :=
 ⟨fun b ob q _ _ _=>k b ob q,fun b ob q _ _ _=>⟨ob.slots,k b ob q⟩,fun _ _ _ n _=>n,fun b ob q _=>⟨ob,k b ob q⟩,fun _ _ q=>q,fun _ _ _ q=>q,fun _ ps q=>⟨#[],by rw[q];simp⟩⟩
theorem Un.refl:Un fs ex H H h h:=Un.kept fun _ _ q=>q
theorem Un.laid(k:∀b u,h.get? b=some u->h'.get? b=some u)(hp:h.objs.size<=a)(hn:H a=none):Un fs ex H (upd H a o) h h' where
 keep:=fun b u q _ _ _=>k b u q
 slot:=fun b u q _ _ _=>⟨u.slots,k b u q⟩
 free:=fun b u q n _=>by rw[Bb (qb8 (qa6 (qa7 q) hp))];exact n
 there:=fun b u q _=>⟨u,k b u q⟩
 tups:=fun b xs q=>by rw[Bb (Bj q hn)];exact q
 frzs:=fun b u xs q=>by rw[Bb (Bj q hn)];exact q
 tbls:=fun b ps q=>⟨#[],by rw[Bb (Bj q hn),q];simp⟩
theorem Un.write(mu:RP (H x))(he:e=x\/H e=some (.own x))(k:∀b u,b≠e->h.get? b=some u->h'.get? b=some u)(NR:∃u,h'.get? e=some u):Un fs ex H (upd H x o) h h':=by
 have hx:∀b,H b=none->b≠x:=fun b n z=>by subst z;rw[n]at mu;exact mu
 have hb:∀b,H b=none->b≠e:=fun b n z=>by
  subst z;rcases he with r | r
  . exact hx b n r
  . rw[n]at r;cases r
 have hm:∀b u,H b=some u->¬RP (some u)->b≠x:=fun b u q nm z=>by subst z;rw[q]at mu;exact nm mu
 refine⟨fun b u q n _ _=>k b u (hb b n) q,fun b u q n _ _=>⟨u.slots,k b u (hb b n) q⟩,fun b u q n _=>by rw[Bb (hx b n)];exact n,fun b u q _=>?_,
  fun b xs q=>by rw[Bb (hm b _ q fun z=>z)];exact q,fun b u xs q=>by rw[Bb (hm b _ q fun z=>z)];exact q,fun b ps q=>⟨#[],by rw[Bb (hm b _ q fun z=>z),q];simp⟩⟩
 by_cases MT:b=e
 . subst MT;exact NR
 . exact⟨u,k b u MT q⟩
end
noncomputable def trk(h:Heap)(H:Hp):List Addr:=(List.range h.objs.size).filter fun a=>(H a).isSome
noncomputable def Yd(h:Heap)(H:Hp):Heap:=PySem.W.hideAll h (trk h H)
theorem DP(h:Heap)(H:Hp):(Yd h H).objs.size=h.objs.size:=PySem.W.hideAll_size _ _
theorem gH{h:Heap}{H:Hp}{b:Addr}{o:Obj}(e:h.get? b=some o)(n:H b=none):(Yd h H).get? b=some o :=
 qm6 _ e fun hm=>by
  have q:(H b).isSome=true:=(List.mem_filter.mp hm).2;rw[n]at q;simp at q
theorem JC{h:Heap}{H:Hp}{b:Addr}{o:Obj}(e:(Yd h H).get? b=some o):h.get? b=some o/\H b=none:=by
 have e':h.get? b=some o:=PySem.W.of_hideAll (trk h H) e;refine⟨e',?_⟩;cases q:H b with
 | none=>rfl
 | some x =>
   have hm:b∈trk h H:=List.mem_filter.mpr ⟨qj7.mpr (qa7 e'),by simp[q]⟩;have z:(Yd h H).get? b=none:=PySem.W.hideAll_none (trk h H) hm;rw[z]at e;cases e
structure Mod(K:W.Frag)(mg:Str->Option Value)(base:Heap):Prop where
 kin:K.In base
 glob:base.Ns mainGlobals mg
 blt:∃mb,base.Ns builtinsNs mb/\∀x:Str,x≠"__name__"->mb x=bootBuiltins x
 nolimit:base.NoLimit
structure Cx where
 prog:Program
 w:World
 K:PySem.W.Frag
 mg:Str->Option Value
 base:Heap
 A:Around
 N:List Str
 s₀:Shared
 H₀:Hp
 env:Env
 outer:List Env
 stack:List Env
 ex:List Addr
 fn:Str->Bool
 calm:Bool
 pn:LAObj
 xe:Value->Shared->Prop
noncomputable def Nh(l:List Env):List Addr:=l.filterMap (·.frame)
noncomputable abbrev Cx.fs(X:Cx):List Addr:=Nh X.outer
noncomputable def RO(sc:Scope)(x:Str):Prop:=sc.names.lookup x=some .local\/sc.names.lookup x=some .cell\/sc.names.lookup x=some .free
noncomputable def NH(sc:Scope)(x:Str):Prop:=sc.names.lookup x=some .local\/sc.names.lookup x=some .cell
noncomputable def uM(env:Env)(h:Heap)(m:Str->Option Value)(x:Str)(u:Value):Prop :=
 (env.kindOf x=some .local/\m x=some u)\/((env.kindOf x=some .cell\/env.kindOf x=some .free)/\∃c,env.cells.lookup x=some c/\h.IsCell c (some u))
structure Cx.Ok(X:Cx):Prop where
 mod:Mod X.K X.mg X.base
 kind:X.env.scope.kind=.function
 glob:X.env.globals=mainGlobals
 blt:X.env.builtins=builtinsNs
 above:X.s₀.heap.objs.size<=X.env.locals
 inj:∀x y c,X.env.cells.lookup x=some c->X.env.cells.lookup y=some c->x=y
 has:∀x,(X.env.kindOf x=some .cell\/X.env.kindOf x=some .free)->∃c,X.env.cells.lookup x=some c
 cab:∀x c,X.fn x=true->X.env.cells.lookup x=some c->X.s₀.heap.objs.size<=c
 hd:X.calm=true->X.A.handled=none
 frames:X.A.frames=some X.stack
 stk:X.stack=X.outer\/(X.stack=X.env::X.outer/\X.env.frame=some X.env.locals)
 exf:∀b∈X.ex,b≠X.env.locals/\∀x c,X.env.cells.lookup x=some c->c≠b
 bs:∀b o,X.base.get? b=some o->X.s₀.heap.get? b=some o/\X.H₀ b=none
 bsz:X.base.objs.size<=X.s₀.heap.objs.size
 noex:∀b o,X.base.get? b=some o->b ∉ X.ex
 exfs:∀b∈X.ex,b ∉ X.fs
 funs:X.s₀.heap.FunFrames X.base X.outer
 frf:∀b∈X.fs,X.H₀ b=none
structure Bu(X:Cx)(Ab:LAObj)(σ:List (Option V))(H:Hp)(s:Shared):Prop where
 ok:X.Ok
 os:s.os=X.s₀.os
 bare:AllBare s.gens
 base:Un X.fs X.ex X.H₀ H X.s₀.heap s.heap
 loc:∃m,s.heap.Ns X.env.locals m/\∀(i:Nat) (x:Str) (v:V),X.N[i]?=some x->σ[i]?=some (some v)->RO X.env.scope x->∃u,RelV v u/\uM X.env s.heap m x u
 cell:∀x c,X.env.cells.lookup x=some c->∃v,s.heap.IsCell c v
 free:H X.env.locals=none
 freeC:∀x c,X.env.cells.lookup x=some c->H c=none
 pin:∀p∈X.pn++Ab,s.heap.get? p.1=some p.2/\H p.1=none/\p.1≠X.env.locals/\p.1 ∉ X.fs/\∀v,p.2.data≠.cell v
 hok:Nk X.prog X.w H s.heap
 len:σ.length=X.N.length
section
variable{X:Cx}{Ab:LAObj}{σ:List (Option V)}{H H':Hp}{s:Shared}{h':Heap}
theorem Cx.Ok.nofr(ok:X.Ok){b:Addr}{o:Obj}(e:X.base.get? b=some o):b ∉ X.fs:=fun hb=>by
 have:=(ok.funs.mem hb).1;rw[e]at this;cases this
theorem Bu.bs(I:Bu X Ab σ H s):∀b o,X.base.get? b=some o->s.heap.get? b=some o/\H b=none:=fun b o e =>
 ⟨I.base.keep b o (I.ok.bs b o e).1 (I.ok.bs b o e).2 (I.ok.nofr e) (I.ok.noex b o e),I.base.free b o (I.ok.bs b o e).1 (I.ok.bs b o e).2 (I.ok.noex b o e)⟩
theorem Bu.bk(I:Bu X Ab σ H s):∀b o,X.base.get? b=some o->s.heap.get? b=some o:=fun b o e=>(I.bs b o e).1
theorem Bu.mod(I:Bu X Ab σ H s):Mod X.K X.mg X.base:=I.ok.mod
theorem Bu.kIn(I:Bu X Ab σ H s):X.K.In s.heap:=I.ok.mod.kin.keeps I.bk
theorem Bu.lt(I:Bu X Ab σ H s):X.env.locals<s.heap.objs.size:=let ⟨_,hn,_⟩:=I.loc;hn.lt
theorem Bu.sz(I:Bu X Ab σ H s):X.s₀.heap.objs.size<=s.heap.objs.size:=qa1 I.ok.above (qc3 I.lt)
theorem Bu.nofs(I:Bu X Ab σ H s){a:Addr}(h:s.heap.objs.size<=a):a ∉ X.fs:=fun hb=>by
 obtain⟨_,o,ho,_⟩:=I.ok.funs.mem hb;exact absurd (qa6 (qa7 ho) (qa1 I.sz h)) (qi5 _)
theorem Bu.cne(I:Bu X Ab σ H s):∀x c,X.env.cells.lookup x=some c->c≠X.env.locals:=fun x c e z=>by
 obtain⟨v,o,ho,hd⟩:=I.cell x c e;obtain⟨m,⟨o',es,ep,ho',hd',_⟩,_⟩:=I.loc;rw[z,ho']at ho;cases ho;rw[hd']at hd;cases hd
theorem Bu.funs(I:Bu X Ab σ H s):s.heap.FunFrames X.base X.outer:=by
 have all:∀(l:List Env),(∀b∈Nh l,b∈X.fs)->X.s₀.heap.FunFrames X.base l->s.heap.FunFrames X.base l:=by
  intro l
  induction l with
  | nil=>intro _ _;trivial
  | cons env r ih =>
    intro hs hl;obtain⟨hk,⟨L,o,hf,hn,ho,hd⟩,hr⟩:=hl;have hL:L∈X.fs:=hs L (by unfold Nh;rw[qq6,hf];exact qe8);obtain⟨sl,e⟩:=I.base.slot L o ho (I.ok.frf L hL) hL fun z=>I.ok.exfs L z hL;exact⟨hk,⟨L,_,hf,hn,e,hd⟩,ih (fun b hb=>hs b (by unfold Nh;rw[qq6,hf];exact qc1 _ hb)) hr⟩
 exact all X.outer (fun _ hb=>hb) I.ok.funs
theorem Bu.stack(I:Bu X Ab σ H s):s.heap.FunFrames X.base X.stack:=by
 rcases I.ok.stk with e|⟨e,hf⟩
 . rw[e];exact I.funs
 . rw[e];obtain⟨m,hn,_⟩:=I.loc;refine .cons (by rw[I.ok.kind];decide) hf hn ?_ I.funs;exact Heap.get?_none_of_le (qa1 I.ok.bsz I.ok.above)
theorem Bu.stkSub(I:Bu X Ab σ H s):∀b∈Nh X.stack,b∈X.env.locals::X.fs:=fun b hb=>by
 rcases I.ok.stk with e|⟨e,hf⟩
 . rw[e]at hb;exact qc1 _ hb
 . rw[e]at hb;unfold Nh at hb;rw[qq6,hf]at hb;exact hb
theorem Bu.stkFree(I:Bu X Ab σ H s):∀b∈Nh X.stack,H b=none:=fun b hb=>by
 rcases qb9.mp (I.stkSub b hb) with e | hb
 . rw[e];exact I.free
 . obtain⟨_,o,ho,_⟩:=I.ok.funs.mem hb;exact I.base.free b o ho (I.ok.frf b hb) fun z=>I.ok.exfs b z hb
theorem Bu.step{g':Array GenState}{t':Nat}{d':Drawn}{ch:List Addr}(I:Bu X Ab σ H s)
 (hch:∀b∈ch,(b∈X.ex\/X.s₀.heap.objs.size<=b)/\b≠X.env.locals/\(∀x c,X.env.cells.lookup x=some c->c≠b)/\∀p∈X.pn++Ab,p.1≠b)
 (keep:∀b o,b≠X.env.locals->b ∉ X.fs->b ∉ ch->s.heap.get? b=some o->H b=none->h'.get? b=some o)
 (slot:∀b o,b≠X.env.locals->b∈X.fs->b ∉ ch->s.heap.get? b=some o->H b=none->∃sl,h'.get? b=some { o with slots:=sl }) (free:∀b o,b ∉ ch->s.heap.get? b=some o->H b=none->H' b=none)
 (there:∀b o,b ∉ ch->s.heap.get? b=some o->∃o',h'.get? b=some o')
 (tups:∀b xs,H b=some (.tup xs)->H' b=some (.tup xs)) (frzs:∀b o u,H b=some (.frz o u)->H' b=some (.frz o u)) (tbls:∀b ps,H b=some (.tbl ps)->∃more,H' b=some (.tbl (ps++more)))
 (ns:∀m,s.heap.Ns X.env.locals m->h'.Ns X.env.locals m) (hok:Nk X.prog X.w H' h') (hg:AllBare g') :
 Bu X Ab σ H' { s with heap:=h',gens:=g',drawn:=d',toks:=t' }:=by
 have vA:∀b o,X.s₀.heap.get? b=some o->b≠X.env.locals:=fun b o e=>qb8 (qa6 (qa7 e) I.ok.above)
 have QZ:∀b o,X.s₀.heap.get? b=some o->b ∉ X.ex->b ∉ ch:=fun b o e hx hb=>by
  rcases (hch b hb).1 with z | z
  . exact hx z
  . exact absurd (qa6 (qa7 e) z) (qi5 _)
 have cellK:∀x c,X.env.cells.lookup x=some c->∀v,s.heap.IsCell c v->h'.IsCell c v:=fun x c e v ⟨o,ho,hd⟩=>by
  have eT:c ∉ ch:=fun z=>(hch c z).2.2.1 x c e rfl;by_cases hc:c∈X.fs
  . obtain⟨sl,q⟩:=slot c o (I.cne x c e) hc eT ho (I.freeC x c e);exact⟨_,q,hd⟩
  . exact⟨o,keep c o (I.cne x c e) hc eT ho (I.freeC x c e),hd⟩
 refine⟨I.ok,I.os,hg,⟨fun b o e n hb hx=>?_,fun b o e n hb hx=>?_,fun b o e n hx=>?_,fun b o e hx=>?_,fun b xs e=>tups b xs (I.base.tups b xs e),fun b o xs e=>frzs b o xs (I.base.frzs b o xs e),fun b ps e=>?_⟩,?_,fun x c e=>?_,?_,fun x c e=>?_,fun p hp=>?_,hok,I.len⟩
 . exact keep b o (vA b o e) hb (QZ b o e hx) (I.base.keep b o e n hb hx) (I.base.free b o e n hx)
 . obtain⟨sl,e1⟩:=I.base.slot b o e n hb hx;obtain⟨wO,e2⟩:=slot b _ (vA b o e) hb (QZ b o e hx) e1 (I.base.free b o e n hx);exact⟨wO,e2⟩
 . obtain⟨o',e1⟩:=I.base.there b o e hx;exact free b o' (QZ b o e hx) e1 (I.base.free b o e n hx)
 . obtain⟨o',e1⟩:=I.base.there b o e hx;exact there b o' (QZ b o e hx) e1
 . obtain⟨m1,e1⟩:=I.base.tbls b ps e;obtain⟨m2,e2⟩:=tbls b _ e1;exact⟨m1++m2,by rw[e2,Array.append_assoc]⟩
 . obtain⟨m,hn,hl⟩:=I.loc;refine⟨m,ns m hn,fun i x v e1 e2 e3=>?_⟩;obtain⟨u,r,l⟩:=hl i x v e1 e2 e3;refine⟨u,r,?_⟩;rcases l with l|⟨k,c,e,z⟩
   . exact .inl l
   . exact .inr ⟨k,c,e,cellK x c e _ z⟩
 . obtain⟨v,z⟩:=I.cell x c e;exact⟨v,cellK x c e v z⟩
 . obtain⟨m,⟨o,_,_,ho,_⟩,_⟩:=I.loc;exact free _ o (fun z=>(hch _ z).2.1 rfl) ho I.free
 . obtain⟨v,o,ho,hd⟩:=I.cell x c e;exact free c o (fun z=>(hch c z).2.2.1 x c e rfl) ho (I.freeC x c e)
 . obtain⟨e,n,ne,nf,d⟩:=I.pin p hp;have eT:p.1 ∉ ch:=fun z=>(hch p.1 z).2.2.2 p hp rfl;exact⟨keep p.1 p.2 ne nf eT e n,free p.1 p.2 eT e n,ne,nf,d⟩
theorem Bu.un{t':Nat}(I:Bu X Ab σ H s)(u:Un X.fs [] H H' s.heap h')(hok:Nk X.prog X.w H' h'):Bu X Ab σ H' { s with heap:=h',toks:=t' }:=by
 obtain⟨m,⟨o,es,ep,ho,r⟩,_⟩:=id I.loc;obtain⟨sl,hL⟩:=u.any ho I.free (by simp)
 exact I.step (g':=s.gens) (d':=s.drawn) (ch:=[]) (fun _ z=>nomatch z) (fun b o _ hb _ e n=>u.keep b o e n hb (by simp)) (fun b o _ hb _ e n=>u.slot b o e n hb (by simp)) (fun b o _ e n=>u.free b o e n (by simp)) (fun b o _ e=>u.there b o e (by simp)) u.tups u.frzs u.tbls (fun m' hm=>by
  obtain⟨o',es',UC,ho',r'⟩:=hm;rw[ho]at ho';cases ho';exact⟨_,es',UC,hL,r'⟩) hok I.bare
theorem Bu.call{g':Array GenState}{t':Nat}{d':Drawn}{ch:List Addr}(I:Bu X Ab σ H s)(u:Un (Nh X.stack) ch H H' s.heap h')(hok:Nk X.prog X.w H' h')(hg:AllBare g')
 (hch:∀b∈ch,(b∈X.ex\/X.s₀.heap.objs.size<=b)/\b≠X.env.locals/\(∀x c,X.env.cells.lookup x=some c->c≠b)/\∀p∈X.pn++Ab,p.1≠b) :
 Bu X Ab σ H' { s with heap:=h',gens:=g',drawn:=d',toks:=t' }:=by
 obtain⟨m,⟨o,es,ep,ho,r⟩,_⟩:=id I.loc;obtain⟨sl,hL⟩:=u.any ho I.free fun z=>(hch _ z).2.1 rfl
 exact I.step (ch:=ch) hch (fun b o hL hb hc e n=>u.keep b o e n (fun z=>(qb9.mp (I.stkSub b z)).elim hL hb) hc) (fun b o _ _ hc e n=>u.any e n hc) (fun b o hc e n=>u.free b o e n hc) (fun b o hc e=>u.there b o e hc) u.tups u.frzs u.tbls (fun m' hm=>by
  obtain⟨o',es',UC,ho',r'⟩:=hm;rw[ho]at ho';cases ho';exact⟨_,es',UC,hL,r'⟩) hok hg
theorem Bu.turned{t':Nat}{it:Addr}(I:Bu X Ab σ H s)(k:∀b o,b≠it->s.heap.get? b=some o->h'.get? b=some o)(hn:H it=none)(hL:it≠X.env.locals)
 (h1:it∈X.ex\/X.s₀.heap.objs.size<=it) (h2:∀x c,X.env.cells.lookup x=some c->c≠it) (h3:∀p∈X.pn++Ab,p.1≠it):Bu X Ab σ H { s with heap:=h',toks:=t' }:=by
 have UZ:∀b u,H b=some u->b≠it:=fun b u e z=>by rw[z,hn]at e;cases e
 refine I.step (g':=s.gens) (d':=s.drawn) (ch:=[it]) (fun b hb=>?_) (fun b o _ _ hc e _=>k b o (fun z=>hc (by simp[z])) e) (fun b o _ _ hc e _=>⟨o.slots,k b o (fun z=>hc (by simp[z])) e⟩) (fun _ _ _ _ n=>n)
  (fun b o hc e=>⟨o,k b o (fun z=>hc (by simp[z])) e⟩) (fun _ _ e=>e) (fun _ _ _ e=>e) (fun b ps e=>⟨#[],by rw[e];simp⟩) (fun m hm=>?_) (fun b u e=>?_) I.bare
 . have e:b=it:=by simpa using hb
   subst e;exact⟨h1,hL,h2,h3⟩
 . obtain⟨o,es,ep,ho,r⟩:=hm;exact⟨o,es,ep,k _ o (Ne.symm hL) ho,r⟩
 . refine(I.hok b u e).stay (fun c v hc q=>k c v ?_ q) (fun _ q=>q) fun _ _ q=>q;rcases hc with z | z
   . rw[z];exact UZ b u e
   . exact UZ c _ z
theorem Bu.tok(I:Bu X Ab σ H s)(t:Nat):Bu X Ab σ H { s with toks:=t }:=I.un (h':=s.heap) (t':=t) Un.refl I.hok
theorem Bu.kept{t':Nat}(I:Bu X Ab σ H s)(k:∀b u,s.heap.get? b=some u->h'.get? b=some u):Bu X Ab σ H { s with heap:=h',toks:=t' }:=I.un (Un.kept k) (I.hok.kept k)
theorem Bu.laid{a:Addr}{o:HO}{t':Nat}(I:Bu X Ab σ H s)(k:∀b u,s.heap.get? b=some u->h'.get? b=some u)(hp:s.heap.objs.size<=a)(new:ObjOk X.prog X.w (upd H a o) h' a o) :
 Bu X Ab σ (upd H a o) { s with heap:=h',toks:=t' }:=I.un (Un.laid k hp (I.hok.fresh hp)) (I.hok.laid k hp new)
theorem Bu.write{x e:Addr}{o:HO}{t':Nat}(I:Bu X Ab σ H s)(mu:RP (H x))(he:e=x\/H e=some (.own x))(k:∀b u,b≠e->s.heap.get? b=some u->h'.get? b=some u)(NR:∃u,h'.get? e=some u)
 (new:ObjOk X.prog X.w (upd H x o) h' x o):Bu X Ab σ (upd H x o) { s with heap:=h',toks:=t' }:=I.un (Un.write mu he k NR) (I.hok.write mu he k NR new)
theorem Bu.pins_of{kM:LAObj}(I:Bu X Ab σ H s)(h:∀p∈kM,s.heap.get? p.1=some p.2/\H p.1=none/\p.1≠X.env.locals/\p.1 ∉ X.fs/\∀v,p.2.data≠.cell v):Bu X kM σ H s :=
 ⟨I.ok,I.os,I.bare,I.base,I.loc,I.cell,I.free,I.freeC,fun p hp=>(qp4.mp hp).elim (fun z=>I.pin p (qp9 _ z)) (h p),I.hok,I.len⟩
theorem Tw{N:List Str}(hN:N.Nodup){i j:Nat}{x:Str}(a:N[i]?=some x)(b:N[j]?=some x):i=j:=by
 obtain⟨h1,e1⟩:=qb2.mp a;obtain⟨h2,e2⟩:=qb2.mp b;exact(List.getElem_inj hN).mp (e1.trans e2.symm)
theorem Vz{M:Model}{A:Around}{E:Value->Shared->Prop}{i:Nat}{x:Str}{v:V}{u:Value}{Q:Unit->Shared->Prop}(I:Bu X Ab σ H s)(hN:X.N.Nodup)(hi:X.N[i]?=some x)(hx:NH X.env.scope x)(r:RelV v u)
 (h:∀s',Bu X Ab (σ.set i (some v)) H s'->(∃a,Heap.SameBut a s.heap s'.heap/\(a=X.env.locals\/X.env.cells.lookup x=some a))->Q () s') (hf:X.fn x=true\/X.env.scope.names.lookup x=some .local:=by first | exact .inl rfl | exact .inr rfl | assumption):wpAny M A (storeName X.env x u) Q E s:=by
 obtain⟨m,hn,hl⟩:=id I.loc;have hcls:(X.env.scope.kind==.class || (X.env.scope.kind==.module&&X.env.locals != X.env.globals))=false:=by rw[I.ok.kind];rfl
 have VO:i<σ.length:=by rw[I.len];exact(qb2.mp hi).1
 have cne:=I.cne
 have tracked:∀{a:Addr}{h':Heap},(∃o,s.heap.get? a=some o/\H a=none)->Heap.SameBut a s.heap h'->Nk X.prog X.w H h':=fun {a h'} ha hs b ob e=>by
  obtain⟨_,_,hfree⟩:=ha;refine(I.hok b ob e).stay (fun c w' hc q=>(hs.2 c ?_).trans q) (fun _ q=>q) fun _ _ q=>q;rintro rfl;rcases hc with rfl | hc
  . rw[hfree]at e;cases e
  . rw[hfree]at hc;cases hc
 rcases hx with hk | hk
 . refine wpAny_storeName_local hk hn (fun h' hn' hs=>?_) hcls;obtain⟨oL,_,_,xR,_⟩:=id hn;refine h _ ⟨I.ok,I.os,I.bare,⟨fun b o e n hb hx=>?_,fun b o e n hb hx=>?_,I.base.free,fun b o e hx=>?_,I.base.tups,I.base.frzs,I.base.tbls⟩,⟨_,hn',fun j y v' e1 e2 e3=>?_⟩,fun y c e=>?_,I.free,I.freeC,fun p hp=>?_,tracked ⟨oL,xR,I.free⟩ hs,by simpa using I.len⟩ ⟨_,hs,.inl rfl⟩
   . exact(hs.2 b (qb8 (qa6 (qa7 e) I.ok.above))).trans (I.base.keep b o e n hb hx)
   . obtain⟨sl,e1⟩:=I.base.slot b o e n hb hx;exact⟨sl,(hs.2 b (qb8 (qa6 (qa7 e) I.ok.above))).trans e1⟩
   . obtain⟨o',e1⟩:=I.base.there b o e hx;exact⟨o',(hs.2 b (qb8 (qa6 (qa7 e) I.ok.above))).trans e1⟩
   . by_cases hj:j=i
     . subst hj;rw[hi]at e1;cases e1;rw[qo8 VO]at e2;cases e2;exact⟨u,r,.inl ⟨hk,by simp⟩⟩
     . rw[qj5 (Ne.symm hj)]at e2;obtain⟨u',r',q⟩:=hl j y v' e1 e2 e3;refine⟨u',r',?_⟩;rcases q with⟨k,e⟩|⟨k,c,e,z⟩
       . refine .inl ⟨k,?_⟩;have:y≠x:=fun e=>hj (Tw hN e1 (e▸hi));simp[this,e]
       . exact .inr ⟨k,c,e,z.sameBut hs (cne y c e)⟩
   . obtain⟨w',z⟩:=I.cell y c e;exact⟨w',z.sameBut hs (cne y c e)⟩
   . obtain⟨e,n,ne,nf,d⟩:=I.pin p hp;exact⟨(hs.2 p.1 ne).trans e,n,ne,nf,d⟩
 . have hfn:X.fn x=true:=by
    rcases hf with z | z
    . exact z
    . rw[z]at hk;cases hk
   obtain⟨c,hc⟩:=I.ok.has x (.inl hk);obtain⟨w',z⟩:=I.cell x c hc;refine wpAny_storeName_cell I.ok.kind hk hc z (fun h' hc' hs=>?_);obtain⟨oc,hoc,tH⟩:=id z;refine h { s with heap:=h' } ⟨I.ok,I.os,I.bare,⟨fun b o e n hb hx=>?_,fun b o e n hb hx=>?_,I.base.free,fun b o e hx=>?_,I.base.tups,I.base.frzs,I.base.tbls⟩,⟨m,hn.sameBut hs (Ne.symm (cne x c hc)),fun j y v' e1 e2 e3=>?_⟩,fun y c' e=>?_,I.free,I.freeC,fun p hp=>?_,tracked ⟨oc,hoc,I.freeC x c hc⟩ hs,by simpa using I.len⟩ ⟨c,hs,.inr hc⟩
   . exact(hs.2 b (qb8 (qa6 (qa7 e) (I.ok.cab x c hfn hc)))).trans (I.base.keep b o e n hb hx)
   . obtain⟨sl,e1⟩:=I.base.slot b o e n hb hx;exact⟨sl,(hs.2 b (qb8 (qa6 (qa7 e) (I.ok.cab x c hfn hc)))).trans e1⟩
   . obtain⟨o',e1⟩:=I.base.there b o e hx;exact⟨o',(hs.2 b (qb8 (qa6 (qa7 e) (I.ok.cab x c hfn hc)))).trans e1⟩
   . by_cases hj:j=i
     . subst hj;rw[hi]at e1;cases e1;rw[qo8 VO]at e2;cases e2;exact⟨u,r,.inr ⟨.inl hk,c,hc,hc'⟩⟩
     . rw[qj5 (Ne.symm hj)]at e2;obtain⟨u',r',q⟩:=hl j y v' e1 e2 e3;refine⟨u',r',?_⟩;rcases q with q|⟨k,c',e,z'⟩
       . exact .inl q
       . refine .inr ⟨k,c',e,z'.sameBut hs ?_⟩;rintro rfl;exact hj (Tw hN e1 (I.ok.inj _ _ _ e hc▸hi))
   . by_cases hcc:c'=c
     . subst hcc;exact⟨_,hc'⟩
     . obtain⟨w2,z2⟩:=I.cell y c' e;exact⟨w2,z2.sameBut hs hcc⟩
   . obtain⟨e,n,ne,nf,d⟩:=I.pin p hp;refine⟨(hs.2 p.1 ?_).trans e,n,ne,nf,d⟩;intro q;rw[q,hoc]at e;have q':oc=p.2:=qd7 e;exact d w' (by rw[←q'];exact tH)
theorem Sf{M:Model}{A:Around}{E:Value->Shared->Prop}{i:Nat}{x:Str}{v:V}{u:Value}{Q:Unit->Shared->Prop}(I:Bu X Ab σ H s)(hN:X.N.Nodup)(hi:X.N[i]?=some x)(hx:NH X.env.scope x)(r:RelV v u)
 (h:∀s',Bu X Ab (σ.set i (some v)) H s'->Q () s') (hf:X.fn x=true\/X.env.scope.names.lookup x=some .local:=by first | exact .inl rfl | exact .inr rfl | assumption):wpAny M A (storeName X.env x u) Q E s :=
 Vz I hN hi hx r (fun s' I' _=>h s' I') hf
theorem Bu.call'{s':Shared}{ch:List Addr}(I:Bu X Ab σ H s)(ho:s'.os=s.os)(u:Un (Nh X.stack) ch H H' s.heap s'.heap)(hok:Nk X.prog X.w H' s'.heap)(hg:AllBare s'.gens)
 (hch:∀b∈ch,(b∈X.ex\/X.s₀.heap.objs.size<=b)/\b≠X.env.locals/\(∀x c,X.env.cells.lookup x=some c->c≠b)/\∀p∈X.pn++Ab,p.1≠b):Bu X Ab σ H' s':=by
 obtain⟨h',g',d',t',o'⟩:=s';have e:o'=s.os:=ho;subst e;exact I.call (g':=g') (t':=t') (d':=d') u hok hg hch
end
noncomputable abbrev XK:=Value->OAddr->Hp->Prop
noncomputable abbrev St:=List (Option V)
noncomputable abbrev VK:=V->Hp->Prop
noncomputable abbrev TE:=St->Hp->VK->Prop
noncomputable abbrev TT:=St->Hp->(Bool->Hp->Prop)->Prop
noncomputable abbrev TA:=St->Hp->(List V->Hp->Prop)->Prop
structure Ends where
 nx:St->Hp->Prop
 rt:VK
 bk:St->Hp->Prop:=fun _ _=>False
 ct:St->Hp->Prop:=fun _ _=>False
noncomputable abbrev TS:=Ends->St->Hp->Prop
noncomputable def EP(X:Cx)(Ab:LAObj)(σ:St)(Q:VK)(u:Value)(s':Shared):Prop:=∃v H',Bu X Ab σ H' s'/\RelV v u/\Q v H'
noncomputable def TP(X:Cx)(Ab:LAObj)(σ:St)(Q:Bool->Hp->Prop)(b:Bool)(s':Shared):Prop:=∃H',Bu X Ab σ H' s'/\Q b H'
noncomputable def AP(X:Cx)(Ab:LAObj)(σ:St)(Q:List V->Hp->Prop)(us:List Value)(s':Shared):Prop:=∃vs H',Bu X Ab σ H' s'/\Cg vs us/\Q vs H'
noncomputable def SP(X:Cx)(Ab:LAObj)(D:Ends)(f:Flow)(s':Shared):Prop :=
 match f with
 | .next=>∃σ' H',Bu X Ab σ' H' s'/\D.nx σ' H'
 | .brk=>∃σ' H',Bu X Ab σ' H' s'/\D.bk σ' H'
 | .cont=>∃σ' H',Bu X Ab σ' H' s'/\D.ct σ' H'
 | .ret u=>∃v σ' H',Bu X Ab σ' H' s'/\RelV v u/\D.rt v H'
noncomputable def PE(X:Cx)(e:Expr)(t:TE):Prop :=
 ∀(Ab:LAObj) (s:Shared) (σ:St) (H:Hp) (Q:VK),Bu X Ab σ H s->t σ H Q->wpAny (model X.prog X.w) X.A (eval e X.env) (EP X Ab σ Q) X.xe s
noncomputable def PT(X:Cx)(e:Expr)(t:TT):Prop :=
 ∀(Ab:LAObj) (s:Shared) (σ:St) (H:Hp) (Q:Bool->Hp->Prop),Bu X Ab σ H s->t σ H Q->wpAny (model X.prog X.w) X.A (isTrue e X.env (eval e X.env)) (TP X Ab σ Q) X.xe s
noncomputable def PW(X:Cx)(e:Expr)(t:TT):Prop :=
 ∀(whole:Sem Value) (Ab:LAObj) (s:Shared) (σ:St) (H:Hp) (Q:Bool->Hp->Prop),Bu X Ab σ H s->t σ H Q->wpAny (model X.prog X.w) X.A (isTrue e X.env whole) (TP X Ab σ Q) X.xe s
theorem PW.pt{X:Cx}{e:Expr}{t:TT}(h:PW X e t):PT X e t:=h _
noncomputable def PA(X:Cx)(es:List Expr)(t:TA):Prop :=
 ∀(pos:Pos) (Ab:LAObj) (s:Shared) (σ:St) (H:Hp) (Q:List V->Hp->Prop),Bu X Ab σ H s->t σ H Q->wpAny (model X.prog X.w) X.A (spliced (backTo pos (starEach es X.env))) (AP X Ab σ Q) X.xe s
noncomputable def PS(X:Cx)(st:Stmt)(t:TS):Prop :=
 ∀(Ab:LAObj) (s:Shared) (σ:St) (H:Hp) (D:Ends),Bu X Ab σ H s->t D σ H->wpAny (model X.prog X.w) X.A (exec st X.env) (SP X Ab D) X.xe s
noncomputable def Zg(X:Cx)(st:List Stmt)(t:TS):Prop :=
 ∀(Ab:LAObj) (s:Shared) (σ:St) (H:Hp) (D:Ends),Bu X Ab σ H s->t D σ H->wpAny (model X.prog X.w) X.A (execs st X.env) (SP X Ab D) X.xe s
theorem Ed{α:Type}{t:Sem α}{Q Q':α->Shared->Prop}{M:Model}{A:Around}{E:Value->Shared->Prop}{s:Shared}(h:wpAny M A t Q E s)(hQ:∀a s,Q a s->Q' a s):wpAny M A t Q' E s:=qg5 h hQ fun _ _ x=>x
section
variable{X:Cx}
theorem ZZ{a b:Expr}{ta tb:TE}(ha:PE X a ta)(hb:PE X b tb){Ab:LAObj}{s:Shared}{σ:St}{H:Hp}{R:V->V->Hp->Prop}(I:Bu X Ab σ H s)(h:ta σ H fun x H1=>tb σ H1 fun y H2=>R x y H2)
 {α:Type}{Q:α->Shared->Prop}{f:Value->Value->Sem α}
 (hf:∀v u s2 x y H2,Bu X Ab σ H2 s2->RelV x v->RelV y u->R x y H2->wpAny (model X.prog X.w) X.A (f v u) Q X.xe s2) :
 wpAny (model X.prog X.w) X.A (eval a X.env) (fun v s₁=>wpAny (model X.prog X.w) X.A (eval b X.env) (fun u s₂=>wpAny (model X.prog X.w) X.A (f v u) Q X.xe s₂) X.xe s₁) X.xe s:=by
 refine Ed (ha Ab s σ H _ I h) fun v s1 _z=>?_;obtain⟨x,H1,I1,r1,q1⟩:=_z;refine Ed (hb Ab s1 σ H1 _ I1 q1) fun u s2 _z=>?_;obtain⟨y,H2,I2,r2,q2⟩:=_z;exact hf v u s2 x y H2 I2 r1 r2 q2
noncomputable def oH(i:Nat):TE:=fun σ H Q=>∃v,σ[i]?=some (some v)/\Q v H
noncomputable def tC(v:V):TE:=fun _ H Q=>Q v H
theorem LZ{i:Nat}{x:Str}{pos:Pos}(hN:X.N[i]?=some x)(hv:RO X.env.scope x)(hd:(x==("__debug__":Str))=false:=by decide)(hcd:(x==("__classdict__":Str))=false:=by decide):PE X (.Name x pos) (oH i):=by
 intro Ab s σ H Q I h;obtain⟨v,e,h⟩:=h;obtain⟨m,hn,hl⟩:=I.loc;obtain⟨u,r,l⟩:=hl i x v hN e hv;have fin:EP X Ab σ Q u s:=⟨v,H,I,r,h⟩
 rcases l with⟨hk,hm⟩|⟨hk,c,hc,hcell⟩
 . exact wpAny_Name (wpAny_loadName_local I.ok.kind hk hn hm fin) hd
 . rcases hk with hk | hk
   . exact wpAny_Name (wpAny_loadName_cell I.ok.kind hk hc hcell fin) hd
   . exact wpAny_Name (wpAny_loadName_free I.ok.kind hk hc hcell fin hcd) hd
theorem Ak{i j pos}:PE X (.Constant (.int i) j pos) (tC (.int i)):=fun _ _ _ H _ I h=>wpAny_Constant_int ⟨.int i,H,I.tok _,⟨_,rfl⟩,h⟩
theorem Ii{b j pos}:PE X (.Constant (.bool b) j pos) (tC (.bl b)):=fun _ _ _ H _ I h=>Constant_bool ⟨.bl b,H,I,rfl,h⟩
theorem Ig{j pos}:PE X (.Constant .none j pos) (tC .non):=fun _ _ _ H _ I h=>Constant_none ⟨.non,H,I,rfl,h⟩
theorem Ek{x j pos}:PE X (.Constant (.str x) j pos) (tC (.str x)):=fun _ _ _ H _ I h=>Calls.Constant_str ⟨.str x,H,I.tok _,⟨_,rfl⟩,h⟩
noncomputable def Gl(X:Cx)(x:Str):Prop:=X.env.kindOf x=some .globalImplicit
theorem Hn{E:Value->Shared->Prop}{Ab:LAObj}{s:Shared}{σ:St}{H:Hp}{x:Str}{u:Value}{pos:Pos}{Q:Value->Shared->Prop}(I:Bu X Ab σ H s)(hg:Gl X x)(hm:X.mg x=some u)(h:Q u s)
 (hd:(x==("__debug__":Str))=false:=by decide):wpAny (model X.prog X.w) X.A (eval (.Name x pos) X.env) Q E s :=
 Calls.Name_function_global I.ok.kind hg (Calls.loadGlobal_global (by rw[I.ok.glob];exact I.mod.glob.keeps I.bk) hm h) hd
theorem Kv{E:Value->Shared->Prop}{Ab:LAObj}{s:Shared}{σ:St}{H:Hp}{x:Str}{u:Value}{pos:Pos}{Q:Value->Shared->Prop}(I:Bu X Ab σ H s)(hg:Gl X x)(hm:X.mg x=none)(hv:bootBuiltins x=some u)(h:Q u s)
 (hn:x≠"__name__":=by decide) (hd:(x==("__debug__":Str))=false:=by decide):wpAny (model X.prog X.w) X.A (eval (.Name x pos) X.env) Q E s:=by
 obtain⟨mb,h1,h2⟩:=I.mod.blt;exact Calls.Name_function_global I.ok.kind hg (Calls.loadGlobal_builtin (by rw[I.ok.glob];exact I.mod.glob.keeps I.bk) hm (by rw[I.ok.blt];exact h1.keeps I.bk) ((h2 x hn).trans hv) h) hd
theorem Dr{x:Str}{v:V}{u:Value}{pos:Pos}(hg:Gl X x)(hm:X.mg x=some u)(r:RelV v u)(hd:(x==("__debug__":Str))=false:=by decide):PE X (.Name x pos) (tC v) :=
 fun _ _ _ H _ I h=>Hn I hg hm ⟨v,H,I,r,h⟩ hd
theorem Hm{x:Str}{v:V}{u:Value}{pos:Pos}(hg:Gl X x)(hm:X.mg x=none)(hv:bootBuiltins x=some u)(r:RelV v u)(hn:x≠"__name__":=by decide)(hd:(x==("__debug__":Str))=false:=by decide):PE X (.Name x pos) (tC v) :=
 fun _ _ _ H _ I h=>Kv I hg hm hv ⟨v,H,I,r,h⟩ hn hd
variable{a b:Expr}{ta tb:TE}{pos:Pos}
noncomputable def PC(X:Cx)(op:CmpOp)(a b:Expr)(t:TE):Prop :=
 ∀(Ab:LAObj) (s:Shared) (σ:St) (H:Hp) (Q:VK),Bu X Ab σ H s->t σ H Q →
   wpAny (model X.prog X.w) X.A (eval a X.env) (fun v s₁=>wpAny (model X.prog X.w) X.A (eval b X.env) (fun u s₂=>wpAny (model X.prog X.w) X.A (compareOp op v u) (EP X Ab σ Q) X.xe s₂) X.xe s₁) X.xe s
theorem fX(b:Expr){op:CmpOp}(h:op≠.In)(h2:op≠.NotIn):behindInMarks op b=false:=by
 have e1:(op==CmpOp.In)=false:=by cases op<;>first | rfl | exact absurd rfl h
 have e2:(op==CmpOp.NotIn)=false:=by cases op<;>first | rfl | exact absurd rfl h2
 cases b<;>simp[behindInMarks,e1,e2]
noncomputable def tB(t:TE):TT:=fun σ H Q=>t σ H fun x H1=>∃c,x=.bl c/\Q c H1
theorem SD{op:CmpOp}{t:TE}(h:PC X op a b t)(h1:behindInMarks op b=false:=by first | exact fX _ (by decide) (by decide) | rfl):PT X (.Compare a [op] [b] pos) (tB t):=by
 intro Ab s σ H Q I hw;refine wpAny_isTrue_Compare1 (Ed (h Ab s σ H _ I hw) fun v s1 h1=>Ed h1 fun u s2 h2=>Ed h2 fun c s3 _z=>?_) h1;obtain⟨x,H1,I1,r1,q1⟩:=_z;obtain⟨d,rfl,q⟩:=q1;cases r1;exact qi8 ⟨H1,I1,q⟩
theorem Ie{e:Expr}{t:TE}(h:PE X e t)(he:∀whole,isTrue e X.env whole=(do let v ←whole;standAt e.pos;holding [v] (truthy v)):=by intro _;rfl):PT X e (tB t):=by
 intro Ab s σ H Q I hw;refine isTrue_plain (Ed (h Ab s σ H _ I hw) fun v s1 _z=>?_) (he _);obtain⟨x,H1,I1,r1,q1⟩:=_z;obtain⟨d,rfl,q⟩:=q1;cases r1;exact qi8 ⟨H1,I1,q⟩
variable{tA qT:TT}{rest:List Expr}
noncomputable def RX(t u:TT):TT:=fun σ H Q=>t σ H fun c H1=>if c=true then u σ H1 Q else Q false H1
noncomputable def wL(t u:TT):TT:=fun σ H Q=>t σ H fun c H1=>if c=true then Q true H1 else u σ H1 Q
noncomputable def RW(t:TT):TT:=fun σ H Q=>t σ H fun c H1=>Q (!c) H1
theorem bH(ha:PT X a tA):PW X (.BoolOp .And [a] pos) tA:=by
 intro wh Ab s σ H Q I h;refine isTrue_and (Ed (ha Ab s σ H Q I h) fun c s1 e=>?_);cases c with
 | true=>exact isTrue_and_nil e
 | false=>exact e
theorem Xm(ha:PT X a tA):PW X (.BoolOp .Or [a] pos) tA:=by
 intro wh Ab s σ H Q I h;refine isTrue_or (Ed (ha Ab s σ H Q I h) fun c s1 e=>?_);cases c with
 | false=>exact isTrue_or_nil e
 | true=>exact e
theorem FL(ha:PT X a tA)(hb:PW X (.BoolOp .And (b::rest) pos) qT):PW X (.BoolOp .And (a::b::rest) pos) (RX tA qT):=by
 intro wh Ab s σ H Q I h;refine isTrue_and (Ed (ha Ab s σ H _ I h) fun c s1 _z=>?_);obtain⟨H1,I1,q1⟩:=_z;cases c with
 | true=>exact hb wh Ab s1 σ H1 Q I1 q1
 | false=>exact⟨H1,I1,q1⟩
theorem BG(ha:PT X a tA)(hb:PW X (.BoolOp .Or (b::rest) pos) qT):PW X (.BoolOp .Or (a::b::rest) pos) (wL tA qT):=by
 intro wh Ab s σ H Q I h;refine isTrue_or (Ed (ha Ab s σ H _ I h) fun c s1 _z=>?_);obtain⟨H1,I1,q1⟩:=_z;cases c with
 | true=>exact⟨H1,I1,q1⟩
 | false=>exact hb wh Ab s1 σ H1 Q I1 q1
theorem Jr(ha:PT X a tA):PT X (.UnaryOp .Not a pos) (RW tA):=by
 intro Ab s σ H Q I h;exact isTrue_not (ha Ab s σ H (fun c H1=>Q (!c) H1) I h)
noncomputable def oM(ta tb:TE):TE:=fun σ H Q=>ta σ H fun x H1=>∃c,x=.bl c/\if c=true then tb σ H1 Q else Q (.bl false) H1
noncomputable def OJ(ta:TE):TE:=fun σ H Q=>ta σ H fun x H1=>∃c,x=.bl c/\Q (.bl (!c)) H1
theorem Tg{op}{t:TE}(h:PE X a t):PE X (.BoolOp op [a] pos) t:=fun Ab s σ H Q I hw=>BoolOp_one (h Ab s σ H Q I hw)
theorem Qf(ha:PE X a ta)(hb:PE X (.BoolOp .And (b::rest) pos) tb):PE X (.BoolOp .And (a::b::rest) pos) (oM ta tb):=by
 intro Ab s σ H Q I h;refine BoolOp_and (Ed (ha Ab s σ H _ I h) fun v s1 _z=>?_);obtain⟨x,H1,I1,r1,q1⟩:=_z;obtain⟨c,rfl,q1⟩:=q1;cases r1;refine qi8 ?_;cases c with
 | true=>exact hb Ab s1 σ H1 Q I1 q1
 | false=>exact⟨.bl false,H1,I1,rfl,q1⟩
theorem Xr(ha:PE X a ta):PE X (.UnaryOp .Not a pos) (OJ ta):=by
 intro Ab s σ H Q I h;refine UnaryOp_ (Ed (ha Ab s σ H _ I h) fun v s1 _z=>?_);obtain⟨x,H1,I1,r1,q1⟩:=_z;obtain⟨c,rfl,q1⟩:=q1;cases r1;exact not_of (qi8 ⟨.bl (!c),H1,I1,rfl,q1⟩)
noncomputable def WL(t:TT)(ta tb:TE):TE:=fun σ H Q=>t σ H fun c H1=>if c=true then ta σ H1 Q else tb σ H1 Q
theorem Th{c:Expr}(hc:PT X c tA)(ha:PE X a ta)(hb:PE X b tb):PE X (.IfExp c a b pos) (WL tA ta tb):=by
 intro Ab s σ H Q I h;refine wpAny_IfExp (Ed (hc Ab s σ H _ I h) fun d s1 _z=>?_);obtain⟨H1,I1,q1⟩:=_z;cases d with
 | true=>exact ha Ab s1 σ H1 Q I1 q1
 | false=>exact hb Ab s1 σ H1 Q I1 q1
end
noncomputable def SqL(K:W.Frag)(H:Hp)(a:Addr)(xs:List V):Prop :=
 Rd H a (.lst xs) ∨
  ∃(o:Obj) (its:Array Value) (n:Nat),K.lookup a=some o/\o.cls=.type "list"/\o.dict=none/\o.data=.seq its n/\its.size<=sizeLine/\Cg xs its.toList
noncomputable def Fe(K:W.Frag)(H:Hp)(a:Addr)(xs:List V):Prop :=
 Rd H a (.tup xs) ∨
  ∃(o:Obj) (its:Array Value) (n:Nat),K.lookup a=some o/\o.cls=.type "tuple"/\o.dict=none/\o.data=.seq its n/\its.size<=sizeLine/\Cg xs its.toList
noncomputable def uI:Value->Option V
 | .none=>some .non
 | .bool b=>some (.bl b)
 | .int i _=>some (.int i)
 | .str x _=>some (.str x)
 | .bytes b _=>some (.byt b)
 | .float b _=>some (.flt b)
 | .ref a=>some (.ref a)
 | .type n=>some (.ty n)
 | _=>none
theorem RelV.abs{x:V}{u:Value}(r:RelV x u):uI u=some x:=by
 cases x with
 | non=>cases r;rfl
 | bl _=>cases r;rfl
 | int _=>obtain⟨t,rfl⟩:=r;rfl
 | str _=>obtain⟨t,rfl⟩:=r;rfl
 | byt _=>obtain⟨t,rfl⟩:=r;rfl
 | flt _=>obtain⟨t,rfl⟩:=r;rfl
 | ref _=>cases r;rfl
 | ty _=>cases r;rfl
theorem RelV.inj{x y:V}{u:Value}(r:RelV x u)(q:RelV y u):x=y:=qd7 (r.abs.symm.trans q.abs)
theorem Cg.inj:∀{xs ys:List V}{us:List Value},Cg xs us->Cg ys us->xs=ys
 | _,_,_,.nil,.nil=>rfl
 | _,_,_,.cons r t,.cons r' t'=>by rw[r.inj r',Cg.inj t t']
section
variable{X:Cx}{Ab:LAObj}{σ:St}{H:Hp}{s:Shared}{a:Addr}{xs ys:List V}
theorem SqL.of{K:W.Frag}(h:H a=some (.lst xs)):SqL K H a xs:=.inl (.inl h)
theorem Fe.of{K:W.Frag}(h:H a=some (.tup xs)):Fe K H a xs:=.inl (.inl h)
theorem Bu.list(I:Bu X Ab σ H s)(h:SqL X.K H a xs):∃its:List Value,Cg xs its/\PlainL s.heap a its.toArray/\xs.length<=sizeLine:=by
 rcases h with h|⟨o,its,n,hk,hc,hd,hs,hz,r⟩
 . obtain⟨z,its,n,r,e⟩:=h.ok I.hok;exact⟨its,r,⟨_,n,e,rfl,rfl,rfl⟩,z⟩
 . refine⟨its.toList,r,⟨o,n,I.kIn a o hk,hc,hd,by simpa using hs⟩,?_⟩;have e:=r.length;simp only[Array.length_toList]at e;omega
theorem Bu.tuple(I:Bu X Ab σ H s)(h:Fe X.K H a xs):∃its:List Value,Cg xs its/\IsTup s.heap a its.toArray/\xs.length<=sizeLine:=by
 rcases h with h|⟨o,its,n,hk,hc,_,hs,hz,r⟩
 . obtain⟨z,its,r,p⟩:=h.ok I.hok;exact⟨its,r,p.tup,z⟩
 . refine⟨its.toList,r,⟨o,I.kIn a o hk,hc,n,by simpa using hs⟩,?_⟩;have e:=r.length;simp only[Array.length_toList]at e;omega
theorem Bu.list_inj(I:Bu X Ab σ H s)(h:SqL X.K H a xs)(h':SqL X.K H a ys):xs=ys:=by
 obtain⟨its,r,⟨o,n,e,_,_,d⟩,_⟩:=I.list h;obtain⟨its',r',⟨o',n',e',_,_,d'⟩,_⟩:=I.list h';rw[e]at e';cases e';rw[d]at d';injection d' with d1 _;have:its=its':=by simpa using congrArg Array.toList d1
 subst this;exact r.inj r'
theorem Bu.tuple_inj(I:Bu X Ab σ H s)(h:Fe X.K H a xs)(h':Fe X.K H a ys):xs=ys:=by
 obtain⟨its,r,⟨o,e,_,n,d⟩,_⟩:=I.tuple h;obtain⟨its',r',⟨o',e',_,n',d'⟩,_⟩:=I.tuple h';rw[e]at e';cases e';rw[d]at d';injection d' with d1 _;have:its=its':=by simpa using congrArg Array.toList d1
 subst this;exact r.inj r'
end
noncomputable abbrev Cx.wish(X:Cx)(E:Value->Shared->Prop):Cx:={ X with xe:=E }
noncomputable abbrev Cx.nox(X:Cx):Cx:=X.wish fun _ _=>False
theorem Cx.Ok.wish{X:Cx}(ok:X.Ok)(E:Value->Shared->Prop):(X.wish E).Ok :=
 ⟨ok.mod,ok.kind,ok.glob,ok.blt,ok.above,ok.inj,ok.has,ok.cab,ok.hd,ok.frames,ok.stk,ok.exf,ok.bs,ok.bsz,ok.noex,ok.exfs,ok.funs,ok.frf⟩
theorem Cx.Ok.unwish{X:Cx}{E:Value->Shared->Prop}(ok:(X.wish E).Ok):X.Ok :=
 ⟨ok.mod,ok.kind,ok.glob,ok.blt,ok.above,ok.inj,ok.has,ok.cab,ok.hd,ok.frames,ok.stk,ok.exf,ok.bs,ok.bsz,ok.noex,ok.exfs,ok.funs,ok.frf⟩
section
variable{X:Cx}{Ab:LAObj}{σ:St}{H:Hp}{s:Shared}{E:Value->Shared->Prop}
theorem Bu.wish(I:Bu X Ab σ H s)(E:Value->Shared->Prop):Bu (X.wish E) Ab σ H s:=⟨I.ok.wish E,I.os,I.bare,I.base,I.loc,I.cell,I.free,I.freeC,I.pin,I.hok,I.len⟩
theorem Bu.unwish(I:Bu (X.wish E) Ab σ H s):Bu X Ab σ H s:=⟨I.ok.unwish,I.os,I.bare,I.base,I.loc,I.cell,I.free,I.freeC,I.pin,I.hok,I.len⟩
theorem SP.unwish{D:Ends}{f:Flow}{s':Shared}(h:SP (X.wish E) Ab D f s'):SP X Ab D f s':=by
 cases f with
 | next=>obtain⟨σ',H',I,q⟩:=h;exact⟨σ',H',I.unwish,q⟩
 | brk=>obtain⟨σ',H',I,q⟩:=h;exact⟨σ',H',I.unwish,q⟩
 | cont=>obtain⟨σ',H',I,q⟩:=h;exact⟨σ',H',I.unwish,q⟩
 | ret u=>obtain⟨v,σ',H',I,r,q⟩:=h;exact⟨v,σ',H',I.unwish,r,q⟩
theorem Zg.nox{st:List Stmt}{t:TS}(h:Zg X.nox st t):Zg X st t:=fun Ab s σ H D I hw =>
 qg5 (h Ab s σ H D (I.wish _) hw) (fun _ _ q=>q.unwish) fun _ _ z=>False.elim z
end
section
variable{X:Cx}{st:Stmt}{rest:List Stmt}{t u:TS}{e:Expr}{te:TE}{pos:Pos}
noncomputable def kH:TS:=fun D σ H=>D.nx σ H
noncomputable def fC(t u:TS):TS:=fun D σ H=>t { D with nx:=u D } σ H
theorem Cb:Zg X [] kH:=fun _ _ σ H _ I h=>qn2 ⟨σ,H,I,h⟩
theorem Ah(h1:PS X st t)(h2:Zg X rest u):Zg X (st::rest) (fC t u):=by
 intro Ab s σ H D I h;refine wpAny_execs_cons (Ed (h1 Ab s σ H { D with nx:=u D } I h) fun f s1 q=>?_);cases f with
 | next =>
   obtain⟨σ',H',I',q⟩:=q;exact h2 Ab s1 σ' H' D I' q
 | ret v=>exact q
 | brk=>exact q
 | cont=>exact q
theorem Al(h1:PS X st t):Zg X [st] t:=by
 intro Ab s σ H D I h;refine wpAny_execs_cons (Ed (h1 Ab s σ H D I h) fun f s1 q=>?_);cases f with
 | next=>exact qn2 q
 | ret v=>exact q
 | brk=>exact q
 | cont=>exact q
theorem Bu.quiet{Ab:LAObj}{σ:St}{H:Hp}{s:Shared}(I:Bu X Ab σ H s):interactive X.env=false:=by simp[interactive,I.ok.kind]
noncomputable def OL(te:TE):TS:=fun D σ H=>te σ H fun _ H1=>D.nx σ H1
theorem Cf(he:PE X e te)(hs:swapsWith e none pos.line X.env=pure false:=by rfl):PS X (.Expr e pos) (OL te):=by
 intro Ab s σ H D I h;exact wpAny_Expr_any (Ed (he Ab s σ H _ I h) fun v s1 ⟨x,H1,I1,r1,q1⟩=>⟨σ,H1,I1,q1⟩) I.quiet hs
noncomputable def OI(te:TE):TS:=fun D σ H=>te σ H D.rt
theorem Bq(he:PE X e te):PS X (.Return (some e) pos) (OI te):=by
 intro Ab s σ H D I h;exact wpAny_Return_some (Ed (he Ab s σ H _ I h) fun v s1 ⟨x,H1,I1,r1,q1⟩=>⟨x,σ,H1,I1,r1,q1⟩)
noncomputable def Ri(c:TT)(t u:TS):TS:=fun D σ H=>c σ H fun b H1=>if b=true then t D σ H1 else u D σ H1
theorem Ck{c:Expr}{a b:List Stmt}{tc:TT}(hc:PT X c tc)(ha:Zg X a t)(hb:Zg X b u):PS X (.If c a b pos) (Ri tc t u):=by
 intro Ab s σ H D I h;refine wpAny_If (Ed (hc Ab s σ H _ I h) fun d s1 _z=>?_);obtain⟨H1,I1,q1⟩:=_z;cases d with
 | true=>exact ha Ab s1 σ H1 D I1 q1
 | false=>exact hb Ab s1 σ H1 D I1 q1
end
noncomputable abbrev TG:=V->St->Hp->(St->Hp->Prop)->Prop
noncomputable abbrev lG:=List V->St->Hp->(St->Hp->Prop)->Prop
noncomputable def PG(X:Cx)(target:Expr)(t:TG):Prop :=
 ∀(Ab:LAObj) (s:Shared) (σ:St) (H:Hp) (v:V) (u:Value) (Q:St->Hp->Prop),Bu X Ab σ H s->RelV v u->t v σ H Q →
   wpAny (model X.prog X.w) X.A (assign target X.env u) (fun _ s'=>∃σ' H',Bu X Ab σ' H' s'/\Q σ' H') X.xe s
noncomputable def qL(X:Cx)(ts:List Expr)(t:lG):Prop :=
 ∀(Ab:LAObj) (s:Shared) (σ:St) (H:Hp) (vs:List V) (us:List Value) (Q:St->Hp->Prop),Bu X Ab σ H s->Cg vs us->t vs σ H Q →
   wpAny (model X.prog X.w) X.A (assignInOrder ((assignEach ts X.env).map (·.2)) us) (fun _ s'=>∃σ' H',Bu X Ab σ' H' s'/\Q σ' H') X.xe s
noncomputable abbrev nF:=V->V->V->Hp->(Hp->Prop)->Prop
noncomputable def QK(X:Cx)(t:nF):Prop :=
 ∀(Ab:LAObj) (s:Shared) (σ:St) (H:Hp) (o i v:V) (ov iv u:Value) (Q:Hp->Prop),Bu X Ab σ H s->RelV o ov->RelV i iv->RelV v u->t o i v H Q →
   wpAny (model X.prog X.w) X.A (setItem ov iv u) (fun _ s'=>∃H',Bu X Ab σ H' s'/\Q H') X.xe s
section
variable{X:Cx}{pos:Pos}
noncomputable def Wn(i:Nat):TG:=fun v σ H Q=>Q (σ.set i (some v)) H
theorem iV{i:Nat}{x:Str}(hN:X.N.Nodup)(hi:X.N[i]?=some x)(hx:NH X.env.scope x)(hf:X.fn x=true\/X.env.scope.names.lookup x=some .local:=by first | exact .inl rfl | exact .inr rfl | assumption):PG X (.Name x pos) (Wn i):=by
 intro Ab s σ H v u Q I r h;exact wpAny_assign_Name (Sf I hN hi hx r (fun s' I'=>⟨_,H,I',h⟩) hf)
theorem Bs{i:Nat}{x:Str}(hN:X.N.Nodup)(hi:X.N[i]?=some x:=by rfl)(hx:NH X.env.scope x:=by first | exact Or.inl rfl | exact Or.inr rfl)(hf:X.fn x=true\/X.env.scope.names.lookup x=some .local:=by first | exact .inl rfl | exact .inr rfl | assumption):PG X (.Name x pos) (Wn i):=iV hN hi hx hf
noncomputable def TZ:lG:=fun vs σ H Q=>vs=[]/\Q σ H
noncomputable def qD(t:TG)(u:lG):lG:=fun vs σ H Q=>∃v r,vs=v::r/\t v σ H fun σ' H'=>u r σ' H' Q
theorem Ix:qL X [] TZ:=by
 intro Ab s σ H vs us Q I r h;obtain⟨e,h⟩:=h;subst e;cases r;exact assignInOrder_nil ⟨σ,H,I,h⟩
theorem C8{e:Expr}{es:List Expr}{t:TG}{u:lG}(h1:PG X e t)(h2:qL X es u)
 (hs:(assignEach (e::es) X.env).map (·.2)=assign e X.env::(assignEach es X.env).map (·.2):=by rfl):qL X (e::es) (qD t u):=by
 intro Ab s σ H vs us Q I r h;obtain⟨v,vr,e1,h⟩:=h;subst e1;cases r with
 | cons r rr =>
   rw[hs];refine assignInOrder_cons (Ed (h1 Ab s σ H _ _ _ I r h) fun _ s1 _z=>?_);obtain⟨σ1,H1,I1,q1⟩:=_z;exact h2 Ab s1 σ1 H1 _ _ Q I1 rr q1
noncomputable def QC(K:W.Frag)(n:Nat)(t:lG):TG:=fun v σ H Q=>∃a xs,v=.ref a/\Fe K H a xs/\xs.length=n/\t xs σ H Q
theorem lZ{es:List Expr}{k:Nat}{t:lG}{n:Nat}(hc:X.calm=true)(h:qL X es t)
 (hn:(assignEach es X.env).length=n:=by rfl) (hst:(assignEach es X.env).findIdx? (·.1)=none:=by rfl):PG X (.Tuple es k pos) (QC X.K n t):=by
 intro Ab s σ H v u Q I r hw;obtain⟨a,xs,e1,hq,hl,hw⟩:=hw;subst e1;cases r;obtain⟨its,rv,ht,hz⟩:=I.tuple hq;refine assign_Tuple_tuple (I.ok.hd hc) ht (by simp[hn,←hl,rv.length]) hst fun h' hx=>?_;have I1:Bu X Ab σ H { s with heap:=h' }:=I.kept (t':=s.toks) fun b o e=>hx b o (qb8 (qa7 e)) e;exact h Ab _ σ H xs _ Q I1 (by simpa using rv) hw
noncomputable def tZ(to ti:TE)(t:nF):TG:=fun v σ H Q=>to σ H fun o H1=>ti σ H1 fun i H2=>t o i v H2 fun H3=>Q σ H3
theorem Jt{o i:Expr}{to ti:TE}{t:nF}(ho:PE X o to)(hi:PE X i ti)(hs:QK X t)
 (ha:∀v,assign (.Subscript o i pos) X.env v=(do
   let ov ←holding [v] (eval o X.env)
   let iv ←holding [v,ov] (eval i X.env)
   standAt pos
   holding [v,ov,iv] (setItem ov iv v)
   release [v,ov,iv] []):=by intro _;rfl):PG X (.Subscript o i pos) (tZ to ti t):=by
 intro Ab s σ H v u Q I r h;rw[ha];refine qa5 (wpAny_holding (Ed (ho Ab s σ H _ I h) fun ov s1 _z=>?_));obtain⟨x,H1,I1,r1,q1⟩:=_z;refine qa5 (wpAny_holding (Ed (hi Ab s1 σ H1 _ I1 q1) fun iv s2 _z=>?_));obtain⟨y,H2,I2,r2,q2⟩:=_z;refine qa5 (wpAny_standAt (qa5 (wpAny_holding (Ed (hs Ab s2 σ H2 x y v ov iv u _ I2 r1 r2 r q2) fun _ s3 _z=>?_))));obtain⟨H3,I3,q3⟩:=_z;exact wpAny_release ⟨σ,H3,I3,q3⟩
noncomputable def IG(te:TE)(g:TG):TS:=fun D σ H=>te σ H fun x H1=>g x σ H1 D.nx
theorem Js{tg e:Expr}{te:TE}{g:TG}(he:PE X e te)(hg:PG X tg g)(hs:swapsWithSole [tg] e pos.line X.env=pure false:=by rfl)(hw:swappedStores [tg] e X.env=pure none:=by rfl)
 (h1:(assignEach [tg] X.env).map (·.2)=[assign tg X.env]:=by rfl):PS X (.Assign [tg] e pos) (IG te g):=by
 intro Ab s σ H D I h;refine wpAny_Assign_stores (Ed (he Ab s σ H _ I h) fun v s1 _z=>?_) hs hw;obtain⟨x,H1,I1,r1,q1⟩:=_z;rw[h1];exact Ed (hg Ab s1 σ H1 x v _ I1 r1 q1) fun _ s2 q=>q
theorem lX{i:Nat}{x:Str}{e:Expr}{te:TE}{pos':Pos}(hN:X.N.Nodup)(hi:X.N[i]?=some x)(hx:NH X.env.scope x)(he:PE X e te)(hs:swapsWith e (some (.Name x pos')) pos.line X.env=pure false:=by rfl)(hf:X.fn x=true\/X.env.scope.names.lookup x=some .local:=by first | exact .inl rfl | exact .inr rfl | assumption) :
 PS X (.Assign [.Name x pos'] e pos) (IG te (Wn i)):=by
 intro Ab s σ H D I h;refine wpAny_Assign_Name (Ed (he Ab s σ H _ I h) fun v s1 _z=>?_) hs;obtain⟨y,H1,I1,r1,q1⟩:=_z;exact Sf I1 hN hi hx r1 (fun s2 I2=>⟨_,H1,I2,q1⟩) hf
theorem Bk{i:Nat}{x:Str}{e:Expr}{te:TE}{pos':Pos}(hN:X.N.Nodup)(he:PE X e te)(hi:X.N[i]?=some x:=by rfl)(hx:NH X.env.scope x:=by first | exact Or.inl rfl | exact Or.inr rfl)(hs:swapsWith e (some (.Name x pos')) pos.line X.env=pure false:=by rfl)(hf:X.fn x=true\/X.env.scope.names.lookup x=some .local:=by first | exact .inl rfl | exact .inr rfl | assumption):PS X (.Assign [.Name x pos'] e pos) (IG te (Wn i)):=lX hN hi hx he hs hf
end
section
variable{X:Cx}{pos:Pos}
noncomputable def LO(c:TT)(tb:TS):TS:=fun D σ H=>∃W:Nat->St->Hp->Prop,(∃m,W m σ H)/\∀m σ H,W m σ H →
 c σ H fun b H1=>if b=true then ∃N:St->Hp->Prop,(∀σ' H',N σ' H'->∃m',m'<m/\W m' σ' H')/\tb { D with nx:=N,ct:=N,bk:=D.nx } σ H1 else D.nx σ H1
theorem Ot{c:Expr}{body:List Stmt}{tc:TT}{tb:TS}(hp:PassesOwn (model X.prog X.w) X.A X.env X.xe)(hc:PT X c tc)(hb:Zg X body tb):PS X (.While c body [] pos) (LO tc tb):=by
 intro Ab s σ H D I h;obtain⟨W,⟨m0,w0⟩,turn⟩:=h;refine wpAny_While (codeAny_whileLoop (fun n s'=>∃σ' H',Bu X Ab σ' H' s'/\W n σ' H') ?_ m0 ⟨σ,H,I,w0⟩);rintro n s1 ⟨σ1,H1,I1,w1⟩;refine qj6 hp (Ed (hc Ab s1 σ1 H1 _ I1 (turn n σ1 H1 w1)) fun b s2 _z=>?_);obtain⟨H2,I2,q2⟩:=_z;cases b with
 | true =>
   obtain⟨N,hN,q2⟩:=q2;rw[if_pos rfl];refine qj6 hp (Ed (hb Ab s2 σ1 H2 _ I2 q2) fun f s3 q3=>?_);cases f with
   | next =>
     obtain⟨σ3,H3,I3,n3⟩:=q3;obtain⟨m',hm,w3⟩:=hN σ3 H3 n3;exact⟨m',hm,σ3,H3,I3,w3⟩
   | cont =>
     obtain⟨σ3,H3,I3,n3⟩:=q3;obtain⟨m',hm,w3⟩:=hN σ3 H3 n3;exact⟨m',hm,σ3,H3,I3,w3⟩
   | brk=>exact q3
   | ret v=>exact q3
 | false =>
   rw[if_neg qb6];exact qn2 ⟨σ1,H2,I2,q2⟩
end
structure It where
 go:Nat->Hp->Prop
 yld:Nat->Hp->V->Hp->Prop
 stop:Nat->Hp->Prop
noncomputable def M7(X:Cx)(Ab:LAObj)(H:Hp)(b:Addr):Prop :=
 H b=none/\b≠X.env.locals/\b ∉ X.fs/\(b∈X.ex\/X.s₀.heap.objs.size<=b)/\(∀x c,X.env.cells.lookup x=some c->c≠b)/\∀p∈X.pn++Ab,p.1≠b
theorem Bu.fpOk{X:Cx}{Ab:LAObj}{σ:St}{H H':Hp}{s:Shared}{b:Addr}(I:Bu X Ab σ H s)(hb:s.heap.objs.size<=b)(hn:H' b=none):M7 X Ab H' b:=by
 refine⟨hn,qm9 (qa6 I.lt hb),I.nofs hb,.inr (qa1 I.sz hb),fun x c e z=>?_,fun p hp z=>?_⟩
 . obtain⟨v,q⟩:=I.cell x c e;exact absurd (qa6 q.lt (by rw[z];exact hb)) (qi5 _)
 . exact absurd (qa6 (qa7 (I.pin p hp).1) (by rw[z];exact hb)) (qi5 _)
structure Vq(P:Program)(w:World)(K:W.Frag)(tg:Expr)(J:It)(fp:List Addr)(it:Addr)(tn:Nat->Heap->Prop):Prop where
 mem:it∈fp
 obj:∀i h,tn i h->∀b∈fp,∃o,h.get? b=some o/\∀v,o.data≠.cell v
 keep:∀i h h',tn i h->(∀b∈fp,∀o,h.get? b=some o->h'.get? b=some o)->tn i h'
 item:∀(X:Cx),X.prog=P->X.w=w->X.K=K->X.calm=true->∀(i:Nat) (Ab:LAObj) (s:Shared) (σ:St) (H:Hp) (E:Value->Shared->Prop),Bu X Ab σ H s->(∀b∈fp,M7 X Ab H b)->tn i s.heap->J.go i H →
  wpAny (model P w) X.A (pyNext (.ref it)) (fun r s1=>∃u,r=some u ∧
   wpAny (model P w) X.A (letOwnedTupleGo tg (.ref it) u) (fun _ s2=>∃x H',Bu X Ab σ H' s2/\RelV x u/\J.yld i H x H'/\tn (i+1) s2.heap/\∀b∈fp,H' b=none) E s1) E s
 done:∀(X:Cx),X.prog=P->X.w=w->X.K=K->X.calm=true->∀(i:Nat) (Ab:LAObj) (s:Shared) (σ:St) (H:Hp) (E:Value->Shared->Prop),Bu X Ab σ H s->(∀b∈fp,M7 X Ab H b)->tn i s.heap->J.stop i H →
  wpAny (model P w) X.A (pyNext (.ref it)) (fun r s1=>r=none/\Bu X Ab σ H s1) E s
 self:∀(A:Around) (i:Nat) (s:Shared) (Q:Value->Shared->Prop) (E:Value->Shared->Prop),tn i s.heap->Q (.ref it) s->wpAny (model P w) A (pyIter (.ref it)) Q E s
noncomputable abbrev TI:=St->Hp->(It->Hp->Prop)->Prop
noncomputable def WB(X:Cx)(Ab:LAObj)(σ:St)(tg:Expr)(R:It->Hp->Prop)(itv:Value)(s2:Shared):Prop :=
 ∃(it:Addr) (fp:List Addr) (tn:Nat->Heap->Prop) (J:It) (H':Hp),itv=.ref it/\Bu X Ab σ H' s2/\Vq X.prog X.w X.K tg J fp it tn/\tn 0 s2.heap/\(∀b∈fp,M7 X Ab H' b)/\R J H'
noncomputable def PI(X:Cx)(tg iter:Expr)(wi:TI):Prop :=
 ∀(Ab:LAObj) (s:Shared) (σ:St) (H:Hp) (R:It->Hp->Prop),Bu X Ab σ H s->wi σ H R →
   wpAny (model X.prog X.w) X.A (eval iter X.env) (fun v s1=>wpAny (model X.prog X.w) X.A (pyIter v) (WB X Ab σ tg R) X.xe s1) X.xe s
theorem bQ{M:Model}{A:Around}{E:Value->Shared->Prop}{s:Shared}{tg:Expr}{it:Addr}{u:Value}{o:Obj}{n:String}{vs:Array Value}{Q:Unit->Shared->Prop}(ho:s.heap.get? it=some o)(hc:o.cls=.type n)(hd:o.data=.fields vs)
 (hn:["enumerate","zip","dict_itemiterator","dict_reverseitemiterator","odict_iterator","itertools.zip_longest","itertools.pairwise"].contains n=false) (hQ:Q () s):wpAny M A (letOwnedTupleGo tg (.ref it) u) Q E s:=by
 unfold letOwnedTupleGo
 cases tg<;>first
  | exact qd3 hQ
  | (cases u<;>first
      | exact qd3 hQ
      | (refine qa5 (wpAny_load ho ?_)
         rw[hc,hd];show wpAny M A (if (["enumerate","zip","dict_itemiterator","dict_reverseitemiterator","odict_iterator","itertools.zip_longest","itertools.pairwise"].contains n&&vs[0]?==some (rawInt _))=true then _ else _) Q E s;rw[if_neg (by intro h;rw[hn,qj9]at h;cases h)];exact qd3 hQ))
noncomputable def nJ(K:W.Frag)(a:Addr):It :=
 ⟨fun i H=>∃xs x,SqL K H a xs/\xs[i]?=some x,fun i H x H'=>H'=H/\∀xs,SqL K H a xs->xs[i]?=some x,fun i H=>∃xs,SqL K H a xs/\xs.length<=i⟩
noncomputable def NI(K:W.Frag)(a:Addr):It :=
 ⟨fun i H=>∃xs x,Fe K H a xs/\xs[i]?=some x,fun i H x H'=>H'=H/\∀xs,Fe K H a xs->xs[i]?=some x,fun i H=>∃xs,Fe K H a xs/\xs.length<=i⟩
noncomputable def kB(lo:Int)(n:Nat):It:=⟨fun i _=>i<n,fun i H x H'=>H'=H/\x=.int (lo+i),fun i _=>n<=i⟩
theorem cG{P:Program}{w:World}{K:W.Frag}{tg:Expr}(a it:Addr):Vq P w K tg (nJ K a) [it] it (fun i h=>h.IsListIter it a i) where
 mem:=by simp
 obj:=fun i h st b hb=>by
  have e:b=it:=by simpa using hb
  subst e;obtain⟨o,e,c,d⟩:=st;exact⟨o,e,fun v z=>by rw[d]at z;cases z⟩
 keep:=fun i h h' st k=>st.at fun o e=>k it (by simp) o e
 item:=by
  intro X hP hw hK hc i Ab s σ H E I hf st hg;subst hP hw hK;obtain⟨xs,x,hq,hx⟩:=hg;obtain⟨its,rv,p,hz⟩:=I.list hq;obtain⟨u,hu,ru⟩:=rv.get hx;obtain⟨f0,f1,f2,f3,f4,f5⟩:=hf it (by simp);refine wpAny_pyNext_list_item st p.isList (x:=u) (by simpa using hu) fun h' st' sb=>?_;have I1:Bu X Ab σ H { s with heap:=h' }:=I.turned (t':=s.toks) (fun b o hb e=>(sb.2 b hb).trans e) f0 f1 f3 f4 f5;obtain⟨o,e,c,d⟩:=id st';exact⟨u,rfl,bQ (s:={ s with heap:=h' }) e c d (by decide) ⟨x,H,I1,ru,⟨rfl,fun ys hy=>by rw[I.list_inj hy hq];exact hx⟩,st',fun b hb=>(hf b hb).1⟩⟩
 done:=by
  intro X hP hw hK hc i Ab s σ H E I hf st hg;subst hP hw hK;obtain⟨xs,hq,hx⟩:=hg;obtain⟨its,rv,p,hz⟩:=I.list hq;obtain⟨f0,f1,f2,f3,f4,f5⟩:=hf it (by simp);have hl:=rv.length;exact wpAny_pyNext_list_end (I.ok.hd hc) st p.isList (by simp;omega) fun h' eb=>⟨rfl,I.turned (t':=s.toks) (fun b o hb e=>eb b o hb e) f0 f1 f3 f4 f5⟩
 self:=fun _ _ _ _ _ st h=>wpAny_pyIter_listiter st h
theorem t6{P:Program}{w:World}{K:W.Frag}{tg:Expr}(a it:Addr):Vq P w K tg (NI K a) [it] it (fun i h=>h.IsTupleIter it a i) where
 mem:=by simp
 obj:=fun i h st b hb=>by
  have e:b=it:=by simpa using hb
  subst e;obtain⟨o,e,c,d⟩:=st;exact⟨o,e,fun v z=>by rw[d]at z;cases z⟩
 keep:=fun i h h' st k=>st.at fun o e=>k it (by simp) o e
 item:=by
  intro X hP hw hK hc i Ab s σ H E I hf st hg;subst hP hw hK;obtain⟨xs,x,hq,hx⟩:=hg;obtain⟨its,rv,p,hz⟩:=I.tuple hq;obtain⟨u,hu,ru⟩:=rv.get hx;obtain⟨f0,f1,f2,f3,f4,f5⟩:=hf it (by simp);refine wpAny_pyNext_tuple_item st (show s.heap.IsTuple a its.toArray from p) (x:=u) (by simpa using hu) fun h' st' sb=>?_;have I1:Bu X Ab σ H { s with heap:=h' }:=I.turned (t':=s.toks) (fun b o hb e=>(sb.2 b hb).trans e) f0 f1 f3 f4 f5;obtain⟨o,e,c,d⟩:=id st';exact⟨u,rfl,bQ (s:={ s with heap:=h' }) e c d (by decide) ⟨x,H,I1,ru,⟨rfl,fun ys hy=>by rw[I.tuple_inj hy hq];exact hx⟩,st',fun b hb=>(hf b hb).1⟩⟩
 done:=by
  intro X hP hw hK hc i Ab s σ H E I hf st hg;subst hP hw hK;obtain⟨xs,hq,hx⟩:=hg;obtain⟨its,rv,p,hz⟩:=I.tuple hq;obtain⟨f0,f1,f2,f3,f4,f5⟩:=hf it (by simp);have hl:=rv.length;exact wpAny_pyNext_tuple_end (I.ok.hd hc) st (show s.heap.IsTuple a its.toArray from p) (by simp;omega) fun h' eb=>⟨rfl,I.turned (t':=s.toks) (fun b o hb e=>eb b o hb e) f0 f1 f3 f4 f5⟩
 self:=fun _ _ _ _ _ st h=>wpAny_pyIter_tupleiter st h
theorem t7{P:Program}{w:World}{K:W.Frag}{tg:Expr}(it:Addr)(lo:Int)(n:Nat):Vq P w K tg (kB lo n) [it] it (fun i h=>IsRangeIter h it (lo+(i:Nat)*1) ((n:Int)-(i:Nat)) 1) where
 mem:=by simp
 obj:=fun i h st b hb=>by
  have e:b=it:=by simpa using hb
  subst e
  exact⟨_,st,fun v z=>by
   have z':Data.fields _=Data.cell v:=z;cases z'⟩
 keep:=fun i h h' st k=>k it (by simp) _ st
 item:=by
  intro X hP hw hK hc i Ab s σ H E I hf st hg;subst hP hw hK;obtain⟨f0,f1,f2,f3,f4,f5⟩:=hf it (by simp);have W:=Walks.range (prog:=X.prog) (w:=X.w) (I.ok.hd hc) it lo 1 n;refine W.item i s _ _ hg st fun v h' tk hv st' kk=>?_;obtain⟨t,rfl⟩:=hv;have I1:Bu X Ab σ H { s with heap:=h',toks:=tk }:=I.turned (fun b o hb e=>kk b o (by simpa using hb) e) f0 f1 f3 f4 f5;refine⟨_,rfl,bQ (s:={ s with heap:=h',toks:=tk }) (n:="range_iterator") st' rfl rfl (by decide) ⟨.int (lo+i),H,I1,⟨t,?_⟩,⟨rfl,rfl⟩,st',fun b hb=>(hf b hb).1⟩⟩;rw[qq7]
 done:=by
  intro X hP hw hK hc i Ab s σ H E I hf st hg;subst hP hw hK;obtain⟨f0,f1,f2,f3,f4,f5⟩:=hf it (by simp);exact wpAny_pyNext_range_end (I.ok.hd hc) st (by have:n<=i:=hg;omega) fun h' eb=>⟨rfl,I.turned (t':=s.toks) (fun b o hb e=>eb b o hb e) f0 f1 f3 f4 f5⟩
 self:=fun _ _ _ _ _ st h=>wpAny_pyIter_rangeiter st h
section
variable{X:Cx}{tg:Expr}
noncomputable def KW(K:W.Frag)(tl:TE):TI:=fun σ H R=>tl σ H fun x H1=>∃a,x=.ref a/\(∃xs,SqL K H1 a xs)/\R (nJ K a) H1
noncomputable def pO(K:W.Frag)(tl:TE):TI:=fun σ H R=>tl σ H fun x H1=>∃a,x=.ref a/\(∃xs,Fe K H1 a xs)/\R (NI K a) H1
theorem IT{l:Expr}{tl:TE}(hl:PE X l tl):PI X tg l (KW X.K tl):=by
 intro Ab s σ H R I h;refine Ed (hl Ab s σ H _ I h) fun v s1 _z=>?_;obtain⟨x,H1,I1,r1,q1⟩:=_z;obtain⟨a,e,⟨xs,hq⟩,q⟩:=q1;subst e;cases r1;obtain⟨its,rv,p,hz⟩:=I1.list hq;refine qp0 p.isList ?_;refine⟨s1.heap.objs.size,[s1.heap.objs.size],_,_,H1,rfl,I1.kept (t':=s1.toks) fun b o e=>qa3 _ e,cG a _,⟨_,qb5 _ rfl,rfl,rfl⟩,fun b hb=>?_,q⟩;have e:b=s1.heap.objs.size:=by simpa using hb
 subst e;exact I1.fpOk (qa0 _) (I1.hok.fresh (qa0 _))
theorem LY{l:Expr}{tl:TE}(hl:PE X l tl):PI X tg l (pO X.K tl):=by
 intro Ab s σ H R I h;refine Ed (hl Ab s σ H _ I h) fun v s1 _z=>?_;obtain⟨x,H1,I1,r1,q1⟩:=_z;obtain⟨a,e,⟨xs,hq⟩,q⟩:=q1;subst e;cases r1;obtain⟨its,rv,p,hz⟩:=I1.tuple hq;refine wpAny_pyIter_tuple (show s1.heap.IsTuple a its.toArray from p) ?_;refine⟨s1.heap.objs.size,[s1.heap.objs.size],_,_,H1,rfl,I1.kept (t':=s1.toks) fun b o e=>qa3 _ e,t6 a _,⟨_,qb5 _ rfl,rfl,rfl⟩,fun b hb=>?_,q⟩;have e:b=s1.heap.objs.size:=by simpa using hb
 subst e;exact I1.fpOk (qa0 _) (I1.hok.fresh (qa0 _))
theorem Z3{Ab:LAObj}{σ:St}{H:Hp}{s:Shared}{R:It->Hp->Prop}{E:Value->Shared->Prop}{lo hi:Int}{t u v:Tok}{tk:Nat}(I:Bu X Ab σ H s)(h1:-(2 ^ 62)<=lo)(h2:lo<2 ^ 62)(h3:-(2 ^ 62)<=hi)(h4:hi<2 ^ 62)
 (q:R (kB lo (hi-lo).toNat) H):wpAny (model X.prog X.w) X.A (pyIter (.ref s.heap.objs.size)) (WB X Ab σ tg R) E { s with heap:=s.heap.push { cls:=.type "range",data:=.fields #[.int lo t,.int hi u,.int 1 v] },toks:=tk }:=by
 refine wpAny_pyIter_range (IsRange.new ..) (small_one h1 h2 h3 h4) ?_;have I1:Bu X Ab σ H { s with heap:=s.heap.push { cls:=.type "range",data:=.fields #[.int lo t,.int hi u,.int 1 v] },toks:=tk }:=I.kept fun b o e=>qa3 _ e
 refine⟨(s.heap.push { cls:=.type "range",data:=.fields #[.int lo t,.int hi u,.int 1 v] }).objs.size,[(s.heap.push { cls:=.type "range",data:=.fields #[.int lo t,.int hi u,.int 1 v] }).objs.size],_,_,H,rfl,
  I1.kept (t':=tk) fun b o e=>qa3 _ e,t7 _ lo (hi-lo).toNat,?_,fun b hb=>?_,q⟩
 . have e1:lo+((0:Nat):Int)*1=lo:=by simp
   have e2:(((hi-lo).toNat:Nat):Int)-((0:Nat):Int)=Builtin.Range.rangeSize lo hi 1:=by rw[rangeSize_one];split<;>omega
   show IsRangeIter _ _ (lo+((0:Nat):Int)*1) ((((hi-lo).toNat:Nat):Int)-((0:Nat):Int)) 1;rw[e1,e2];exact qb5 _ rfl
 . have e:b=(s.heap.push { cls:=.type "range",data:=.fields #[.int lo t,.int hi u,.int 1 v] }).objs.size:=by simpa using hb
   subst e;exact I1.fpOk (qa0 _) (I1.hok.fresh (qa0 _))
noncomputable def pQ(ta:TA):TI:=fun σ H R=>ta σ H fun vs H1=>∃j:Int,vs=[.int j]/\-(2 ^ 62)<=j/\j<2 ^ 62/\R (kB 0 j.toNat) H1
noncomputable def pP(ta:TA):TI:=fun σ H R=>ta σ H fun vs H1=>∃i j:Int,vs=[.int i,.int j]/\(-(2 ^ 62)<=i/\i<2 ^ 62/\-(2 ^ 62)<=j/\j<2 ^ 62)/\R (kB i (j-i).toNat) H1
theorem Dz{a:Expr}{ta:TA}{p pos:Pos}(hg:Gl X "range")(hm:X.mg "range"=none)(ha:PA X [a] ta)(hs:starEach [a] X.env=[(false,eval a X.env)]:=by rfl):PI X tg (.Call (.Name "range" p) [a] [] pos) (pQ ta):=by
 intro Ab s σ H R I h;refine Call_ (Kv I hg hm boot_range (qf1 (Ed (ha pos Ab s σ H _ I h) fun us s1 _z=>?_) hs rfl));obtain⟨vs,H1,I1,r1,q1⟩:=_z;obtain⟨j,e,q1,q2,q⟩:=q1;subst e;cases r1 with
 | cons r rr =>
   cases rr;obtain⟨t,rfl⟩:=r;exact call_range_1 (Z3 I1 O9m O9m q1 q2 (by simpa using q))
theorem Wa{a b:Expr}{ta:TA}{p pos:Pos}(hg:Gl X "range")(hm:X.mg "range"=none)(ha:PA X [a,b] ta)(hs:starEach [a,b] X.env=[(false,eval a X.env),(false,eval b X.env)]:=by rfl)(hs2:starEach [b] X.env=[(false,eval b X.env)]:=by rfl) :
 PI X tg (.Call (.Name "range" p) [a,b] [] pos) (pP ta):=by
 intro Ab s σ H R I h;refine Call_ (Kv I hg hm boot_range (qf1 (Ed (ha pos Ab s σ H _ I h) fun us s1 ⟨vs,H1,I1,r1,q1⟩=>?_) (by rw[hs,hs2]) (by rw[hs2];rfl)));obtain⟨i,j,e,⟨q1,q2,q3,q4⟩,q⟩:=q1;subst e;cases r1 with
 | cons r rr =>
   cases rr with
   | cons r' rr =>
     cases rr;obtain⟨t,rfl⟩:=r;obtain⟨t',rfl⟩:=r';exact call_range_2 (Z3 I1 q1 q2 q3 q4 q)
noncomputable def rX(wi:TI)(g:TG)(tb:TS):TS:=fun D σ H=>wi σ H fun J H1=>∃W:Nat->Nat->St->Hp->Prop,(∃m,W 0 m σ H1)/\∀i m σ H,W i m σ H →
 (J.stop i H/\D.nx σ H)\/(J.go i H/\∃N:St->Hp->Prop,(∀σ' H',N σ' H'->∃m',m'<m/\W (i+1) m' σ' H')/\∀x H',J.yld i H x H'->g x σ H' fun σ2 H2=>tb { D with nx:=N,ct:=N,bk:=D.nx } σ2 H2)
noncomputable def Tf(fp:List Addr)(h:Heap):LAObj:=fp.filterMap fun b=>(h.get? b).map fun o=>(b,o)
theorem Ku{fp:List Addr}{h:Heap}{b:Addr}{o:Obj}(hb:b∈fp)(e:h.get? b=some o):(b,o)∈Tf fp h:=qr0.mpr ⟨b,hb,by rw[e];rfl⟩
theorem dD{fp:List Addr}{h:Heap}{p:Addr × Obj}(hp:p∈Tf fp h):p.1∈fp/\h.get? p.1=some p.2:=by
 obtain⟨b,hb,e⟩:=qr0.mp hp;cases q:h.get? b with
 | none=>rw[q]at e;cases e
 | some o =>
   rw[q]at e;have e':(b,o)=p:=qd7 e;subst e';exact⟨hb,q⟩
theorem Bu.pinned{Ab:LAObj}{σ:St}{H:Hp}{s:Shared}{fp:List Addr}(I:Bu X Ab σ H s)(hf:∀b∈fp,M7 X Ab H b)(ho:∀b∈fp,∃o,s.heap.get? b=some o/\∀v,o.data≠.cell v):Bu X (Ab++Tf fp s.heap) σ H s :=
 I.pins_of fun p hp=>(qp4.mp hp).elim (fun z=>I.pin p (qd8 _ z)) fun z=>by
  obtain⟨hb,e⟩:=dD z;obtain⟨f0,f1,f2,_⟩:=hf p.1 hb;obtain⟨o,e',d⟩:=ho p.1 hb;rw[e]at e';cases e';exact⟨e,f0,f1,f2,d⟩
theorem Bu.unpinned{Ab pl:LAObj}{σ:St}{H:Hp}{s:Shared}(I:Bu X (Ab++pl) σ H s):Bu X Ab σ H s:=I.pins_of fun p hp=>I.pin p (qd8 _ (qp9 _ hp))
theorem F3{iter:Expr}{body:List Stmt}{wi:TI}{g:TG}{tb:TS}{pos:Pos}(hp:PassesOwn (model X.prog X.w) X.A X.env X.xe)(hc:X.calm=true)(hi:PI X tg iter wi)(hg:PG X tg g)(hb:Zg X body tb)
 (hs:∀x,foldedSetIterable iter X.env x=pure x:=by intro _;rfl):PS X (.For tg iter body [] pos) (rX wi g tb):=by
 intro Ab s σ H D I h;refine wpAny_For (Ed (hi Ab s σ H _ I h) fun v s1 h1=>Ed h1 fun itv s2 h2=>?_) hs;obtain⟨it,fp,tn,J,H2,e,I2,T,st2,f2,W,⟨m0,w0⟩,turn⟩:=h2;subst e;have t8:∀{H':Hp},(∀b∈fp,H' b=none)->∀b∈fp,M7 X Ab H' b:=fun hn b hb=>⟨hn b hb,(f2 b hb).2⟩
 refine codeAny_forLoop_any (fun n s'=>∃i σ' H',Bu X Ab σ' H' s'/\tn i s'.heap/\(∀b∈fp,H' b=none)/\W i n σ' H') ?_ m0 ⟨0,σ,H2,I2,st2,fun b hb=>(f2 b hb).1,w0⟩;rintro n s3 ⟨i,σ3,H3,I3,st3,HU,w3⟩;rcases turn i n σ3 H3 w3 with⟨stop,qn⟩|⟨go,N,hN,step⟩
 . refine qj6 hp (Ed (T.done X rfl rfl rfl hc i Ab s3 σ3 H3 X.xe I3 (t8 HU) st3 stop) fun r s4 _z=>?_);obtain⟨hr,I4⟩:=_z;subst hr;exact qn2 ⟨σ3,H3,I4,qn⟩
 . refine qj6 hp (Ed (T.item X rfl rfl rfl hc i Ab s3 σ3 H3 X.xe I3 (t8 HU) st3 go) fun r s4 _z=>?_);obtain⟨u,hr,h4⟩:=_z;subst hr;refine qj6 hp (Ed h4 fun _ s5 _z=>?_);obtain⟨x,H5,I5,r5,y5,LU,mX⟩:=_z;have UM:=I5.pinned (t8 mX) (T.obj _ _ LU);refine qj6 hp (Ed (hg _ s5 σ3 H5 x u _ UM r5 (step x H5 y5)) fun _ s6 _z=>?_);obtain⟨σ6,H6,I6,q6⟩:=_z;refine qj6 hp (Ed (hb _ s6 σ6 H6 _ I6 q6) fun f s7 q7=>?_)
   have again:∀{σ7:St}{H7:Hp},Bu X (Ab++Tf fp s5.heap) σ7 H7 s7->N σ7 H7->∃m,m<n/\∃i σ' H',Bu X Ab σ' H' s7/\tn i s7.heap/\(∀b∈fp,H' b=none)/\W i m σ' H':=fun {σ7 H7} I7 n7=>by
    obtain⟨m',hm,w7⟩:=hN σ7 H7 n7;refine⟨m',hm,i+1,σ7,H7,I7.unpinned,T.keep _ _ _ LU fun b hb o e=>(I7.pin (b,o) (qd8 _ (qd8 _ (Ku hb e)))).1,fun b hb=>?_,w7⟩;obtain⟨o,e,d⟩:=T.obj _ _ LU b hb;exact(I7.pin (b,o) (qd8 _ (qd8 _ (Ku hb e)))).2.1
   cases f with
   | next=>obtain⟨σ7,H7,I7,n7⟩:=q7;exact again I7 n7
   | cont=>obtain⟨σ7,H7,I7,n7⟩:=q7;exact again I7 n7
   | brk=>obtain⟨σ7,H7,I7,q7⟩:=q7;exact⟨σ7,H7,I7.unpinned,q7⟩
   | ret v=>obtain⟨x7,σ7,H7,I7,r7,q7⟩:=q7;exact⟨x7,σ7,H7,I7.unpinned,r7,q7⟩
end
theorem for_list{K:W.Frag}{a:Addr}{xs:List V}{g:TG}{tb:TS}{D:Ends}{σ:St}{H:Hp}(Pv:Nat->St->Hp->Prop)(h0:Pv 0 σ H)(hl:∀i σ H,i<=xs.length->Pv i σ H->SqL K H a xs)
 (hs:∀i x σ H,xs[i]?=some x->Pv i σ H->g x σ H fun σ2 H2=>tb { D with nx:=Pv (i+1),ct:=Pv (i+1),bk:=D.nx } σ2 H2) (hd:∀σ H,Pv xs.length σ H->D.nx σ H) :
 ∃W:Nat->Nat->St->Hp->Prop,(∃m,W 0 m σ H)/\∀i m σ H,W i m σ H →
   ((nJ K a).stop i H/\D.nx σ H)\/((nJ K a).go i H/\∃N:St->Hp->Prop,(∀σ' H',N σ' H'->∃m',m'<m/\W (i+1) m' σ' H')/\∀x H',(nJ K a).yld i H x H'->g x σ H' fun σ2 H2=>tb { D with nx:=N,ct:=N,bk:=D.nx } σ2 H2):=by
 refine⟨fun i m σ H=>m=xs.length-i/\i<=xs.length/\Pv i σ H,⟨xs.length,by simp,qa8 _,h0⟩,?_⟩;rintro i m σ H ⟨rfl,hi,p⟩;have q:=hl i σ H hi p;by_cases hlt:i<xs.length
 . refine .inr ⟨⟨xs,xs[i],q,by simp[hlt]⟩,Pv (i+1),fun σ' H' p'=>⟨xs.length-(i+1),O9m,rfl,hlt,p'⟩,fun x H' y=>?_⟩;obtain⟨e,y⟩:=y;subst e;exact hs i x σ _ (y xs q) p
 . have e:i=xs.length:=O9m
   subst e;exact .inl ⟨⟨xs,q,qa0 _⟩,hd σ H p⟩
theorem JQ{K:W.Frag}{a:Addr}{xs:List V}{g:TG}{tb:TS}{D:Ends}{σ:St}{H:Hp}(Pv:Nat->St->Hp->Prop)(h0:Pv 0 σ H)(hl:∀i σ H,i<=xs.length->Pv i σ H->Fe K H a xs)
 (hs:∀i x σ H,xs[i]?=some x->Pv i σ H->g x σ H fun σ2 H2=>tb { D with nx:=Pv (i+1),ct:=Pv (i+1),bk:=D.nx } σ2 H2) (hd:∀σ H,Pv xs.length σ H->D.nx σ H) :
 ∃W:Nat->Nat->St->Hp->Prop,(∃m,W 0 m σ H)/\∀i m σ H,W i m σ H →
   ((NI K a).stop i H/\D.nx σ H)\/((NI K a).go i H/\∃N:St->Hp->Prop,(∀σ' H',N σ' H'->∃m',m'<m/\W (i+1) m' σ' H')/\∀x H',(NI K a).yld i H x H'->g x σ H' fun σ2 H2=>tb { D with nx:=N,ct:=N,bk:=D.nx } σ2 H2):=by
 refine⟨fun i m σ H=>m=xs.length-i/\i<=xs.length/\Pv i σ H,⟨xs.length,by simp,qa8 _,h0⟩,?_⟩;rintro i m σ H ⟨rfl,hi,p⟩;have q:=hl i σ H hi p;by_cases hlt:i<xs.length
 . refine .inr ⟨⟨xs,xs[i],q,by simp[hlt]⟩,Pv (i+1),fun σ' H' p'=>⟨xs.length-(i+1),O9m,rfl,hlt,p'⟩,fun x H' y=>?_⟩;obtain⟨e,y⟩:=y;subst e;exact hs i x σ _ (y xs q) p
 . have e:i=xs.length:=O9m
   subst e;exact .inl ⟨⟨xs,q,qa0 _⟩,hd σ H p⟩
theorem Ft{lo:Int}{n:Nat}{g:TG}{tb:TS}{D:Ends}{σ:St}{H:Hp}(Pv:Nat->St->Hp->Prop)(h0:Pv 0 σ H)
 (hs:∀i σ H,i<n->Pv i σ H->g (.int (lo+i)) σ H fun σ2 H2=>tb { D with nx:=Pv (i+1),ct:=Pv (i+1),bk:=D.nx } σ2 H2) (hd:∀σ H,Pv n σ H->D.nx σ H) :
 ∃W:Nat->Nat->St->Hp->Prop,(∃m,W 0 m σ H)/\∀i m σ H,W i m σ H →
   ((kB lo n).stop i H/\D.nx σ H)\/((kB lo n).go i H/\∃N:St->Hp->Prop,(∀σ' H',N σ' H'->∃m',m'<m/\W (i+1) m' σ' H')/\∀x H',(kB lo n).yld i H x H'->g x σ H' fun σ2 H2=>tb { D with nx:=N,ct:=N,bk:=D.nx } σ2 H2):=by
 refine⟨fun i m σ H=>m=n-i/\i<=n/\Pv i σ H,⟨n,by simp,qa8 _,h0⟩,?_⟩;rintro i m σ H ⟨rfl,hi,p⟩;by_cases hlt:i<n
 . refine .inr ⟨hlt,Pv (i+1),fun σ' H' p'=>⟨n-(i+1),O9m,rfl,hlt,p'⟩,fun x H' y=>?_⟩;obtain⟨e,y⟩:=y;subst e y;exact hs i σ _ hlt p
 . have e:i=n:=O9m
   subst e;exact .inl ⟨qa0 _,hd σ H p⟩
noncomputable abbrev R2:=V->V->Hp->VK->Prop
noncomputable def Pr(X:Cx)(f:Value->Value->Sem Value)(r:R2):Prop :=
 ∀(Ab:LAObj) (s:Shared) (σ:St) (H:Hp) (x y:V) (v u:Value) (Q:VK),Bu X Ab σ H s->RelV x v->RelV y u->r x y H Q →
   wpAny (model X.prog X.w) X.A (f v u) (EP X Ab σ Q) X.xe s
noncomputable def uJ(X:Cx)(f:Value->Sem Value)(r:V->Hp->VK->Prop):Prop :=
 ∀(Ab:LAObj) (s:Shared) (σ:St) (H:Hp) (x:V) (v:Value) (Q:VK),Bu X Ab σ H s->RelV x v->r x H Q →
   wpAny (model X.prog X.w) X.A (f v) (EP X Ab σ Q) X.xe s
noncomputable def E7(X:Cx)(f:Value)(r:List V->Hp->VK->Prop):Prop :=
 ∀(Ab:LAObj) (s:Shared) (σ:St) (H:Hp) (xs:List V) (us:List Value) (Q:VK),Bu X Ab σ H s->Cg xs us->r xs H Q →
   wpAny (model X.prog X.w) X.A (call f us) (EP X Ab σ Q) X.xe s
noncomputable def lQ(r:R2)(ta tb:TE):TE:=fun σ H Q=>ta σ H fun x H1=>tb σ H1 fun y H2=>r x y H2 Q
noncomputable def wK(r:V->Hp->VK->Prop)(ta:TE):TE:=fun σ H Q=>ta σ H fun x H1=>r x H1 Q
noncomputable def rI(C:Int->Int->Prop)(g:Int->Int->V):R2:=fun x y H Q=>∃i j,x=.int i/\y=.int j/\C i j/\Q (g i j) H
noncomputable def lW(g:Int->Int->V):R2:=fun x y H Q=>∃i j,x=.int i/\y=.int j/\Q (g i j) H
noncomputable def rU(g:Int->V):V->Hp->VK->Prop:=fun x H Q=>∃i,x=.int i/\Q (g i) H
section
variable{X:Cx}{a b c:Expr}{ta tb tc:TE}{pos:Pos}
theorem ND(ha:PE X a ta)(hb:PE X b tb){Ab:LAObj}{s:Shared}{σ:St}{H:Hp}{R:V->V->Hp->Prop}(I:Bu X Ab σ H s)
 (h:ta σ H fun x H1=>tb σ H1 fun y H2=>R x y H2) {Q:Value->Shared->Prop}{f:Value->Value->Sem Value}
 (hf:∀v u s2 x y H2,Bu X Ab σ H2 s2->RelV x v->RelV y u->R x y H2->wpAny (model X.prog X.w) X.A (f v u) Q X.xe s2) :
 wpAny (model X.prog X.w) X.A (eval a X.env) (fun v s₁=>wpAny (model X.prog X.w) X.A (eval b X.env) (fun u s₂=>wpAny (model X.prog X.w) X.A (f v u) Q X.xe s₂) X.xe s₁) X.xe s:=by
 refine Ed (ha Ab s σ H _ I h) fun v s1 _z=>?_;obtain⟨x,H1,I1,r1,q1⟩:=_z;refine Ed (hb Ab s1 σ H1 _ I1 q1) fun u s2 _z=>?_;obtain⟨y,H2,I2,r2,q2⟩:=_z;exact hf v u s2 x y H2 I2 r1 r2 q2
theorem Bn{op:Operator}{r:R2}(ho:Pr X (binaryOp op) r)(ha:PE X a ta)(hb:PE X b tb):PE X (.BinOp a op b pos) (lQ r ta tb):=by
 intro Ab s σ H Q I h;exact wpAny_BinOp (ND ha hb I h fun v u s2 x y H2 I2 rx ry q=>ho Ab s2 σ H2 x y v u Q I2 rx ry q)
theorem Lw{op:UnaryOp}{r:V->Hp->VK->Prop}(ho:uJ X (unaryOp op) r)(ha:PE X a ta):PE X (.UnaryOp op a pos) (wK r ta):=by
 intro Ab s σ H Q I h;exact UnaryOp_ (Ed (ha Ab s σ H _ I h) fun v s1 ⟨x,H1,I1,r1,q1⟩=>ho Ab s1 σ H1 x v Q I1 r1 q1)
theorem OX{f:Value->Value->Sem Value}{C:Int->Int->Prop}{g:Int->Int->Int}
 (rule:∀(i j:Int) (t u:Tok) (s:Shared) (Q:Value->Shared->Prop) (E:Value->Shared->Prop),C i j->Q (.int (g i j) s.toks) { s with toks:=s.toks+1 }->wpAny (model X.prog X.w) X.A (f (.int i t) (.int j u)) Q E s) :
 Pr X f (rI C fun i j=>.int (g i j)):=by
 intro Ab s σ H x y v u Q I rx ry h;obtain⟨i,j,rfl,rfl,hc,q⟩:=h;obtain⟨t,rfl⟩:=rx;obtain⟨t',rfl⟩:=ry;exact rule i j t t' s _ _ hc ⟨.int (g i j),H,I.tok _,⟨_,rfl⟩,q⟩
theorem oX{f:Value->Value->Sem Value}{g:Int->Int->Int}
 (rule:∀(i j:Int) (t u:Tok) (s:Shared) (Q:Value->Shared->Prop) (E:Value->Shared->Prop),Q (.int (g i j) s.toks) { s with toks:=s.toks+1 }->wpAny (model X.prog X.w) X.A (f (.int i t) (.int j u)) Q E s) :
 Pr X f (lW fun i j=>.int (g i j)):=by
 intro Ab s σ H x y v u Q I rx ry h;obtain⟨i,j,rfl,rfl,q⟩:=h;obtain⟨t,rfl⟩:=rx;obtain⟨t',rfl⟩:=ry;exact rule i j t t' s _ _ ⟨.int (g i j),H,I.tok _,⟨_,rfl⟩,q⟩
theorem MD{f:Value->Value->Sem Value}{g:Int->Int->Bool}
 (rule:∀(i j:Int) (t u:Tok) (s:Shared) (Q:Value->Shared->Prop) (E:Value->Shared->Prop),Q (.bool (g i j)) s->wpAny (model X.prog X.w) X.A (f (.int i t) (.int j u)) Q E s) :
 Pr X f (lW fun i j=>.bl (g i j)):=by
 intro Ab s σ H x y v u Q I rx ry h;obtain⟨i,j,rfl,rfl,q⟩:=h;obtain⟨t,rfl⟩:=rx;obtain⟨t',rfl⟩:=ry;exact rule i j t t' s _ _ ⟨.bl (g i j),H,I,rfl,q⟩
noncomputable def uP(i j:Int):Prop:=0<j/\j<1073741824
noncomputable def UO(i j:Int):Prop:=0<=j/\j<=1000000/\i.natAbs<2 ^ 64
noncomputable def KC(i j:Int):Prop:=(-(2 ^ 64)<i/\i<2 ^ 64)\/(-(2 ^ 64)<j/\j<2 ^ 64)
theorem KC.ok{i j:Int}(h:KC i j):IntMulOk i j:=by
 rcases h with⟨h1,h2⟩|⟨h1,h2⟩
 . exact .of_left (intBits_le_64 h1 h2)
 . exact .of_right (intBits_le_64 h1 h2)
theorem D6:Pr X (binaryOp .Add) (lW fun i j=>.int (i+j)):=oX fun _ _ _ _ _ _ _ q=>add_int q
theorem Kr:Pr X (binaryOp .Sub) (lW fun i j=>.int (i-j)):=oX fun _ _ _ _ _ _ _ q=>sub_int q
theorem Ks:Pr X (binaryOp .FloorDiv) (rI uP fun i j=>.int (i / j)):=OX fun i j _ _ _ _ _ hc q=>by
 have h1:(0:Int)<j:=hc.1;have h2:j<1073741824:=hc.2;exact floordiv_int O9m (by rw[qd6 i (by omega)];exact q) (.inl (PyProof.noPylong_small O9m))
theorem Cu:Pr X (binaryOp .Mod) (rI (fun _ j=>0<j) fun i j=>.int (i%j)):=OX fun i j _ _ _ _ _ hc q=>by
 have h1:(0:Int)<j:=hc;exact mod_int' O9m (by rw[Int.fmod_eq_emod_of_nonneg i (by omega)];exact q)
theorem w6:Pr X (binaryOp .Pow) (rI UO fun i j=>.int (i ^ j.toNat)):=OX fun _ _ _ _ _ _ _ hc q=>pow_int_small hc.1 hc.2.1 hc.2.2 q
theorem WI{f:Value->Sem Value}{g:Int->Int}
 (rule:∀(i:Int) (t:Tok) (s:Shared) (Q:Value->Shared->Prop) (E:Value->Shared->Prop),Q (.int (g i) s.toks) { s with toks:=s.toks+1 }->wpAny (model X.prog X.w) X.A (f (.int i t)) Q E s) :
 uJ X f (rU fun i=>.int (g i)):=by
 intro Ab s σ H x v Q I rx h;obtain⟨i,rfl,q⟩:=h;obtain⟨t,rfl⟩:=rx;exact rule i t s _ _ ⟨.int (g i),H,I.tok _,⟨_,rfl⟩,q⟩
theorem Hw:uJ X (unaryOp .USub) (rU fun i=>.int (-i)):=WI fun _ _ _ _ _ q=>neg_int q
end
noncomputable def scal:V->V->Bool
 | .non,.non=>true | .non,.int _=>true | .int _,.non=>true | .non,.bl _=>true | .bl _,.non=>true | .non,.str _=>true | .str _,.non=>true
 | .int _,.int _=>true | .bl _,.bl _=>true | .str _,.str _=>true | .byt _,.byt _=>true
 | .int _,.str _=>true | .str _,.int _=>true | .bl _,.str _=>true | .str _,.bl _=>true
 | _,_=>false
noncomputable def wU:R2:=fun x y H Q=>scal x y=true/\Q (.bl (decide (x=y))) H
noncomputable def WT:R2:=fun x y H Q=>scal x y=true/\Q (.bl (!decide (x=y))) H
theorem bV{i j:Int}:decide (V.int i=V.int j)=(i==j):=by
 rw[ql1];simp
theorem GS{i j:Bool}:decide (V.bl i=V.bl j)=(i==j):=by
 rw[ql1];simp
theorem BU{i j:Str}:decide (V.str i=V.str j)=(i==j):=by
 rw[ql1];simp
theorem BV{i j:Array UInt8}:decide (V.byt i=V.byt j)=(i.toList==j.toList):=by
 rw[ql1];cases i;cases j;simp
section
variable{X:Cx}{a b c:Expr}{ta tb tc:TE}{pos:Pos}
theorem Cq{Ab:LAObj}{σ:St}{H:Hp}{s:Shared}{Q:VK}{k k':Bool}(I:Bu X Ab σ H s)(q:Q (.bl k) H)(e:k=k'):EP X Ab σ Q (.bool k') s:=by
 subst e;exact⟨.bl k,H,I,rfl,q⟩
theorem C6:Pr X (compareOp .Eq) wU:=by
 intro Ab s σ H x y v u Q I rx ry h;obtain⟨hs,q⟩:=h;cases x with
 | non =>
   cases rx;cases y with
   | non=>cases ry;exact PySem.EqNone.eq_none_none (Cq I q (by simp))
   | bl j=>cases ry;exact PySem.EqNone.eq_none_bool (Cq I q (by simp))
   | int j=>obtain⟨t',rfl⟩:=ry;exact PySem.EqNone.eq_none_int (Cq I q (by simp))
   | str j=>obtain⟨t',rfl⟩:=ry;exact PySem.EqNone.eq_none_str (Cq I q (by simp))
   | _=>exact absurd (show false=true from hs) qb6
 | bl i =>
   cases rx;cases y with
   | non=>cases ry;exact PySem.EqNone.eq_bool_none (Cq I q (by simp))
   | bl j=>cases ry;exact eq_bool (Cq I q GS)
   | str j=>obtain⟨t',rfl⟩:=ry;exact PySem.EqMixed.eq_bool_str (Cq I q (by simp))
   | _=>exact absurd (show false=true from hs) qb6
 | int i =>
   obtain⟨t,rfl⟩:=rx;cases y with
   | non=>cases ry;exact PySem.EqNone.eq_int_none (Cq I q (by simp))
   | int j=>obtain⟨t',rfl⟩:=ry;exact eq_int (Cq I q bV)
   | str j=>obtain⟨t',rfl⟩:=ry;exact PySem.EqMixed.eq_int_str (Cq I q (by simp))
   | _=>exact absurd (show false=true from hs) qb6
 | str i =>
   obtain⟨t,rfl⟩:=rx;cases y with
   | non=>cases ry;exact PySem.EqNone.eq_str_none (Cq I q (by simp))
   | bl j=>cases ry;exact PySem.EqMixed.eq_str_bool (Cq I q (by simp))
   | int j=>obtain⟨t',rfl⟩:=ry;exact PySem.EqMixed.eq_str_int (Cq I q (by simp))
   | str j=>obtain⟨t',rfl⟩:=ry;exact eq_str (Cq I q BU)
   | _=>exact absurd (show false=true from hs) qb6
 | byt i =>
   obtain⟨t,rfl⟩:=rx;cases y with
   | byt j=>obtain⟨t',rfl⟩:=ry;exact PySem.W.eq_bytes (Cq I q BV)
   | _=>exact absurd (show false=true from hs) qb6
 | _=>cases y<;>exact absurd (show false=true from hs) qb6
theorem Q9:Pr X (compareOp .NotEq) WT:=by
 intro Ab s σ H x y v u Q I rx ry h;obtain⟨hs,q⟩:=h;cases x with
 | non =>
   cases rx;cases y with
   | non=>cases ry;exact PySem.EqNone.ne_none_none (Cq I q (by simp))
   | bl j=>cases ry;exact PySem.EqNone.ne_none_bool (Cq I q (by simp))
   | int j=>obtain⟨t',rfl⟩:=ry;exact PySem.EqNone.ne_none_int (Cq I q (by simp))
   | str j=>obtain⟨t',rfl⟩:=ry;exact PySem.EqNone.ne_none_str (Cq I q (by simp))
   | _=>exact absurd (show false=true from hs) qb6
 | bl i =>
   cases rx;cases y with
   | non=>cases ry;exact PySem.EqNone.ne_bool_none (Cq I q (by simp))
   | bl j=>cases ry;exact ne_bool (Cq I q (congrArg not GS))
   | str j=>obtain⟨t',rfl⟩:=ry;exact PySem.EqMixed.ne_bool_str (Cq I q (by simp))
   | _=>exact absurd (show false=true from hs) qb6
 | int i =>
   obtain⟨t,rfl⟩:=rx;cases y with
   | non=>cases ry;exact PySem.EqNone.ne_int_none (Cq I q (by simp))
   | int j=>obtain⟨t',rfl⟩:=ry;exact ne_int (Cq I q (congrArg not bV))
   | str j=>obtain⟨t',rfl⟩:=ry;exact PySem.EqMixed.ne_int_str (Cq I q (by simp))
   | _=>exact absurd (show false=true from hs) qb6
 | str i =>
   obtain⟨t,rfl⟩:=rx;cases y with
   | non=>cases ry;exact PySem.EqNone.ne_str_none (Cq I q (by simp))
   | bl j=>cases ry;exact PySem.EqMixed.ne_str_bool (Cq I q (by simp))
   | int j=>obtain⟨t',rfl⟩:=ry;exact PySem.EqMixed.ne_str_int (Cq I q (by simp))
   | str j=>obtain⟨t',rfl⟩:=ry;exact ne_str (Cq I q (congrArg not BU))
   | _=>exact absurd (show false=true from hs) qb6
 | byt i =>
   obtain⟨t,rfl⟩:=rx;cases y with
   | byt j=>obtain⟨t',rfl⟩:=ry;exact PySem.W.ne_bytes (Cq I q (congrArg not BV))
   | _=>exact absurd (show false=true from hs) qb6
 | _=>cases y<;>exact absurd (show false=true from hs) qb6
theorem Tk:Pr X (compareOp .Lt) (lW fun i j=>.bl (decide (i<j))):=MD fun _ _ _ _ _ _ _ q=>lt_int q
theorem OW:Pr X (compareOp .LtE) (lW fun i j=>.bl (decide (i<=j))):=MD fun _ _ _ _ _ _ _ q=>le_int q
theorem FQ:Pr X (compareOp .Gt) (lW fun i j=>.bl (decide (j<i))):=MD fun _ _ _ _ _ _ _ q=>gt_int q
theorem fQ:Pr X (compareOp .Is) (fun x y H Q=>y=.non/\Q (.bl (decide (x=.non))) H):=by
 intro Ab s σ H x y v u Q I rx ry h;obtain⟨rfl,q⟩:=h;cases ry;refine is_none_gen (Cq I q ?_)
 cases x<;>first
  | (cases rx;rfl)
  | (obtain⟨t,rfl⟩:=rx;rfl)
theorem JA:Pr X (compareOp .IsNot) (fun x y H Q=>y=.non/\Q (.bl (!decide (x=.non))) H):=by
 intro Ab s σ H x y v u Q I rx ry h;obtain⟨rfl,q⟩:=h;cases ry;refine isnot_none_gen (Cq I q ?_)
 cases x<;>first
  | (cases rx;rfl)
  | (obtain⟨t,rfl⟩:=rx;rfl)
theorem Bx(b:Expr){op:CmpOp}(h:op≠.In:=by decide)(h2:op≠.NotIn:=by decide):behindInMarks op b=false:=by
 have e1:(op==CmpOp.In)=false:=by cases op<;>first | rfl | exact absurd rfl h
 have e2:(op==CmpOp.NotIn)=false:=by cases op<;>first | rfl | exact absurd rfl h2
 cases b<;>simp[behindInMarks,e1,e2]
theorem Iy{op:CmpOp}{r:R2}(ho:Pr X (compareOp op) r)(ha:PE X a ta)(hb:PE X b tb)(hm:behindInMarks op b=false):PE X (.Compare a [op] [b] pos) (lQ r ta tb):=by
 intro Ab s σ H Q I h;exact wpAny_Compare1 (ND ha hb I h fun v u s2 x y H2 I2 rx ry q=>ho Ab s2 σ H2 x y v u Q I2 rx ry q) hm
noncomputable def OH(t:TE):TT:=fun σ H Q=>t σ H fun x H'=>∃k,x=.bl k/\Q k H'
theorem Bt{op:CmpOp}{r:R2}(ho:Pr X (compareOp op) r)(ha:PE X a ta)(hb:PE X b tb)(hm:behindInMarks op b=false):PT X (.Compare a [op] [b] pos) (OH (lQ r ta tb)):=by
 intro Ab s σ H Q I h
 refine wpAny_isTrue_Compare1 (Ed (ha Ab s σ H _ I h) fun v s1 ⟨x,H1,I1,r1,q1⟩=>Ed (hb Ab s1 σ H1 _ I1 q1) fun u s2 ⟨y,H2,I2,r2,q2⟩ =>
  Ed (ho Ab s2 σ H2 x y v u _ I2 r1 r2 q2) fun c s3 ⟨z,H3,I3,r3,k,e,q3⟩=>?_) hm
 subst e;cases r3;exact qi8 ⟨H3,I3,q3⟩
theorem X3:(sizeLine:Nat)<2 ^ 63:=by rw[sizeLine_eq];decide
theorem Tl:Pr X (binaryOp .Add) (fun x y H Q=>∃i j,x=.str i/\y=.str j/\i.length+j.length<=sizeLine/\Q (.str (i++j)) H):=by
 intro Ab s σ H x y v u Q I rx ry h;obtain⟨i,j,rfl,rfl,hz,q⟩:=h;obtain⟨t,rfl⟩:=rx;obtain⟨t',rfl⟩:=ry;exact add_str (fun t' tk=>⟨.str (i++j),H,I.tok _,⟨_,rfl⟩,q⟩) hz
theorem Om{x:V}{us:List Value}(r:Cg [x] us):∃u,us=[u]/\RelV x u:=by
 cases r with
 | cons r1 r2=>cases r2;exact⟨_,rfl,r1⟩
theorem Vv{x y:V}{us:List Value}(r:Cg [x,y] us):∃u w',us=[u,w']/\RelV x u/\RelV y w':=by
 cases r with
 | cons r1 r2 =>
   cases r2 with
   | cons r3 r4=>cases r4;exact⟨_,_,rfl,r1,r3⟩
theorem eF(hc:X.calm=true):E7 X (.builtin "min") (fun xs H Q=>∃i j,xs=[.int i,.int j]/\Q (.int (if j<i then j else i)) H):=by
 intro Ab s σ H xs us Q I r h;obtain⟨i,j,rfl,q⟩:=h;obtain⟨u,w',rfl,⟨t,rfl⟩,⟨t',rfl⟩⟩:=Vv r;refine min_two_ints (I.ok.hd hc) fun h' tk k=>⟨_,H,I.kept k,?_,q⟩
 by_cases hj:j<i
 . rw[if_pos hj,if_pos hj];exact⟨_,rfl⟩
 . rw[if_neg hj,if_neg hj];exact⟨_,rfl⟩
theorem Qu:E7 X (.type "int") (fun xs H Q=>(∃i,xs=[.int i]/\Q (.int i) H)\/∃k,xs=[.bl k]/\Q (.int (if k then 1 else 0)) H):=by
 intro Ab s σ H xs us Q I r h;rcases h with⟨i,rfl,q⟩|⟨k,rfl,q⟩
 . obtain⟨u,rfl,t,rfl⟩:=Om r;exact call_int_int ⟨.int i,H,I,⟨_,rfl⟩,q⟩
 . obtain⟨u,rfl,r1⟩:=Om r;cases r1;exact call_int_bool ⟨.int (if k then 1 else 0),H,I.tok _,⟨_,rfl⟩,q⟩
end
structure AX(h:Heap)(x dx C:Addr)(mA:Str->Option Value):Prop where
 obj:h.get? x=some (PySem.W.instObj C dx)
 ns:h.Ns1 dx mA
 ne:dx≠x
theorem dI{h:Heap}{dx:Addr}{mA:Str->Option Value}(n:h.Ns1 dx mA):∃od,h.get? dx=some od/\∀name,PySem.W.lookIn name od=some (mA name):=by
 obtain⟨o,es,ep,ho,hd,hk,_,hm⟩:=n;refine⟨o,ho,fun name=>?_⟩;have e:=hm name;unfold nsFind findBy at e;rw[←Array.find?_toList]at e;unfold PySem.W.lookIn;rw[hd];dsimp only;split
 . rename_i y q
   rw[q]at e;exact congrArg some e
 . rename_i q
   rw[q]at e
   have a:es.toList.any (·.refKey)=false:=by
    rw[List.any_eq_false];intro y hy;obtain⟨z,t,hkey⟩:=hk y (Array.mem_toList_iff.mp hy);simp[DictEntry.refKey,hkey]
   have a':¬es.toList.any (·.refKey)=true:=by rw[a];exact qb6
   rw[if_neg a'];exact congrArg some e
theorem AX.look{h:Heap}{x dx C:Addr}{mA:Str->Option Value}(I:AX h x dx C mA):∃od,PySem.W.InstAt h x (PySem.W.instObj C dx) C (some od)/\∀name,PySem.W.lookIn name od=some (mA name) :=
 let ⟨od,ho,hl⟩:=dI I.ns
 ⟨od,⟨I.obj,rfl,rfl,ho⟩,hl⟩
section
variable{prog:Program}{w:World}{A:Around}{E:Value->Shared->Prop}{s:Shared}{K:W.Frag}{x dx C f:Addr}{mA:Str->Option Value}{name:Str}{v:Value}
theorem JP{expr:Bool}{Q:Value->Shared->Prop}(X:K.In s.heap)(I:AX s.heap x dx C mA)(hg:PySem.W.plainGet K C name=true)(hh:PySem.W.hasDictIn K C=true)
 (ha:W.findIn K (.ref C) name=some none) (hv:mA name=some v) (hv':PySem.W.handedIn v=true) (h:Q v { s with toks:=s.toks+1 }) :
 wpAny (model prog w) A (getAttr (.ref x) name expr) Q E s:=by
 obtain⟨od,J,hl⟩:=I.look;exact PySem.W.get_value X J (qq3 hg).1 (PySem.W.findObj_own hh ha rfl (by rw[hl,hv])) hv' h
theorem gK{pl:Sem Bool}{Q:Value × List Value->Shared->Prop}(X:K.In s.heap)(I:AX s.heap x dx C mA)(hg:PySem.W.plainGet K C name=true)
 (hf:W.findIn K (.ref C) name=some (some (.ref f))) (ht:W.isFn K (.ref f)=true) (hv:mA name=none) (h:Q (.ref f,[.ref x]) s) :
 wpAny (model prog w) A (getMethod (.ref x) name pl) Q E s:=by
 obtain⟨od,J,hl⟩:=I.look;exact PySem.W.method_fn X J (qq3 hg).1 (qq3 hg).2 hf (qn3.mp ht) (by show(PySem.W.lookIn name od).map (·.isSome)=some false;rw[hl,hv];rfl) h
theorem iJ{ns:List Str}{Q:Unit->Shared->Prop}(X:K.In s.heap)(I:AX s.heap x dx C mA)
 (hs:W.findIn K (.ref C) "__setattr__"=some (some (.builtin "object.__setattr__"))) (hp:PySem.W.plainOver K C=true) (ht:PySem.W.takerIn K C name=some none) (hh:PySem.W.hasDictIn K C=true)
 (hw:PySem.Within mA ns) (hsz:ns.length<=sizeLine)
 (h:∀h',AX h' x dx C (fun y=>if y=name then some v else mA y)->Heap.SameBut dx s.heap h'->Q () { s with heap:=h',toks:=s.toks+2 }) :
 wpAny (model prog w) A (setAttr (.ref x) name v) Q E s:=by
 obtain⟨od,J,hl⟩:=I.look;refine PySem.W.set_plain X J hs (PySem.W.osa_open (s:={ s with toks:=s.toks+1 }) (r:=none) X J hp ht fun b=>?_);obtain⟨cd,hc,hd'⟩:=PySem.W.any_some hh;have hx:s.heap.get? x=some ⟨.ref C,some dx,.plain,#[]⟩:=I.obj;refine qa5 (qd3 (qa5 (qa5 (wpAny_loadPart hx (qa5 (PySem.W.Looks.here (s:={ s with toks:=s.toks+1 }) (PySem.W.looks_clsIn X hc) ?_))))));rw[hd'];refine qd3 (a:=some dx) (qa5 (qd3 (qa5 ?_)));refine wpAny_nsSet1 (s:={ s with toks:=s.toks+1 }) I.ns fun h' hn2 hs2=>?_;obtain⟨oD,esD,ZX,XR,xX,xY⟩:=hn2.count (PySem.Within.cons name v hw);refine qa5 (wpAny_lookBehind XR (by rw[xX];exact pastItsLine_dict (qa1 xY (by rw[qc6];omega))) ?_);exact qd3 (h _ ⟨(hs2.2 _ (Ne.symm I.ne)).trans I.obj,hn2,I.ne⟩ hs2)
theorem d6{R:Result->Shared->Prop}{vs:List Value}{kw:List (Str × Value)}(X:K.In s.heap)(hm:PySem.W.makesIn K C=true)
 (hi:W.findIn K (.ref C) "__init__"=some (some (.ref f))) (hf:PySem.W.typeIn K (.ref f)=some (.type "function"))
 (h:codeAny (model prog w) (A.under (.builtin "type.__call__" ⟨.ref C::vs,kw⟩)) (.call (.ref f) ⟨.ref (s.heap.objs.size+1)::vs,kw⟩) (PySem.W.InitBack (s.heap.objs.size+1) R)
   { s with heap:=(s.heap.push PySem.W.emptyDict).push (PySem.W.instObj C s.heap.objs.size) }) :
 codeAny (model prog w) A (.call (.ref C) ⟨vs,kw⟩) R s:=by
 obtain⟨hh,g,d,t,os⟩:=s;exact PySem.W.make_core (PySem.W.makes_of X hm) (PySem.W.looks_findIn X hi) (fun self=>PySem.W.bind_fn X self hf) (.inl rfl) h
end
noncomputable def putF(f:Str)(v:V):List (Str × V)->List (Str × V)
 | []=>[(f,v)]
 | (g,x)::r=>if g=f then(g,v)::r else(g,x)::putF f v r
theorem An(f g:Str)(v:V):∀fs:List (Str × V),(putF f v fs).lookup g=if g=f then some v else fs.lookup g
 | []=>by
   show List.lookup g [(f,v)]=_;by_cases h:g=f
   . have hb:(g==f)=true:=qn3.mpr h;simp only[List.lookup,hb,if_pos h]
   . have hb:(g==f)=false:=qk1.mpr h;simp only[List.lookup,hb,if_neg h]
 | (k,x)::r=>by
   have ih:=An f g v r;rw[show putF f v ((k,x)::r)=(if k=f then(k,v)::r else(k,x)::putF f v r) from rfl];by_cases hk:k=f
   . rw[if_pos hk];by_cases h:g=k
     . have hb:(g==k)=true:=qn3.mpr h;simp only[List.lookup,hb,if_pos (h.trans hk)]
     . have hb:(g==k)=false:=qk1.mpr h;simp only[List.lookup,hb,if_neg (fun e:g=f=>h (e.trans hk.symm))]
   . rw[if_neg hk];by_cases h:g=k
     . have hb:(g==k)=true:=qn3.mpr h;simp only[List.lookup,hb,if_neg (fun e:g=f=>hk (h.symm.trans e))]
     . have hb:(g==k)=false:=qk1.mpr h;simp only[List.lookup,hb];exact ih
theorem Qn(f:Str)(v:V):∀fs:List (Str × V),f∈(putF f v fs).map (·.1)/\∀g,g∈fs.map (·.1)->g∈(putF f v fs).map (·.1)
 | []=>⟨by simp[putF],fun g h=>by simp at h⟩
 | (k,x)::r=>by
   obtain⟨i1,i2⟩:=Qn f v r;rw[show putF f v ((k,x)::r)=(if k=f then(k,v)::r else(k,x)::putF f v r) from rfl];by_cases hk:k=f
   . rw[if_pos hk];subst hk;exact⟨by simp,fun g h=>by simpa using h⟩
   . rw[if_neg hk];refine⟨?_,fun g h=>?_⟩
     . rw[qi6];exact qc1 _ i1
     . rw[qi6]at h ⊢;rcases qb9.mp h with e | e
       . exact qb9.mpr (.inl e)
       . exact qc1 _ (i2 g e)
theorem Ci(f:Str)(v:V):∀fs:List (Str × V),(putF f v fs).length<=fs.length+1
 | []=>by simp[putF]
 | (k,x)::r=>by
   have ih:=Ci f v r;rw[show putF f v ((k,x)::r)=(if k=f then(k,v)::r else(k,x)::putF f v r) from rfl];by_cases hk:k=f
   . rw[if_pos hk,qc6,qc6];omega
   . rw[if_neg hk,qc6,qc6];omega
theorem Vs.some_of{v:V}{o:Option Value}(r:Vs (some v) o):∃u,o=some u/\RelV v u:=by
 cases o with
 | none=>exact(show False from r).elim
 | some u=>exact⟨u,rfl,r⟩
theorem Vs.none_of{o:Option Value}(r:Vs none o):o=none:=by
 cases o with
 | none=>rfl
 | some u=>exact(show False from r).elim
theorem DR{v:V}{u:Value}(r:RelV v u):PySem.W.handedIn u=true:=by
 cases v with
 | non=>cases (show u=Value.none from r);rfl
 | bl b=>cases (show u=Value.bool b from r);rfl
 | int i=>obtain⟨t,e⟩:=(show ∃t,u=Value.int i t from r);cases e;rfl
 | str x=>obtain⟨t,e⟩:=(show ∃t,u=Value.str x t from r);cases e;rfl
 | byt b=>obtain⟨t,e⟩:=(show ∃t,u=Value.bytes b t from r);cases e;rfl
 | flt b=>obtain⟨t,e⟩:=(show ∃t,u=Value.float b t from r);cases e;rfl
 | ref a=>cases (show u=Value.ref a from r);rfl
 | ty n=>cases (show u=Value.type n from r);rfl
section
variable{P:Program}{w:World}{H H':Hp}{h h':Heap}{a C dx:Addr}{fs fs':List (Str × V)}
theorem Ya(hok:Nk P w H h)(e:H a=some (.ins C dx fs)):∃mA,AX h a dx C mA/\(∀f,Vs (fs.lookup f) (mA f))/\PySem.Within mA (fs.map (·.1))/\fs.length<=1000/\H dx=some (.own a):=by
 obtain⟨d,z,ne,ob,mA,n,r,q⟩:=(show ObjOk P w H h a (.ins C dx fs) from hok a _ e)
 exact⟨mA,⟨ob,n,ne⟩,r,q,z,d⟩
end
structure Cls(K:W.Frag)(C:Addr):Prop where
 pg:PySem.W.plainGet K C Str.empty=true
 hd:PySem.W.hasDictIn K C=true
 po:PySem.W.plainOver K C=true
 sa:W.findIn K (.ref C) "__setattr__"=some (some (.builtin "object.__setattr__"))
theorem Cls.get{K:W.Frag}{C:Addr}(c:Cls K C)(f:Str):PySem.W.plainGet K C f=true:=c.pg
noncomputable def NoAttr(K:W.Frag)(C:Addr)(f:Str):Prop:=W.findIn K (.ref C) f=some none
theorem NoAttr.taker{K:W.Frag}{C:Addr}{f:Str}(n:NoAttr K C f):PySem.W.takerIn K C f=some none:=by
 unfold PySem.W.takerIn;rw[show W.findIn K (.ref C) f=some none from n];rfl
structure HK(K:W.Frag)(C:Addr)(m:Str)(f:Addr):Prop where
 at_:W.findIn K (.ref C) m=some (some (.ref f))
 fn:W.isFn K (.ref f)=true
 kp:W.keepIn K (.ref f)=true
section
variable{X:Cx}{Ab:LAObj}{σ:St}{H:Hp}{s:Shared}{a C dx:Addr}{fs:List (Str × V)}{f:Str}{v:V}{A:Around}{E:Value->Shared->Prop}
theorem aE{b:Bool}{Q:Value->Shared->Prop}(I:Bu X Ab σ H s)(e:H a=some (.ins C dx fs))(c:Cls X.K C)(n:NoAttr X.K C f)(l:fs.lookup f=some v)
 (h:∀u s',Bu X Ab σ H s'->RelV v u->Q u s'):wpAny (model X.prog X.w) A (getAttr (.ref a) f b) Q E s:=by
 obtain⟨mA,O,r,_,_,_⟩:=Ya I.hok e;obtain⟨u,hu,ru⟩:=Vs.some_of (v:=v) (o:=mA f) (by rw[←l];exact r f);exact JP I.kIn O (c.get f) c.hd n hu (DR ru) (h u _ (I.tok _) ru)
theorem N7{m:Str}{g:Addr}{pl:Sem Bool}{Q:Value × List Value->Shared->Prop}(I:Bu X Ab σ H s)(e:H a=some (.ins C dx fs))(c:Cls X.K C)(k:HK X.K C m g)(l:fs.lookup m=none)
 (h:Q (.ref g,[.ref a]) s):wpAny (model X.prog X.w) A (getMethod (.ref a) m pl) Q E s:=by
 obtain⟨mA,O,r,_,_,_⟩:=Ya I.hok e;have hn:mA m=none:=Vs.none_of (by rw[←l];exact r m);exact gK I.kIn O (c.get m) k.at_ k.fn hn h
theorem u7{y:V}{u:Value}{Q:Unit->Shared->Prop}(I:Bu X Ab σ H s)(e:H a=some (.ins C dx fs))(c:Cls X.K C)(n:NoAttr X.K C f)(hl:fs.length<1000)(ry:RelV y u)
 (h:∀s',Bu X Ab σ (upd H a (.ins C dx (putF f y fs))) s'->Q () s'):wpAny (model X.prog X.w) A (setAttr (.ref a) f u) Q E s:=by
 obtain⟨mA,O,r,wi,_,ho⟩:=Ya I.hok e;have hz:(fs.map (·.1)).length<=sizeLine:=by rw[qa2,sizeLine_eq];omega
 refine iJ I.kIn O c.sa c.po n.taker c.hd wi hz fun h' O' sb=>h _ ?_;have hd:∃o,h'.get? dx=some o:=let ⟨o,_,_,e',_⟩:=O'.ns;⟨o,e'⟩
 refine I.write (x:=a) (e:=dx) (by rw[e];exact True.intro) (.inr ho) (fun b q hb z=>(sb.2 b hb).trans z) hd ?_;refine⟨by rw[Bb O.ne];exact ho,?_,O.ne,O'.obj,_,O'.ns,fun g=>?_,fun g hg=>?_⟩
 . have:=Ci f y fs;omega
 . show Vs ((putF f y fs).lookup g) (if g=f then some u else mA g);rw[An];by_cases q:g=f
   . rw[if_pos q,if_pos q];exact ry
   . rw[if_neg q,if_neg q];exact r g
 . by_cases q:g=f
   . rw[q];exact(Qn f y fs).1
   . refine(Qn f y fs).2 g (wi g fun z=>hg ?_);show(if g=f then some u else mA g)=none;rw[if_neg q];exact z
theorem Bu.made(I:Bu X Ab σ H s):Bu X Ab σ (upd (upd H s.heap.objs.size (.own (s.heap.objs.size+1))) (s.heap.objs.size+1) (.ins C s.heap.objs.size []))
 { s with heap:=(s.heap.push PySem.W.emptyDict).push (PySem.W.instObj C s.heap.objs.size) }:=by
 have e1:(s.heap.push PySem.W.emptyDict).get? s.heap.objs.size=some PySem.W.emptyDict:=qb5 s.heap rfl
 have e2:((s.heap.push PySem.W.emptyDict).push (PySem.W.instObj C s.heap.objs.size)).get? (s.heap.objs.size+1)=some (PySem.W.instObj C s.heap.objs.size):=by
  have:=qb5 (s.heap.push PySem.W.emptyDict) (o:=PySem.W.instObj C s.heap.objs.size) rfl
  rwa [qh6]at this
 have e3:(s.heap.push PySem.W.emptyDict).Ns s.heap.objs.size (fun _=>none):=⟨PySem.W.emptyDict,#[],_,e1,rfl,(fun e he=>absurd he (by simp)),fun _=>rfl⟩
 have I1:=I.laid (a:=s.heap.objs.size) (o:=.own (s.heap.objs.size+1)) (h':=s.heap.push PySem.W.emptyDict) (t':=s.toks) (fun b u q=>qa3 _ q) (qa0 _) ⟨_,e1⟩;refine I1.laid (a:=s.heap.objs.size+1) (o:=.ins C s.heap.objs.size []) (t':=s.toks) (fun b u q=>qa3 _ q) (qs0 (qh6 _ _)) ?_;have ne:s.heap.objs.size≠s.heap.objs.size+1:=qb8 (qo5 _);refine⟨by rw[Bb ne,Ae],qa8 _,ne,e2,fun _=>none,(Heap.Ns1.of_empty e3).at fun o q=>qa3 _ q,fun _=>True.intro,fun y hy=>absurd rfl hy⟩
theorem JW{prog:Program}{w:World}{env:Env}{e:Expr}{f:Str}{pos:Pos}{s:Shared}{Q:Value->Shared->Prop}(hb:attributeBase e f env (eval e env)=eval e env)
 (h:wpAny (model prog w) A (eval e env) (fun o s₁=>wpAny (model prog w) A (getAttr o f true) Q E s₁) E s):wpAny (model prog w) A (eval (.Attribute e f pos) env) Q E s :=
 Attribute_any_ h (by rw[arm_eval_Attribute,hb])
end
noncomputable def tFld(K:W.Frag)(ta:TE)(f:Str):TE:=fun σ H Q=>ta σ H fun x H1=>∃a C dx fs v,x=.ref a/\H1 a=some (.ins C dx fs)/\Cls K C/\NoAttr K C f/\fs.lookup f=some v/\Q v H1
noncomputable def OO(K:W.Frag)(ta tv:TE)(f:Str):TS:=fun D σ H=>tv σ H fun y H1=>ta σ H1 fun x H2=>∃a C dx fs,x=.ref a/\H2 a=some (.ins C dx fs)/\Cls K C/\NoAttr K C f/\fs.length<1000 ∧
 D.nx σ (upd H2 a (.ins C dx (putF f y fs)))
section
variable{X:Cx}{o e value:Expr}{f:Str}{pos pos' tpos:Pos}{ta tv:TE}
theorem MA(he:PE X e ta)(hb:attributeBase e f X.env (eval e X.env)=eval e X.env):PE X (.Attribute e f pos) (tFld X.K ta f):=by
 intro Ab s σ H Q I h;refine JW hb (Ed (he Ab s σ H _ I h) fun u s1 _z=>?_);obtain⟨x,H1,I1,rx,a,C,dx,fs,v,ex,ea,c,n,l,q⟩:=_z;subst ex;obtain rfl:u=Value.ref a:=rx;exact aE I1 ea c n l fun u' s2 I2 ru=>⟨v,H1,I2,ru,q⟩
theorem lY(ha:PE X o ta)(hv:PE X value tv)(hs:swapsWith value (some (.Attribute o f pos')) pos.line X.env=pure false):PS X (.Assign [.Attribute o f pos'] value pos) (OO X.K ta tv f):=by
 intro Ab s σ H D I h;refine plainObj_wpAny_Assign_Attribute (Ed (hv Ab s σ H _ I h) fun u s1 ⟨y,H1,I1,ry,q⟩=>Ed (ha Ab s1 σ H1 _ I1 q) fun ov s2 _z=>?_) hs;obtain⟨x,H2,I2,rx,a,C,dx,fs,ex,ea,c,n,l,q2⟩:=_z;subst ex;obtain rfl:ov=Value.ref a:=rx;exact u7 I2 ea c n l ry fun s3 I3=>⟨σ,_,I3,q2⟩
theorem kT{pl:Sem Bool}{m:Str}{apos:Pos}{args:List Expr}{Ab:LAObj}{s:Shared}{σ:St}{H:Hp}{Q:Value->Shared->Prop}{te:TE}(he:PE X e te)(I:Bu X Ab σ H s)
 (h:te σ H fun x H1=>∃a C dx fs g,x=.ref a/\H1 a=some (.ins C dx fs)/\Cls X.K C/\HK X.K C m g/\fs.lookup m=none ∧
   ∀s1,Bu X Ab σ H1 s1->wpAny (model X.prog X.w) X.A (callWith pos (.ref g) [.ref a] (backTo pos (starEach args X.env)) (backToKw pos (keywordEach [] X.env))) Q X.xe s1)
 (ht:eval (.Call (.Attribute e m apos) args [] pos) X.env=(do
   let ov ←eval e X.env
   standAt apos.atName
   let (f,first) ←holding [ov] (getMethod ov m pl)
   callWith pos f first (backTo pos (starEach args X.env)) (backToKw pos (keywordEach [] X.env)))) :
 wpAny (model X.prog X.w) X.A (eval (.Call (.Attribute e m apos) args [] pos) X.env) Q X.xe s:=by
 refine ql8 (pl:=pl) (Ed (he Ab s σ H _ I h) fun u s1 _z=>?_) ht;obtain⟨x,H1,I1,rx,a,C,dx,fs,g,ex,ea,c,k,l,q⟩:=_z;subst ex;obtain rfl:u=Value.ref a:=rx;exact N7 I1 ea c k l (q s1 I1)
end
section
variable{X:Cx}{Ab:LAObj}{σ:St}{H:Hp}{s:Shared}{A:Around}{E:Value->Shared->Prop}{Q:Value->Shared->Prop}{c:Value}{b:Bool}
end
structure Eg(k:Nat)(A:Around):Prop where
 hd:A.handled=none
 dp:A.depth+3*k+5<recursionLimit
 un:A.units+16*k+200<cLine
 gd:A.guards=some []
theorem Eg.mono{j k:Nat}{A:Around}(r:Eg k A)(h:j<=k):Eg j A:=⟨r.hd,by have:=r.dp;omega,by have:=r.un;omega,r.gd⟩
theorem Eg.deeper{k:Nat}{A:Around}(r:Eg (k+1) A)(env:Env):Eg k (A.deeper env) :=
 ⟨r.hd,by have:=r.dp;show A.depth+1+3*k+5<_;omega,by have:=r.un;show A.units+3+16*k+200<_;omega,r.gd⟩
theorem z9{A:Around}{C:Addr}{us:List Value}{kw:List (Str × Value)}:(A.under (.builtin "type.__call__" ⟨.ref C::us,kw⟩)).depth=A.depth+1:=by
 first | rfl | simp[Around.under,Code.weight,Code.isCreation,Code.isGuard,Code.isCaller,Code.frames,Code.isFrame,guardIds]
theorem d8{A:Around}{C:Addr}{us:List Value}{kw:List (Str × Value)}:(A.under (.builtin "type.__call__" ⟨.ref C::us,kw⟩)).guards=A.guards:=by
 first | rfl | simp[Around.under,Code.weight,Code.isCreation,Code.isGuard,Code.isCaller,Code.frames,Code.isFrame,guardIds]
theorem z8{A:Around}{C:Addr}{us:List Value}{kw:List (Str × Value)}:(A.under (.builtin "type.__call__" ⟨.ref C::us,kw⟩)).units=A.units+1:=by
 first | rfl | simp[Around.under,Code.cUnits,Code.frames,Code.isFrame]
theorem Eg.make{k:Nat}{A:Around}(r:Eg (k+1) A)(C:Addr)(us:List Value)(kw:List (Str × Value)):Eg k (A.under (.builtin "type.__call__" ⟨.ref C::us,kw⟩)) :=
 ⟨r.hd,by have:=r.dp;rw[z9];omega,by have:=r.un;rw[z8];omega,by rw[d8];exact r.gd⟩
theorem Eg.depth{k:Nat}{A:Around}(r:Eg k A):A.depth<recursionLimit:=by have:=r.dp;omega
theorem Eg.units{k:Nat}{A:Around}(r:Eg k A):A.units+64<cLine:=by have:=r.un;omega
theorem Eg.u8{k:Nat}{A:Around}(h:Eg k A):A.units+8<cLine:=by
 have:=h.units;omega
noncomputable def iG:TA:=fun _ H Q=>Q [] H
noncomputable def fD(ta:TE)(tr:TA):TA:=fun σ H Q=>ta σ H fun x H1=>tr σ H1 fun xs H2=>Q (x::xs) H2
section
variable{X:Cx}{e:Expr}{es:List Expr}{te:TE}{t:TA}{pos:Pos}
theorem Af:PA X [] iG:=fun _ _ _ _ H Q I h=>Calls.spliced_nil ⟨[],H,I,.nil,h⟩
theorem Aa(ha:PE X e te)(hr:PA X es t)(hs:starEach (e::es) X.env=(false,eval e X.env)::starEach es X.env:=by rfl):PA X (e::es) (fD te t):=by
 intro pos Ab s σ H Q I h;rw[hs];show wpAny _ _ (spliced ((false,eval e X.env)::backTo pos (starEach es X.env))) _ _ s;refine Calls.spliced_cons (Ed (ha Ab s σ H _ I h) fun u s1 _z=>?_);obtain⟨x,H1,I1,r1,q1⟩:=_z;exact Ed (hr pos Ab s1 σ H1 _ I1 q1) fun us s2 ⟨xs,H2,I2,r2,q2⟩=>⟨x::xs,H2,I2,.cons r1 r2,q2⟩
noncomputable def lP(t:TA):TE:=fun σ H Q=>t σ H fun xs H1=>xs.length<=sizeLine/\∀p,H1 p=none->Q (.ref p) (upd H1 p (.tup xs))
noncomputable def oK(t:TA):TE:=fun σ H Q=>t σ H fun xs H1=>xs.length<=sizeLine/\∀p,H1 p=none->Q (.ref p) (upd H1 p (.lst xs))
theorem Ej{x1}(h:PA X es t):PE X (.Tuple es x1 pos) (lP t):=by
 intro Ab s σ H Q I hq;refine wpAny_Tuple_spliced (Ed (h pos Ab s σ H _ I hq) fun us s1 ⟨xs,H1,I1,r,z,q⟩=>⟨by rw[←r.length];exact z,?_⟩);have hf:H1 s1.heap.objs.size=none:=I1.hok.fresh (qa0 _);refine⟨.ref s1.heap.objs.size,upd H1 s1.heap.objs.size (.tup xs),I1.laid (t':=s1.toks) (fun b u e=>qa3 _ e) (qa0 _) ?_,rfl,q _ hf⟩;exact⟨z,us,r,⟨_,qb5 _ rfl,rfl,rfl,_,rfl⟩⟩
theorem Fn(h:PA X es t):PE X (.List es pos) (oK t):=by
 intro Ab s σ H Q I hq;refine wpAny_List_spliced (Ed (h pos Ab s σ H _ I hq) fun us s1 ⟨xs,H1,I1,r,z,q⟩=>⟨by rw[←r.length];exact z,?_⟩);have hf:H1 s1.heap.objs.size=none:=I1.hok.fresh (qa0 _);refine⟨.ref s1.heap.objs.size,upd H1 s1.heap.objs.size (.lst xs),I1.laid (t':=s1.toks) (fun b u e=>qa3 _ e) (qa0 _) ?_,rfl,q _ hf⟩;exact⟨z,us,0,r,qb5 _ rfl⟩
end
noncomputable abbrev Sp:=List V->Hp->VK->XK->Prop
noncomputable abbrev eW:=List Env->Hp->Shared->XK->Value->Shared->Prop
structure Vt(P:Program)(w:World)(K:W.Frag)(mg:Str->Option Value)(base:Heap)(A:Around)(outer:List Env)(s:Shared)(H:Hp):Prop where
 frames:A.frames=some outer
 mod:Mod K mg base
 bs:∀b o,base.get? b=some o->s.heap.get? b=some o/\H b=none
 bsz:base.objs.size<=s.heap.objs.size
 funs:s.heap.FunFrames base outer
 frf:∀b∈Nh outer,H b=none
 hok:Nk P w H s.heap
 bare:AllBare s.gens
noncomputable def CE(outer:List Env)(P:Program)(w:World)(H:Hp)(s:Shared)(Q:VK)(u:Value)(s':Shared):Prop :=
 ∃v H',s'.os=s.os/\AllBare s'.gens/\Un (Nh outer) [] H H' s.heap s'.heap/\Nk P w H' s'.heap/\RelV v u/\Q v H'
noncomputable def CR(CX:eW)(outer:List Env)(P:Program)(w:World)(H:Hp)(s:Shared)(Q:VK)(E:XK)(r:Result)(s':Shared):Prop :=
 match r with
 | .ok (.ret u)=>CE outer P w H s Q u s'
 | .ok _=>False
 | .error e=>CX outer H s E e s'
structure Cj(P:Program)(w:World)(K:W.Frag)(mg:Str->Option Value)(base:Heap)(CX:eW)(k:Nat)(f:Addr)(fd:FuncData)(ps:List Str)(sp:Sp):Prop where
 len:∀vs H Q E,sp vs H Q E->vs.length=ps.length
 run:∀(A:Around) (outer:List Env) (s:Shared) (H:Hp) (args:Args) (us:List Value) (vs:List V) (Q:VK) (E:XK),Eg k A->Vt P w K mg base A outer s H->BindsTo s fd args (ps.zip us)->Cg vs us->sp vs H Q E →
  codeAny (model P w) A (.call (.ref f) args) (CR CX outer P w H s Q E) s
theorem Vt.make{P:Program}{w:World}{K:W.Frag}{mg:Str->Option Value}{base:Heap}{A:Around}{outer:List Env}{s:Shared}{H:Hp}(e:Vt P w K mg base A outer s H)(C:Addr)(us:List Value)(kw:List (Str × Value)) :
 Vt P w K mg base (A.under (.builtin "type.__call__" ⟨.ref C::us,kw⟩)) outer s H:=⟨by first | exact e.frames | (simpa[Around.under,Code.envs,Code.isFrame,pushEnvs]using e.frames),e.mod,e.bs,e.bsz,e.funs,e.frf,e.hok,e.bare⟩
section
variable{X:Cx}{Ab:LAObj}{σ:St}{H:Hp}{s s':Shared}
theorem Bu.env0(I:Bu X Ab σ H s):Vt X.prog X.w X.K X.mg X.base X.A X.stack s H :=
 ⟨I.ok.frames,I.ok.mod,I.bs,qa1 I.ok.bsz I.sz,I.stack,I.stkFree,I.hok,I.bare⟩
theorem Bu.after{Q:VK}{u:Value}(I:Bu X Ab σ H s)(h:CE X.stack X.prog X.w H s Q u s'):EP X Ab σ Q u s':=by
 obtain⟨v,H',os,bare,un,hok,r,q⟩:=h;obtain⟨hh,g,d,t,os'⟩:=s';obtain rfl:os'=s.os:=os;exact⟨v,H',I.call (h':=hh) (g':=g) (d':=d) (t':=t) (ch:=[]) un hok bare (fun b z=>absurd z (by simp)),r,q⟩
end
noncomputable def tCall(sp:Sp)(dvs:List V)(E:XK)(t:TA):TE:=fun σ H Q=>t σ H fun vs H1=>sp (vs++dvs) H1 Q E
noncomputable def bC(C:Addr)(m:Str)(sp:Sp)(dvs:List V)(E:XK)(ta:TE)(t:TA):TE:=fun σ H Q=>ta σ H fun x H1=>∃a dx fs,x=.ref a/\H1 a=some (.ins C dx fs)/\fs.lookup m=none ∧
 t σ H1 fun vs H2=>sp (x::(vs++dvs)) H2 Q E
noncomputable def KH(C:Addr)(sp:Sp)(dvs:List V)(E:XK)(t:TA):TE:=fun σ H Q=>t σ H fun vs H1=>∀x dx,H1 x=none->H1 dx=none->dx≠x →
 sp (.ref x::(vs++dvs)) (upd (upd H1 dx (.own x)) x (.ins C dx [])) (fun v H2=>v=.non/\Q (.ref x) H2) E
noncomputable def Gb(K:W.Frag)(fd:FuncData)(ps:List Str)(ds:List Value):Prop :=
 ∀(s:Shared) (us:List Value),K.In s.heap->(us++ds).length=ps.length->BindsTo s fd ⟨us,[]⟩ (ps.zip (us++ds))
theorem Gb.all{K:W.Frag}{fd:FuncData}{ps:List Str}(h:∀us:List Value,us.length=ps.length->bindArgs fd ⟨us,[]⟩=pure (ps.zip us)):Gb K fd ps []:=fun s us _ hl=>by
 rw[qh4]at hl ⊢;exact .of_eq (h us hl)
noncomputable def Oj(CX:eW)(X:Cx)(E:XK):Prop:=∀(Ab:LAObj) (σ:St) (H:Hp) (s:Shared) (e:Value) (s':Shared),Bu X Ab σ H s->CX X.stack H s E e s'->X.xe e s'
section
variable{X:Cx}{CX:eW}{k:Nat}{f C:Addr}{fd:FuncData}{ps:List Str}{sp:Sp}{dvs:List V}{ds:List Value}{E:XK}{x m:Str}{p pos apos:Pos}{e o:Expr}{es:List Expr}{ta:TE}{t:TA}
theorem Xk{Ab:LAObj}{σ:St}{H:Hp}{s:Shared}{Q:VK}{us:List Value}{vs:List V}(F:Cj X.prog X.w X.K X.mg X.base CX k f fd ps sp)(hr:Eg k X.A)(hb:Gb X.K fd ps ds)(hd:Cg dvs ds)(hx:Oj CX X E)
 (I:Bu X Ab σ H s) (r:Cg vs us) (h:sp (vs++dvs) H Q E):wpAny (model X.prog X.w) X.A (call (.ref f) us) (EP X Ab σ Q) X.xe s:=by
 have r2:Cg (vs++dvs) (us++ds):=r.append hd;have hl:(us++ds).length=ps.length:=by rw[←r2.length];exact F.len _ _ _ _ h
 refine wpAny_call (codeAny_mono (F.run X.A X.stack s H ⟨us,[]⟩ (us++ds) (vs++dvs) Q E hr I.env0 (hb s us I.kIn hl) r2 h) fun r s' hq=>?_);cases r with
 | error e=>exact hx Ab σ H s e s' I hq
 | ok fl =>
   cases fl with
   | ret u=>exact I.after hq
   | next=>exact False.elim hq
   | brk=>exact False.elim hq
   | cont=>exact False.elim hq
theorem IY(F:Cj X.prog X.w X.K X.mg X.base CX k f fd ps sp)(hr:Eg k X.A)(hg:Gl X x)(hm:X.mg x=some (.ref f))(hk:W.keepIn X.K (.ref f)=true)(hb:Gb X.K fd ps ds)(hd:Cg dvs ds)(hx:Oj CX X E)
 (ha:PA X (e::es) t) (hdb:(x==("__debug__":Str))=false:=by decide) (he:starEach (e::es) X.env=(false,eval e X.env)::starEach es X.env:=by rfl) (hpl:(backTo pos (starEach es X.env)).any (·.1)=false:=by rfl) :
 PE X (.Call (.Name x p) (e::es) [] pos) (tCall sp dvs E t):=by
 intro Ab s σ H Q I h;refine qi1 (Hn I hg hm ?_ hdb);refine qh9 (h₀:=X.base) I.ok.mod.kin hk (Ed (ha pos Ab s σ H _ I h) fun us s1 ⟨vs,H1,I1,r,q⟩=>⟨I1.kIn,?_⟩) he hpl;exact Xk F hr hb hd hx I1 r q
theorem iX{pl:Sem Bool}(he:PE X o ta)(c:Cls X.K C)(hm:HK X.K C m f)(F:Cj X.prog X.w X.K X.mg X.base CX k f fd ps sp)(hr:Eg k X.A)(hb:Gb X.K fd ps ds)(hd:Cg dvs ds)(hx:Oj CX X E)(ha:PA X (e::es) t)
 (hst:starEach (e::es) X.env=(false,eval e X.env)::starEach es X.env:=by rfl) (hpl:(backTo pos (starEach es X.env)).any (·.1)=false:=by rfl)
 (ht:eval (.Call (.Attribute o m apos) (e::es) [] pos) X.env=(do
   let ov ←eval o X.env
   standAt apos.atName
   let (f,first) ←holding [ov] (getMethod ov m pl)
   callWith pos f first (backTo pos (starEach (e::es) X.env)) (backToKw pos (keywordEach [] X.env))):=by rfl) :
 PE X (.Call (.Attribute o m apos) (e::es) [] pos) (bC C m sp dvs E ta t):=by
 intro Ab s σ H Q I h;refine ql8 (pl:=pl) (Ed (he Ab s σ H _ I h) fun u s1 _z=>?_) ht;obtain⟨x,H1,I1,rx,a,dx,fs,ex,ea,l,q⟩:=_z;subst ex;obtain rfl:u=Value.ref a:=rx;refine N7 I1 ea c hm l ?_;refine qh9 (first:=[.ref a]) (h₀:=X.base) I.ok.mod.kin hm.kp (Ed (ha pos Ab s1 σ H1 _ I1 q) fun us s2 ⟨vs,H2,I2,r,q2⟩=>⟨I2.kIn,?_⟩) hst hpl;exact Xk (us:=.ref a::us) (vs:=.ref a::vs) F hr hb hd hx I2 (.cons rfl r) q2
theorem FN{pl:Sem Bool}(he:PE X o ta)(c:Cls X.K C)(hm:HK X.K C m f)(F:Cj X.prog X.w X.K X.mg X.base CX k f fd ps sp)(hr:Eg k X.A)(hb:Gb X.K fd ps ds)(hd:Cg dvs ds)(hx:Oj CX X E)
 (ht:eval (.Call (.Attribute o m apos) [] [] pos) X.env=(do
   let ov ←eval o X.env
   standAt apos.atName
   let (f,first) ←holding [ov] (getMethod ov m pl)
   callWith pos f first (backTo pos (starEach [] X.env)) (backToKw pos (keywordEach [] X.env))):=by rfl) :
 PE X (.Call (.Attribute o m apos) [] [] pos) (bC C m sp dvs E ta iG):=by
 intro Ab s σ H Q I h;refine ql8 (pl:=pl) (Ed (he Ab s σ H _ I h) fun u s1 _z=>?_) ht;obtain⟨x,H1,I1,rx,a,dx,fs,ex,ea,l,q⟩:=_z;subst ex;obtain rfl:u=Value.ref a:=rx;refine N7 I1 ea c hm l ?_;exact PySem.W.callWith_K0 (first:=[.ref a]) I1.kIn hm.kp (Xk (us:=[.ref a]) (vs:=[.ref a]) F hr hb hd hx I1 (.cons rfl .nil) q)
structure Mk(K:W.Frag)(C f:Addr):Prop where
 makes:PySem.W.makesIn K C=true
 init:W.findIn K (.ref C) "__init__"=some (some (.ref f))
 fn:W.isFn K (.ref f)=true
 kp:W.keepIn K (.ref C)=true
theorem fJ{Ab:LAObj}{σ:St}{H:Hp}{s:Shared}{Q:VK}{us:List Value}{vs:List V}(M:Mk X.K C f)(F:Cj X.prog X.w X.K X.mg X.base CX k f fd ps sp)(hr:Eg (k+1) X.A)(hb:Gb X.K fd ps ds)(hd:Cg dvs ds)
 (hx:Oj CX X E) (I:Bu X Ab σ H s) (r:Cg vs us)
 (h:∀x dx,H x=none->H dx=none->dx≠x->sp (.ref x::(vs++dvs)) (upd (upd H dx (.own x)) x (.ins C dx [])) (fun v H2=>v=.non/\Q (.ref x) H2) E) :
 wpAny (model X.prog X.w) X.A (call (.ref C) us) (EP X Ab σ Q) X.xe s:=by
 have hq:=h (s.heap.objs.size+1) s.heap.objs.size (I.hok.fresh (qk3 _)) (I.hok.fresh (qa0 _)) (qb8 (qo5 _));have I2:=Bu.made (C:=C) I;have r2:Cg (V.ref (s.heap.objs.size+1)::(vs++dvs)) (Value.ref (s.heap.objs.size+1)::(us++ds)):=.cons rfl (r.append hd)
 have hl:(Value.ref (s.heap.objs.size+1)::us++ds).length=ps.length:=by
  have e:=r2.length;rw[F.len _ _ _ _ hq]at e;exact e.symm
 refine wpAny_call (d6 (f:=f) I.kIn M.makes M.init (qn3.mp M.fn) (codeAny_mono (F.run _ X.stack _ _ ⟨Value.ref (s.heap.objs.size+1)::us,[]⟩ (Value.ref (s.heap.objs.size+1)::(us++ds)) _ _ E (hr.make C us [])
  (I2.env0.make C us []) (hb _ (Value.ref (s.heap.objs.size+1)::us) I2.kIn hl) r2 hq) fun r s' hq'=>?_))
 cases r with
 | error e=>exact hx Ab σ _ _ e s' I2 hq'
 | ok fl =>
   cases fl with
   | ret u =>
     obtain⟨v,H',I3,rv,ev,q3⟩:=I2.after hq';subst ev;exact⟨rv,⟨V.ref (s.heap.objs.size+1),H',I3,rfl,q3⟩⟩
   | next=>exact False.elim hq'
   | brk=>exact False.elim hq'
   | cont=>exact False.elim hq'
theorem IX(M:Mk X.K C f)(F:Cj X.prog X.w X.K X.mg X.base CX k f fd ps sp)(hr:Eg (k+1) X.A)(hg:Gl X x)(hm:X.mg x=some (.ref C))(hb:Gb X.K fd ps ds)(hd:Cg dvs ds)(hx:Oj CX X E)
 (ha:PA X (e::es) t) (hdb:(x==("__debug__":Str))=false:=by decide) (he:starEach (e::es) X.env=(false,eval e X.env)::starEach es X.env:=by rfl) (hpl:(backTo pos (starEach es X.env)).any (·.1)=false:=by rfl) :
 PE X (.Call (.Name x p) (e::es) [] pos) (KH C sp dvs E t):=by
 intro Ab s σ H Q I h;refine qi1 (Hn I hg hm ?_ hdb);refine qh9 (h₀:=X.base) I.ok.mod.kin M.kp (Ed (ha pos Ab s σ H _ I h) fun us s1 ⟨vs,H1,I1,r,q⟩=>⟨I1.kIn,?_⟩) he hpl;exact fJ M F hr hb hd hx I1 r q
end
section
variable{X:Cx}{CX:eW}{k:Nat}{f C:Addr}{fd:FuncData}{ps ks:List Str}{sp:Sp}{E:XK}{x m:Str}{p pos apos kpos:Pos}{e o:Expr}{es:List Expr}{kws:List Keyword}{te ta:TE}{t tk:TA}{nm:Option Str}
variable{g:List Value->List Value->List Value}{gV:List V->List V->List V}
end
structure FnScope(N P:List Str)(sc:Scope):Prop where
 kind:sc.kind=.function
 co:sc.isCoroutine=false
 gen:sc.isGenerator=false
 nd:N.Nodup
 pre:N.take P.length=P
 par:∀x∈P,sc.names.lookup x=some .local\/sc.names.lookup x=some .cell
 nofree:∀y∈sc.names,y.2≠.free
theorem Ww{kindOf:Str->Option NameKind}{x:Str}:∀{binds:List (Str × Value)}{m:Str->Option Value},(∀v,(x,v) ∉ binds)->bindL kindOf binds m x=m x
 | [],_,_=>rfl
 | (n,v)::r,m,h=>by
   unfold bindL;rw[Ww fun w hw=>h w (qc1 _ hw)];split
   . have:x≠n:=by rintro rfl;exact h v qe8
     simp[this]
   . rfl
theorem B4{N P:List Str}{sc:Scope}(h1:sc.kind=.function:=by exact rfl)(h2:sc.isCoroutine=false:=by exact rfl)(h3:sc.isGenerator=false:=by exact rfl)(h4:N.Nodup:=by decide +kernel)(h5:N.take P.length=P:=by exact rfl)
 (h6:∀x∈P,sc.names.lookup x=some .local\/sc.names.lookup x=some .cell:=by decide +kernel) (h7:∀y∈sc.names,y.2≠.free:=by decide +kernel):FnScope N P sc:=⟨h1,h2,h3,h4,h5,h6,h7⟩
theorem Wy{kindOf:Str->Option NameKind}{x:Str}:∀{binds:List (Str × Value)}{m:Str->Option Value},(∀v,(x,v) ∉ binds)->bindC kindOf binds m x=m x
 | [],_,_=>rfl
 | (n,v)::r,m,h=>by
   unfold bindC;rw[Wy fun w hw=>h w (qc1 _ hw)];split
   . rfl
   . have:x≠n:=by rintro rfl;exact h v qe8
     simp[this]
theorem Wx{kindOf:Str->Option NameKind}{x:Str}{v:Value}:∀{P:List Str}{vs:List Value}{i:Nat}{m:Str->Option Value},P.Nodup->P[i]?=some x->vs[i]?=some v->kindOf x=some .local →
 bindL kindOf (P.zip vs) m x=some v
 | [],_,_,_,_,h,_,_=>by simp at h
 | _::_,[],_,_,_,_,h,_=>by simp at h
 | p::P,w::vs,0,m,nd,h1,h2,hk=>by
   simp at h1 h2;subst h1;subst h2;show bindL kindOf ((p,w)::P.zip vs) m p=_;unfold bindL;rw[Ww fun v hv=>(qp3.mp nd).1 (qp2 hv).1,if_pos hk];simp
 | p::P,w::vs,i+1,m,nd,h1,h2,hk=>by
   show bindL kindOf ((p,w)::P.zip vs) m x=_;unfold bindL;exact Wx (i:=i) (qp3.mp nd).2 (by simpa using h1) (by simpa using h2) hk
theorem Wz{kindOf:Str->Option NameKind}{x:Str}{v:Value}:∀{P:List Str}{vs:List Value}{i:Nat}{m:Str->Option Value},P.Nodup->P[i]?=some x->vs[i]?=some v->kindOf x≠some .local →
 bindC kindOf (P.zip vs) m x=some v
 | [],_,_,_,_,h,_,_=>by simp at h
 | _::_,[],_,_,_,_,h,_=>by simp at h
 | p::P,w::vs,0,m,nd,h1,h2,hk=>by
   simp at h1 h2;subst h1;subst h2;show bindC kindOf ((p,w)::P.zip vs) m p=_;unfold bindC;rw[Wy fun v hv=>(qp3.mp nd).1 (qp2 hv).1,if_neg hk];simp
 | p::P,w::vs,i+1,m,nd,h1,h2,hk=>by
   show bindC kindOf ((p,w)::P.zip vs) m x=_;unfold bindC;exact Wz (i:=i) (qp3.mp nd).2 (by simpa using h1) (by simpa using h2) hk
noncomputable def start(N:List Str)(vs:List V):St:=vs.map some++List.replicate (N.length-vs.length) none
noncomputable def Vi(CX:eW)(P:Program)(w:World)(K:W.Frag)(mg:Str->Option Value)(base:Heap)(N:List Str)(qual:Str)(scope:Scope)(f:Addr)(cd:Value)(A:Around)(outer:List Env)(s:Shared)(H:Hp)(E:XK):Cx where
 prog:=P
 w:=w
 K:=K
 mg:=mg
 base:=base
 A:=A.deeper (envOfC qual scope s.heap.objs.size f cd)
 N:=N
 s₀:=s
 H₀:=H
 env:=envOfC qual scope s.heap.objs.size f cd
 outer:=outer
 stack:=envOfC qual scope s.heap.objs.size f cd::outer
 ex:=[]
 calm:=true
 fn:=fun _=>true
 pn:=[]
 xe:=fun e s'=>wpAny (model P w) (A.deeper (envOfC qual scope s.heap.objs.size f cd)) (leaving (envOfC qual scope s.heap.objs.size f cd) e) (fun _ s''=>CX outer H s E e s'') (fun e' s''=>CX outer H s E e' s'') s'
theorem l9{sc:Scope}{n:Nat}{x:Str}(h:sc.names.lookup x=some .cell):∃c,(cellsFrom n sc.names []).lookup x=some c:=by
 have q:=qo6 sc.names n [] (.inl h);exact Option.isSome_iff_exists.mp q
theorem Wh{CX:eW}{P:Program}{w:World}{K:W.Frag}{mg:Str->Option Value}{base:Heap}{N ps:List Str}{qual:Str}{scope:Scope}{f:Addr}{cd:Value}{A:Around}{outer:List Env}{s s1:Shared}{H:Hp}{E:XK}{us:List Value}{vs:List V}
 (S:FnScope N ps scope) (hd:A.handled=none) (e0:Vt P w K mg base A outer s H) (hl:vs.length=ps.length) (r:Cg vs us)
 (x:InCallC s s.heap.objs.size (bindL (envOfC qual scope s.heap.objs.size f cd).kindOf (ps.zip us) fun _=>none) (cellsFrom (s.heap.objs.size+1) scope.names []) (bindC (envOfC qual scope s.heap.objs.size f cd).kindOf (ps.zip us) fun _=>none) s1) :
 Bu (Vi CX P w K mg base N qual scope f cd A outer s H E) [] (start N vs) H s1:=by
 have hpl:ps.length<=N.length:=by have:=congrArg List.length S.pre;rw[qe3]at this;omega
 obtain⟨h1,tk,rfl,hk⟩:=x.done;have pC:∀b:Addr,b ∉ (Vi CX P w K mg base N qual scope f cd A outer s H E).ex:=fun b z=>absurd (show b∈([]:List Addr) from z) (by simp)
 refine⟨⟨e0.mod,S.kind,rfl,rfl,qa0 _,fun y z c h1 h2=>?_,fun y hy=>?_,fun y c _ h=>?_,fun _=>hd,Around.frames_deeper e0.frames,.inr ⟨rfl,rfl⟩,fun b z=>absurd z (pC b),e0.bs,e0.bsz,fun b _ _=>pC b,fun b z=>absurd z (pC b),e0.funs,e0.frf⟩,
  rfl,e0.bare,Un.kept hk,⟨_,x.toInCall.ns,fun i y v h1 h2 h3=>?_⟩,fun y c h=>⟨_,x.cell y c h⟩,e0.hok.fresh (qa0 _),fun y c h=>?_,fun p hp=>absurd (show p∈([]:LAObj) from hp) (by simp),e0.hok.kept hk,?_⟩
 . exact name_of_addr x.apart (qk2 h1) (qk2 h2)
 . have hy:scope.names.lookup y=some .cell\/scope.names.lookup y=some .free:=hy;rcases hy with hy | hy
   . exact l9 hy
   . exact absurd rfl (S.nofree _ (qk2 hy))
 . exact qc3 (x.above y c (qk2 h))
 . have hi:i<vs.length:=by
    unfold start at h2;by_cases hi:i<vs.length
    . exact hi
    . rw[qm8 (by simpa using hi)]at h2;rw[List.getElem?_replicate]at h2;split at h2<;>cases h2
   have ha:vs[i]?=some v:=by
    unfold start at h2;rw[qj8 (by simpa using hi),qb7]at h2;cases e:vs[i]? with
    | none=>rw[e]at h2;cases h2
    | some a=>rw[e]at h2;cases h2;rfl
   obtain⟨u,hu,rv⟩:=r.get ha
   have hp:ps[i]?=some y:=by
    rw[←S.pre,List.getElem?_take_of_lt (by omega)];exact h1
   have VA:ps.Nodup:=by rw[←S.pre];exact S.nd.sublist (List.take_sublist _ _)
   refine⟨u,rv,?_⟩;rcases S.par y (qe2 hp) with k | k
   . exact .inl ⟨k,Wx VA hp hu k⟩
   . obtain⟨c,e⟩:=l9 (n:=s.heap.objs.size+1) k;refine .inr ⟨.inl k,c,e,?_⟩;have q:=x.cell y c e;rw[Wz VA hp hu (by show scope.names.lookup y≠_;rw[k];decide)]at q;exact q
 . exact e0.hok.fresh (qc3 (x.above y c (qk2 h)))
 . unfold start;show _=N.length;rw[qe5,qa2,List.length_replicate];omega
theorem KZ{CX:eW}{P:Program}{w:World}{K:W.Frag}{mg:Str->Option Value}{base:Heap}{k:Nat}{f:Addr}{name qual:Str}{params:Arguments}{body:List Stmt}{scope:Scope}{dV kV doc pm Dk ct oc:Value}{an od:OAddr}
 {osl:Py}{N ps:List Str}{sp:Sp} (lk:K.lookup f=some ⟨oc,od,.func (W.fnOf name qual params body scope dV kV doc pm an Dk ct),osl⟩) (hcd:W.codeIn K Dk qual=true) (S:FnScope N ps scope)
 (len:∀vs H Q E,sp vs H Q E->vs.length=ps.length)
 (hbody:∀(A:Around) (outer:List Env) (s:Shared) (H:Hp) (vs:List V) (Q:VK) (E:XK),Eg k (A.deeper (envOfC qual scope s.heap.objs.size f Dk))->sp vs H Q E →
   ∃t,Zg (Vi CX P w K mg base N qual scope f Dk A outer s H E) body t/\t { nx:=fun _ H'=>Q .non H',rt:=Q } (start N vs) H) :
 Cj P w K mg base CX (k+1) f (W.fnOf name qual params body scope dV kV doc pm an Dk ct) ps sp:=by
 refine⟨len,fun A outer s H args us vs Q E hr e0 hb r g8=>?_⟩;have hl:=len _ _ _ _ g8;have KX:K.In s.heap:=e0.mod.kin.keeps fun b o e=>(e0.bs b o e).1;have lim:s.heap.NoLimit:=e0.mod.nolimit.keeps fun b o e=>(e0.bs b o e).1
 have hkind:∀y∈ps.zip us,scope.names.lookup y.1=some .local\/(scope.names.lookup y.1=some .cell/\((cellsFrom (s.heap.objs.size+1) scope.names []).lookup y.1).isSome=true):=fun⟨n,v⟩ hy=>by
  rcases S.par n (qp2 hy).1 with q | q
  . exact .inl q
  . exact .inr ⟨q,qo6 _ _ _ (.inl q)⟩
 refine codeAny_call_function hr.depth (KX _ _ lk) rfl S.co S.gen rfl (PySem.W.codeRec_of KX hcd) (hb _ _ _ _ ?_);refine wpAny_newFunctionEnv_cells S.kind hkind fun env he s1 x=>?_;subst he;refine⟨lim.keeps x.toInCall.keep,codeAny_func ?_⟩;obtain⟨t,ht,hq⟩:=hbody A outer s H vs Q E (hr.deeper _) g8;have I:Bu (Vi CX P w K mg base N qual scope f Dk A outer s H E) [] (start N vs) H s1:=Wh S hr.hd e0 hl r x;refine qg5 (ht [] s1 (start N vs) H _ I hq) (fun fl s' hs=>?_) fun e s' hs=>hs
 have fin:∀{σ':St}{H':Hp}{v:V}{u:Value},Bu (Vi CX P w K mg base N qual scope f Dk A outer s H E) [] σ' H' s'->RelV v u->Q v H'->CE outer P w H s Q u s' :=
  fun {σ' H' v u} J rv q=>⟨v,H',J.os,J.bare,J.base,J.hok,rv,q⟩
 cases fl with
 | ret u =>
   obtain⟨v,σ',H',J,rv,q⟩:=hs;exact fin J rv q
 | next =>
   obtain⟨σ',H',J,q⟩:=hs;exact fin (v:=V.non) (u:=Value.none) J rfl q
 | brk =>
   obtain⟨_,_,_,q⟩:=hs;exact False.elim q
 | cont =>
   obtain⟨_,_,_,q⟩:=hs;exact False.elim q
section
variable{X:Cx}{x:Str}{p pos:Pos}{e:Expr}{es:List Expr}{t:TA}{id T:String}{r:List V->Hp->VK->Prop}
noncomputable def uS(r:List V->Hp->VK->Prop)(t:TA):TE:=fun σ H Q=>t σ H fun vs H1=>r vs H1 Q
theorem Bc(hc:E7 X (.builtin id) r)(hm:X.mg x=none)(hv:bootBuiltins x=some (.builtin id))(ha:PA X (e::es) t)(hg:Gl X x:=by rfl)(hn:x≠"__name__":=by decide)(hdb:(x==("__debug__":Str))=false:=by decide)
 (he:starEach (e::es) X.env=(false,eval e X.env)::starEach es X.env:=by rfl) (hpl:(backTo pos (starEach es X.env)).any (·.1)=false:=by rfl):PE X (.Call (.Name x p) (e::es) [] pos) (uS r t):=by
 intro Ab s σ H Q I h;refine qi1 (Kv I hg hm hv ?_ hn hdb);exact PyProof.Rows.callWith_builtin1 (Ed (ha pos Ab s σ H _ I h) fun us s1 ⟨vs,H1,I1,r1,q1⟩=>hc Ab s1 σ H1 vs us Q I1 r1 q1) he hpl
theorem D5(hc:E7 X (.type T) r)(hg:Gl X x)(hm:X.mg x=none)(hv:bootBuiltins x=some (.type T))(ha:PA X (e::es) t)(hn:x≠"__name__":=by decide)(hdb:(x==("__debug__":Str))=false:=by decide)
 (he:starEach (e::es) X.env=(false,eval e X.env)::starEach es X.env:=by rfl) (hpl:(backTo pos (starEach es X.env)).any (·.1)=false:=by rfl):PE X (.Call (.Name x p) (e::es) [] pos) (uS r t):=by
 intro Ab s σ H Q I h;refine qi1 (Kv I hg hm hv ?_ hn hdb);exact qf1 (Ed (ha pos Ab s σ H _ I h) fun us s1 ⟨vs,H1,I1,r1,q1⟩=>hc Ab s1 σ H1 vs us Q I1 r1 q1) he hpl
end
end L2
namespace HT
open PySem PyProof.Rows
section
open PySem.SeqAt
open PySem.AutoSeq1 (wpAny_loadPart')
open PySem.MeetsSeq PySem.MeetsSeq2 PySem.MeetsSeq3
end
section
variable{prog:Program}{w:World}{A:Around}{E:Value->Shared->Prop}{s:Shared}
noncomputable def sIx(n d:Nat):Option Int->Nat
 | none=>d
 | some v=>if v<0 then(v+(n:Int)).toNat else min v.toNat n
theorem sIx_none(n d:Nat):sIx n d none=d:=rfl
theorem sIx_nat(n d k:Nat):sIx n d (some (k:Int))=min k n:=by
 show(if (k:Int)<0 then((k:Int)+(n:Int)).toNat else min (k:Int).toNat n)=min k n;rw[if_neg (by omega),qe4]
end
end HT
namespace L2
open PySem PySem.Spec PyProof.Rows
noncomputable abbrev TO:=St->Hp->(Option Int->Hp->Prop)->Prop
noncomputable def PO(X:Cx)(e:Option Expr)(t:TO):Prop :=
 ∀(Ab:LAObj) (s:Shared) (σ:St) (H:Hp) (Q:Option Int->Hp->Prop),Bu X Ab σ H s->t σ H Q →
   wpAny (model X.prog X.w) X.A (evalPart e X.env) (fun u s'=>∃o H',Bu X Ab σ H' s'/\IsPart u o/\Q o H') X.xe s
noncomputable def IF:TO:=fun _ H Q=>Q none H
noncomputable def oJ(t:TE):TO:=fun σ H Q=>t σ H fun x H1=>∃i,x=.int i/\Q (some i) H1
section
variable{X:Cx}{e:Expr}{te:TE}{lo hi:Option Expr}{tl th:TO}{pos p2:Pos}
theorem Iw:PO X none IF:=by
 intro Ab s σ H Q I h;rw[evalPart_none];exact qd3 ⟨none,H,I,.none,h⟩
theorem Iv(h:PE X e te):PO X (some e) (oJ te):=by
 intro Ab s σ H Q I hw;rw[evalPart_some];refine Ed (h Ab s σ H _ I hw) fun u s1 _z=>?_;obtain⟨x,H1,I1,r1,q1⟩:=_z;obtain⟨i,rfl,q⟩:=q1;obtain⟨t,rfl⟩:=r1;exact⟨some i,H1,I1,.int i t,q⟩
noncomputable def UJ(X:Cx)(r:V->Option Int->Option Int->Hp->VK->Prop):Prop :=
 ∀(Ab:LAObj) (s:Shared) (σ:St) (H:Hp) (x:V) (v vl vu:Value) (lo hi:Option Int) (sl:Addr) (Q:VK),Bu X Ab σ H s->RelV x v->s.heap.IsSliceOf sl vl vu .none->IsPart vl lo->IsPart vu hi->r x lo hi H Q →
   ∃T id,typeLookup (.type T) "__getitem__"=pure (some (.builtin id))/\s.TypeIs v T/\wpAny (model X.prog X.w) X.A (getItem v (.ref sl)) (EP X Ab σ Q) X.xe s
noncomputable def WK(r:V->Option Int->Option Int->Hp->VK->Prop)(te:TE)(tl th:TO):TE:=fun σ H Q=>te σ H fun x H1=>tl σ H1 fun l H2=>th σ H2 fun u H3=>r x l u H3 Q
theorem Gu{r:V->Option Int->Option Int->Hp->VK->Prop}(hr:UJ X r)(he:PE X e te)(hl:PO X lo tl)(hu:PO X hi th):PE X (.Subscript e (.Slice lo hi none p2) pos) (WK r te tl th):=by
 intro Ab s σ H Q I h;refine Subscript_ (Ed (he Ab s σ H _ I h) fun v s1 _z=>?_);obtain⟨x,H1,I1,r1,q1⟩:=_z;refine wpAny_Slice (Ed (hl Ab s1 σ H1 _ I1 q1) fun vl s2 ⟨l,H2,I2,pl,q2⟩=>Ed (hu Ab s2 σ H2 _ I2 q2) fun vu s3 _z=>?_);obtain⟨u,H3,I3,pu,q3⟩:=_z;rw[evalPart_none];refine qd3 ?_;have I4:Bu X Ab σ H3 { s3 with heap:=s3.heap.push { cls:=.type "slice",data:=.fields #[vl,vu,.none] } }:=I3.kept (t':=s3.toks) fun b ob q=>qa3 _ q;obtain⟨T,id,hT,ht,hg⟩:=hr Ab { s3 with heap:=s3.heap.push { cls:=.type "slice",data:=.fields #[vl,vu,.none] } } σ H3 x v vl vu l u s3.heap.objs.size Q I4 r1 (Heap.IsSliceOf.new ..) pl pu q3;show wpAny (model X.prog X.w) X.A (subscriptTail e (.Slice lo hi none p2) v (.ref s3.heap.objs.size)) (EP X Ab σ Q) X.xe { s3 with heap:=s3.heap.push { cls:=.type "slice",data:=.fields #[vl,vu,.none] } };exact tail_any (ops:=[.ref s3.heap.objs.size,v]) ht hT hg (by with_unfolding_all rfl)
noncomputable def cutV(xs:List V)(lo hi:Option Int):List V:=(xs.drop (HT.sIx xs.length 0 lo)).take (HT.sIx xs.length xs.length hi-HT.sIx xs.length 0 lo)
theorem l0(xs:List V)(lo hi:Option Int):(cutV xs lo hi).length<=xs.length:=by
 unfold cutV;rw[qe3,qh7];omega
end
noncomputable def jN(n:Nat)(i:Int):Option Nat:=if 0<=i then(if i<n then some i.toNat else none) else if -(n:Int)<=i then some (i+n).toNat else none
noncomputable def eU{α:Type}(xs:List α)(i:Int):Option α:=(jN xs.length i).bind fun j=>xs[j]?
theorem BN{n:Nat}{i:Int}{j:Nat}(h:jN n i=some j):seqIndex? i n=some j/\j<n/\-(n:Int)<=i/\i<n:=by
 unfold jN at h;by_cases h0:0<=i
 . rw[if_pos h0]at h;by_cases h1:i<n
   . rw[if_pos h1]at h;have e:i.toNat=j:=qd7 h;exact⟨by rw[seqIndex_of h0 h1,e],O9m,O9m,h1⟩
   . rw[if_neg h1]at h;cases h
 . rw[if_neg h0]at h;by_cases h1:-(n:Int)<=i
   . rw[if_pos h1]at h;have e:(i+n).toNat=j:=qd7 h;exact⟨by rw[seqIndex_neg (by omega) h1,e],O9m,h1,O9m⟩
   . rw[if_neg h1]at h;cases h
theorem BZ{α:Type}{xs:List α}{i:Int}{v:α}(h:eU xs i=some v):∃j,seqIndex? i xs.length=some j/\xs[j]?=some v/\j<xs.length/\-(xs.length:Int)<=i/\i<xs.length:=by
 unfold eU at h;cases e:jN xs.length i with
 | none=>rw[e]at h;cases h
 | some j =>
   rw[e]at h;obtain⟨h1,h2,h3,h4⟩:=BN e;exact⟨j,h1,h,h2,h3,h4⟩
theorem B5{α:Type}{xs:List α}{j:Nat}{v:α}(h:xs[j]?=some v):eU xs (j:Int)=some v:=by
 have hj:j<xs.length:=(qb2.mp h).1
 have e:jN xs.length (j:Int)=some j:=by
  unfold jN;rw[if_pos (by omega),if_pos (by omega)];simp
 unfold eU;rw[e];exact h
noncomputable def Zf(b:Expr):Prop:=∀o i,subscripted b false o i=operate [o,i] (getItem o i)
noncomputable def qM(X:Cx)(r:R2):Prop :=
 ∀(value slice:Expr) (Ab:LAObj) (s:Shared) (σ:St) (H:Hp) (x y:V) (v u:Value) (Q:VK),Bu X Ab σ H s->RelV x v->RelV y u->r x y H Q →
   subscripted slice false v u=operate [v,u] (getItem v u)->wpAny (model X.prog X.w) X.A (subscriptTail value slice v u) (EP X Ab σ Q) X.xe s
noncomputable def wC(X:Cx)(id:String)(r:V->List V->Hp->VK->Prop):Prop :=
 ∀(Ab:LAObj) (s:Shared) (σ:St) (H:Hp) (x:V) (xs:List V) (v:Value) (us:List Value) (Q:VK),Bu X Ab σ H s->RelV x v->Cg xs us->r x xs H Q →
   wpAny (model X.prog X.w) X.A (call (.builtin id) (v::us)) (EP X Ab σ Q) X.xe s
section
variable{X:Cx}{a b:Expr}{ta tb:TE}{pos:Pos}
theorem Bv{r:R2}(hr:qM X r)(ha:PE X a ta)(hb:PE X b tb)(hs:Zf b):PE X (.Subscript a b pos) (lQ r ta tb):=by
 intro Ab s σ H Q I h;exact Subscript_ (ND ha hb I h fun v u s2 x y H2 I2 rx ry q=>hr a b Ab s2 σ H2 x y v u Q I2 rx ry q (hs _ _))
noncomputable def oU(K:W.Frag):R2:=fun x y H Q=>∃p xs i v,x=.ref p/\y=.int i/\SqL K H p xs/\eU xs i=some v/\Q v H
noncomputable def iP(K:W.Frag):R2:=fun x y H Q=>∃p xs i v,x=.ref p/\y=.int i/\Fe K H p xs/\eU xs i=some v/\Q v H
theorem JM:qM X (oU X.K):=by
 intro value slice Ab s σ H x y v u Q I rx ry h hs;obtain⟨p,xs,i,z,rfl,rfl,hq,he,q⟩:=h;cases rx;obtain⟨t,rfl⟩:=ry;obtain⟨its,r,pl,hz⟩:=I.list hq;obtain⟨j,h1,h2,h3,h4,h5⟩:=BZ he;obtain⟨w,ew,rw'⟩:=r.get h2;have hl:=r.length;have hn:=X3;have fin:EP X Ab σ Q w s:=⟨z,H,I,rw',q⟩
 by_cases h0:0<=i
 . have hj:i.toNat=j:=by
    rw[seqIndex_of h0 h5]at h1;exact qd7 h1
   exact item_listR pl.isList h0 O9m (by rw[hj];simpa using ew) fin hs
 . have hj:(i+(its.toArray.size:Int)).toNat=j:=by
    rw[seqIndex_neg (by omega) h4]at h1;rw[qb3,←hl];exact qd7 h1
   exact subscriptTail_builtinR (x:=w) pl.isList.typeIs slot_list_getitem.lookup
    (wpAny_getItem_list_neg (Q:=fun r s'=>r=w/\EP X Ab σ Q r s') pl.isList O9m (by rw[qb3]<;>omega) O9m (by rw[hj];simpa using ew) ⟨rfl,fin⟩) hs
theorem MO:qM X (iP X.K):=by
 intro value slice Ab s σ H x y v u Q I rx ry h hs;obtain⟨p,xs,i,z,rfl,rfl,hq,he,q⟩:=h;cases rx;obtain⟨t,rfl⟩:=ry;obtain⟨its,r,pl,hz⟩:=I.tuple hq;obtain⟨j,h1,h2,h3,h4,h5⟩:=BZ he;obtain⟨w,ew,rw'⟩:=r.get h2;have hl:=r.length;have hn:=X3;have fin:EP X Ab σ Q w s:=⟨z,H,I,rw',q⟩
 exact subscriptTail_builtinR (x:=w) pl.typeIs slot_tuple_getitem.lookup
  (getItem_tuple (j:=j) (Q:=fun r s'=>r=w/\EP X Ab σ Q r s') pl O9m O9m (by rw[qb3,←hl];exact h1) (by simpa using ew) ⟨rfl,fin⟩) hs
theorem z7(its:List Value)(n j:Nat)(u:Value):Obj.mapSeq (·.setIfInBounds j u) { cls:=.type "list",data:=.seq its.toArray n }={ cls:=.type "list",data:=.seq (its.set j u).toArray n }:=by
 simp[Obj.mapSeq]
theorem Bu.lst{Ab:LAObj}{σ:St}{H:Hp}{s:Shared}{p:Addr}{xs:List V}(I:Bu X Ab σ H s)(h:H p=some (.lst xs)) :
 ∃(its:List Value) (n:Nat),Cg xs its/\s.heap.get? p=some { cls:=.type "list",data:=.seq its.toArray n }/\xs.length<=sizeLine:=by
 obtain⟨z,its,n,r,e⟩:=I.hok p _ h;exact⟨its,n,r,e,z⟩
theorem Bu.lstUpd{Ab:LAObj}{σ:St}{H:Hp}{s:Shared}{p:Addr}{xs ys:List V}{its its':List Value}{n n':Nat}{f:Obj->Obj}(I:Bu X Ab σ H s)(h:H p=some (.lst xs))
 (ho:s.heap.get? p=some { cls:=.type "list",data:=.seq its.toArray n }) (hf:f { cls:=.type "list",data:=.seq its.toArray n }={ cls:=.type "list",data:=.seq its'.toArray n' }) (r:Cg ys its') (hz:ys.length<=sizeLine) (t:Nat) :
 Bu X Ab σ (upd H p (.lst ys)) { s with heap:=s.heap.update p f,toks:=t }:=by
 have e:(s.heap.update p f).get? p=some { cls:=.type "list",data:=.seq its'.toArray n' }:=by
  rw[qr3 f ho (by rw[hf]<;>rfl),hf]
 refine I.write (x:=p) (e:=p) (by rw[h];trivial) (.inl rfl) (fun b u hb q=>(qq9 _ _ (Ne.symm hb)).trans q) ⟨_,e⟩ ?_;exact⟨hz,its',n',r,e⟩
noncomputable def OS:V->V->V->Hp->(Hp->Prop)->Prop:=fun o i v H Q=>∃p xs k j,o=.ref p/\i=.int k/\H p=some (.lst xs)/\jN xs.length k=some j/\Q (upd H p (.lst (xs.set j v)))
theorem Ff:QK X OS:=by
 intro Ab s σ H o i v ov iv u Q I ro ri rv h;obtain⟨p,xs,k,j,rfl,rfl,hp,hj,q⟩:=h;cases ro;obtain⟨t,rfl⟩:=ri;obtain⟨its,n,r,ho,hz⟩:=I.lst hp;obtain⟨h1,h2,h3,h4⟩:=BN hj;have hl:=r.length;have hn:=X3
 have I':Bu X Ab σ (upd H p (.lst (xs.set j v))) { s with heap:=s.heap.update p (Obj.mapSeq (·.setIfInBounds j u)) } :=
  I.lstUpd hp ho (z7 its n j u) (r.set rv j) (by rw[qi2];exact hz) s.toks
 by_cases h0:0<=k
 . have hk:k.toNat=j:=by
    rw[seqIndex_of h0 h4]at h1;exact qd7 h1
   exact PySem.W.ki_setAt ho h0 O9m (by rw[qb3,←hl];exact h4) (by rw[hk];exact⟨_,I',q⟩)
 . have hk:(k+(its.toArray.size:Int)).toNat=j:=by
    rw[seqIndex_neg (by omega) h3]at h1;rw[qb3,←hl];exact qd7 h1
   exact PySem.W.ki_setBack ho O9m (by rw[qb3,←hl];exact h3) O9m (by rw[hk];exact⟨_,I',q⟩)
theorem Xa(lo hi:Option Int)(n:Nat):(sliceBounds lo hi none n).1=((HT.sIx n 0 lo:Nat):Int)/\(sliceBounds lo hi none n).2.1=((HT.sIx n n hi:Nat):Int)/\(sliceBounds lo hi none n).2.2=1:=by
 refine⟨?_,?_,rfl⟩
 . cases lo with
   | none=>simp[sliceBounds,HT.sIx]
   | some i =>
     simp only[sliceBounds,HT.sIx,Option.getD_none,show(1:Int) > 0 by decide,if_true];by_cases h:i<0
     . simp only[h,if_true]<;>omega
     . simp only[h,if_false]<;>omega
 . cases hi with
   | none=>simp[sliceBounds,HT.sIx]
   | some i =>
     simp only[sliceBounds,HT.sIx,Option.getD_none,show(1:Int) > 0 by decide,if_true];by_cases h:i<0
     . simp only[h,if_true]<;>omega
     . simp only[h,if_false]<;>omega
theorem Uv(its:List Value)(lo hi:Option Int):slicePick its.toArray lo hi none=((its.drop (HT.sIx its.length 0 lo)).take (HT.sIx its.length its.length hi-HT.sIx its.length 0 lo)).toArray:=by
 obtain⟨h1,h2,h3⟩:=Xa lo hi its.toArray.size;unfold slicePick;rw[h1,h2,h3];simp only[sliceRange_one,pick_run,qb3]<;>rfl
noncomputable def oS(K:W.Frag):V->Option Int->Option Int->Hp->VK->Prop:=fun x lo hi H Q=>∃a xs,x=.ref a/\SqL K H a xs/\∀p,H p=none->Q (.ref p) (upd H p (.lst (cutV xs lo hi)))
theorem II:UJ X (oS X.K):=by
 intro Ab s σ H x v vl vu lo hi sl Q I rx hs pl pu h;obtain⟨a,xs,rfl,hx,q⟩:=h;cases rx;obtain⟨its,r,ht,hz⟩:=I.list hx;have hlen:=r.length;refine⟨"list",_,slot_list_getitem.lookup,ht.isList.typeIs,?_⟩;refine wpAny_getItem_list_slice ht.isList hs pl pu .none (by simp) ?_ (by rw[qb3]<;>omega);rw[Uv,←hlen];refine⟨.ref s.heap.objs.size,_,I.laid (t':=s.toks) (o:=.lst (cutV xs lo hi)) (fun b ob q=>qa3 _ q) (qa0 _) ?_,rfl,q _ (I.hok.fresh (qa0 _))⟩;exact⟨qa1 (l0 xs lo hi) hz,_,0,(r.drop (HT.sIx xs.length 0 lo)).take (HT.sIx xs.length xs.length hi-HT.sIx xs.length 0 lo),qb5 _ rfl⟩
theorem Y2:E7 X (.builtin "len") (fun xs H Q=>∃p ys,xs=[.ref p]/\(SqL X.K H p ys\/Fe X.K H p ys)/\Q (.int ys.length) H):=by
 intro Ab s σ H xs us Q I r h;obtain⟨p,ys,rfl,hq,q⟩:=h;obtain⟨u,rfl,rx⟩:=Om r;cases rx;have hn:=X3;rcases hq with hq | hq
 . obtain⟨its,r',pl,hz⟩:=I.list hq;have hlen:=r'.length;exact Calls.call_len_list pl.isList (by simp only[qb3]<;>omega) ⟨.int ys.length,H,I.tok _,⟨s.toks+1,by rw[qb3,hlen]⟩,q⟩
 . obtain⟨its,r',pl,hz⟩:=I.tuple hq;have hlen:=r'.length;exact len_tuple pl (by simp only[qb3]<;>omega) ⟨.int ys.length,H,I.tok _,⟨s.toks+1,by rw[qb3,hlen]⟩,q⟩
theorem Y1:E7 X (.type "list") (fun xs H Q=>∃p ys,xs=[.ref p]/\(SqL X.K H p ys\/Fe X.K H p ys)/\∀l,H l=none->Q (.ref l) (upd H l (.lst ys))):=by
 intro Ab s σ H xs us Q I r h;obtain⟨p,ys,rfl,hq,q⟩:=h;obtain⟨u,rfl,rx⟩:=Om r;cases rx
 have fin:∀(its:List Value),Cg ys its->ys.length<=sizeLine->∀(h':Heap) (c':Nat),(∀b o',s.heap.get? b=some o'->h'.get? b=some o') →
  h'.get? s.heap.objs.size=some { cls:=.type "list",dict:=none,data:=.seq its.toArray c',slots:=#[] }->EP X Ab σ Q (.ref s.heap.objs.size) { s with heap:=h' }:=fun its r' hz h' c' kp e =>
  ⟨.ref s.heap.objs.size,_,I.laid (t':=s.toks) kp (qa0 _) (show ObjOk X.prog X.w _ h' _ (.lst ys) from⟨hz,its,c',r',e⟩),rfl,q _ (I.hok.fresh (qa0 _))⟩
 rcases hq with hq | hq
 . obtain⟨its,r',pl,hz⟩:=I.list hq;have hlen:=r'.length;obtain⟨o,ho,hc,n,hd⟩:=pl.isList;exact call_list_seq p (.inl rfl) ho hc hd (fun h' c' kp e=>fin its r' hz h' c' kp e) (by simp only[qb3]<;>omega)
 . obtain⟨its,r',pl,hz⟩:=I.tuple hq;have hlen:=r'.length;obtain⟨o,ho,hc,n,hd⟩:=pl;exact call_list_seq p (.inr rfl) ho hc hd (fun h' c' kp e=>fin its r' hz h' c' kp e) (by simp only[qb3]<;>omega)
theorem Vl:E7 X (.type "tuple") (fun xs H Q=>∃p ys,xs=[.ref p]/\((SqL X.K H p ys/\∀l,H l=none->Q (.ref l) (upd H l (.tup ys)))\/(Fe X.K H p ys/\Q (.ref p) H))):=by
 intro Ab s σ H xs us Q I r h;obtain⟨p,ys,rfl,h⟩:=h;obtain⟨u,rfl,rx⟩:=Om r;cases rx;rcases h with⟨hq,q⟩|⟨hq,q⟩
 . obtain⟨its,r',pl,hz⟩:=I.list hq;have hlen:=r'.length;refine call_tuple_list pl.isList (fun h' kp=>?_) (by simp only[qb3]<;>omega);have I1:Bu X Ab σ H { s with heap:=h' }:=I.kept (t':=s.toks) kp
   have I2:Bu X Ab σ (upd H h'.objs.size (.tup ys)) { s with heap:=h'.push { cls:=.type "tuple",data:=.seq its.toArray } } :=
    I1.laid (t':=s.toks) (fun b o e=>qa3 _ e) (qa0 _) (show ObjOk X.prog X.w _ _ _ (.tup ys) from⟨hz,its,r',Mi.new _ _⟩)
   exact⟨.ref h'.objs.size,_,I2,rfl,q _ (I1.hok.fresh (qa0 _))⟩
 . obtain⟨its,r',pl,hz⟩:=I.tuple hq;exact call_tuple_same pl ⟨.ref p,H,I,rfl,q⟩
noncomputable def uQ(K:W.Frag)(T:String)(x:V)(H:Hp):Prop:=match x with
 | .str _=>T="str"
 | .int _=>T="int"
 | .ref p=>(T="list"/\∃xs,SqL K H p xs)\/(T="tuple"/\∃o,K.lookup p=some o/\o.cls=.type "tuple"/\o.dict=none) ∨
    (T="dict"/\((∃kvs,H p=some (.dK kvs))\/∃kvs,H p=some (.dT kvs)))\/(T="set"/\∃S n,H p=some (.set S n))
 | _=>False
theorem lN{Ab:LAObj}{σ:St}{H:Hp}{s:Shared}{T:String}{x:V}{v:Value}(I:Bu X Ab σ H s)(r:RelV x v)(ty:uQ X.K T x H) :
 s.TypeIs v T/\∀a,v=.ref a->∃ob,s.heap.get? a=some ob/\ob.dict=none:=by
 cases x with
 | str z =>
   obtain⟨t,rfl⟩:=r;cases (show T="str" from ty);exact⟨typeIs_str s z t,fun _ e=>nomatch e⟩
 | int i =>
   obtain⟨t,rfl⟩:=r;cases (show T="int" from ty);exact⟨typeIs_int s i t,fun _ e=>nomatch e⟩
 | ref p =>
   cases r;rcases ty with⟨rfl,xs,hq⟩|⟨rfl,o,hk,hc,hd⟩|⟨rfl,hk⟩|⟨rfl,S,n,hk⟩
   . obtain⟨its,_,pl,_⟩:=I.list hq;refine⟨pl.isList.typeIs,fun a e=>?_⟩;cases e;obtain⟨o,n,e,c,hd,_⟩:=pl;exact⟨o,e,hd⟩
   . refine⟨⟨o,I.kIn p o hk,hc⟩,fun a e=>?_⟩;cases e;exact⟨o,I.kIn _ o hk,hd⟩
   . have z:∃o,s.heap.get? p=some o/\o.ExactDict:=by
      rcases hk with⟨kvs,hk⟩|⟨kvs,hk⟩
      . obtain⟨_,_,_,_,o,_,_,e,ex,_⟩:=I.hok p _ hk;exact⟨o,e,ex⟩
      . obtain⟨_,_,_,_,o,_,_,e,ex,_⟩:=I.hok p _ hk;exact⟨o,e,ex⟩
     obtain⟨o,e,ex⟩:=z;refine⟨⟨o,e,ex.1⟩,fun a e2=>?_⟩;cases e2;exact⟨o,e,ex.2.1⟩
   . obtain⟨o,_,_,_,e,ex,_⟩:=I.hok p _ hk;refine⟨⟨o,e,ex.1⟩,fun a e2=>?_⟩;cases e2;exact⟨o,e,ex.2.1⟩
 | _=>exact False.elim ty
noncomputable def US(K:W.Frag)(T:String)(r:V->List V->Hp->VK->Prop)(to:TE)(t:TA):TE:=fun σ H Q=>to σ H fun x H1=>uQ K T x H1/\t σ H1 fun xs H2=>r x xs H2 Q
variable{o e:Expr}{es:List Expr}{to:TE}{t:TA}{name:Str}{apos cpos:Pos}{T id:String}{r:V->List V->Hp->VK->Prop}
theorem oW(pa:PlainAttrs T)(slot:Slot T name id)(hty:typeOf (.builtin id)=pure (.type "method_descriptor"))(hm:wC X id r)(ho:PE X o to)(ha:PA X (e::es) t)
 (hbase:attributeBase o name X.env (eval o X.env)=eval o X.env:=by rfl)
 (hfew:((backTo cpos (starEach (e::es) X.env)).all (fun x=>!x.1)&&(backToKw cpos (keywordEach [] X.env)).all (fun x=>x.1.isSome)
   && decide ((e::es).length+([]:List Keyword).length+(if ([]:List Keyword).isEmpty then 0 else 1)<30))=true:=by rfl)
 (hline:(apos.endLine==cpos.line)=true:=by rfl) (hs:starEach (e::es) X.env=(false,eval e X.env)::starEach es X.env:=by rfl) (hplain:(backTo cpos (starEach es X.env)).any (·.1)=false:=by rfl) :
 PE X (.Call (.Attribute o name apos) (e::es) [] cpos) (US X.K T r to t):=by
 intro Ab s σ H Q I h;refine wpAny_Call_method_late hbase hfew hline rfl (Ed (ho Ab s σ H _ I h) fun v s1 _z=>?_);obtain⟨x,H1,I1,r1,ty,q1⟩:=_z;obtain⟨h1,h2⟩:=lN I1 r1 ty;refine⟨T,id,pa,slot,hty,h1,h2,?_⟩;have hA:=ha cpos Ab s1 σ H1 _ I1 q1;rw[hs]at hA ⊢;refine Calls.callWith_builtin (by show(false || (backTo cpos (starEach es X.env)).any (·.1))=false;rw[hplain]<;>rfl) (Calls.evalArgs_plain ?_);exact Ed hA fun us s2 ⟨vs,H2,I2,r2,q2⟩=>hm Ab s2 σ H2 x vs v us Q I2 r1 r2 q2
end
noncomputable def UL(X:Cx)(id:String)(r:V->List V->Hp->VK->Prop):Prop :=
 ∀(Ab:LAObj) (s:Shared) (σ:St) (H:Hp) (x:V) (xs:List V) (v:Value) (us:List Value) (Q:VK),Bu X Ab σ H s->RelV x v->Cg xs us->r x xs H Q →
   wpAny (model X.prog X.w) X.A (call (.builtin id) (v::us)) (EP X Ab σ Q) X.xe s
theorem Cg.one:∀{x:V}{us:List Value},Cg [x] us->∃u,us=[u]/\RelV x u
 | _,_,.cons r .nil=>⟨_,rfl,r⟩
theorem Cg.eraseIdx:∀{xs:List V}{us:List Value} (i:Nat),Cg xs us->Cg (xs.eraseIdx i) (us.eraseIdx i)
 | _,_,_,.nil=>.nil
 | _,_,0,.cons _ t=>t
 | _,_,i+1,.cons r t=>.cons r (Cg.eraseIdx i t)
theorem Cg.rep{xs:List V}{us:List Value}(h:Cg xs us):∀k:Nat,Cg (List.replicate k xs).flatten (List.replicate k us).flatten
 | 0=>.nil
 | k+1=>by
   rw[qh3,qh3,qj3,qj3];exact Cg.append h (Cg.rep h k)
theorem Wf{α:Type}:∀(l:List α) (i:Nat),(l.eraseIdx i).length<=l.length
 | [],_=>qa0 _
 | _::_,0=>qk3 _
 | _::r,i+1=>qg2 (Wf r i)
theorem Wp(its:List Value):∀(k:Nat) (acc:List Value),
 List.foldl (fun x1 x2=>x1++x2) acc.toArray (List.replicate k its.toArray)=(acc++(List.replicate k its).flatten).toArray
 | 0,acc=>by simp
 | k+1,acc=>by
   have e:acc.toArray++its.toArray=(acc++its).toArray:=by simp
   have e2:(acc++its)++(List.replicate k its).flatten=acc++(List.replicate (k+1) its).flatten:=by
    rw[qh3,qj3,qo1]
   rw[←e2,←Wp its k (acc++its),←e,qh3,List.foldl_cons]
section
variable{X:Cx}{Ab:LAObj}{σ:St}{H:Hp}{s:Shared}{l b:Addr}{xs ys zs:List V}
theorem Bu.lset{its its':List Value}{n:Nat}{f:Array Value->Array Value}{t':Nat}(I:Bu X Ab σ H s)(hH:H l=some (.lst xs))
 (e:s.heap.get? l=some { cls:=.type "list",data:=.seq its.toArray n }) (hf:f its.toArray=its'.toArray) (hv:Cg ys its') (hz:ys.length<=sizeLine) :
 Bu X Ab σ (upd H l (.lst ys)) { s with heap:=s.heap.update l (Obj.mapSeq f),toks:=t' }:=by
 have q:=PySem.IsL.update e f;rw[hf]at q;refine I.write (x:=l) (e:=l) (by rw[hH];exact trivial) (.inl rfl) (fun b' u hb hu=>(qq9 s.heap (Obj.mapSeq f) (Ne.symm hb)).trans hu) ⟨_,q⟩ ?_;exact⟨hz,its',_,hv,q⟩
theorem Bu.lnew{its:List Value}{t':Nat}(I:Bu X Ab σ H s)(hv:Cg ys its)(hz:ys.length<=sizeLine) :
 Bu X Ab σ (upd H s.heap.objs.size (.lst ys)) { s with heap:=s.heap.push { cls:=.type "list",data:=.seq its.toArray },toks:=t' } :=
 I.laid (fun _ _ q=>qa3 _ q) (qa0 _) ⟨hz,its,0,hv,qb5 _ rfl⟩
theorem Bu.fresh(I:Bu X Ab σ H s):H s.heap.objs.size=none:=I.hok.fresh (qa0 _)
theorem Bu.lstM(I:Bu X Ab σ H s)(hH:H l=some (.lst xs)):xs.length<=sizeLine/\∃(its:List Value) (n:Nat),Cg xs its/\xs.length=its.length/\s.heap.get? l=some { cls:=.type "list",data:=.seq its.toArray n }:=by
 obtain⟨z,its,n,r,e⟩:=I.hok l _ hH;exact⟨z,its,n,r,r.length,e⟩
theorem FW{n:Nat}(h:n<=sizeLine):Builtin.List.listTooLong n=false:=by
 unfold Builtin.List.listTooLong;exact qf0 O9m
end
section
variable{X:Cx}
noncomputable def iQ:V->List V->Hp->VK->Prop:=fun x vs H Q=>∃l xs y,x=.ref l/\vs=[y]/\H l=some (.lst xs)/\xs.length<sizeLine/\Q .non (upd H l (.lst (xs++[y])))
theorem Mp:UL X "list.append" iQ:=by
 intro Ab s σ H x vs v us Q I rx rv h;obtain⟨l,xs,y,rfl,rfl,hH,hz,q⟩:=h;cases rx;obtain⟨u,rfl,ru⟩:=rv.one;obtain⟨z,its,n,r,hl,e⟩:=I.lstM hH;refine call_meets F.slot_list_append ⟨_,e,rfl⟩ F.entry_list_append (F.args_list_append_2 _ _) (PySem.list_append l its.toArray n u (by rw[qb3];omega)) ⟨e,?_⟩;refine⟨.non,_,I.lset (its':=its++[u]) hH e (by simp) (r.append (.cons ru .nil)) ?_,rfl,q⟩;rw[qe5,List.length_singleton];omega
noncomputable def LV:V->List V->Hp->VK->Prop:=fun x vs H Q=>∃l xs i k y,x=.ref l/\vs=[.int i]/\H l=some (.lst xs)/\-(2 ^ 63)<=i/\i<2 ^ 63/\seqIndex? i xs.length=some k/\xs[k]?=some y/\Q y (upd H l (.lst (xs.eraseIdx k)))
theorem c7:UL X "list.pop" LV:=by
 intro Ab s σ H x vs v us Q I rx rv h;obtain⟨l,xs,i,k,y,rfl,rfl,hH,h1,h2,hk,hy,q⟩:=h;cases rx;obtain⟨u,rfl,ru⟩:=rv.one;obtain⟨t,rfl⟩:=ru;obtain⟨z,its,n,r,hl,e⟩:=I.lstM hH;obtain⟨w,hw,rw'⟩:=r.get hy
 refine call_meets F.slot_list_pop ⟨_,e,rfl⟩ F.entry_list_pop (F.args_list_pop_2 _ _)
  (MeetsSeq.list_pop_at l its.toArray n i t k w (fitsIndex_both h1 h2) (by rw[qb3,←hl];exact hk) (by rw[←Array.getElem?_toList];exact hw) (by rw[qb3];omega)) ⟨e,?_⟩
 refine⟨y,_,I.lset (its':=its.eraseIdx k) hH e ?_ (r.eraseIdx k) ?_,rw',q⟩
 . show its.toArray.eraseIdxIfInBounds k=(its.eraseIdx k).toArray;rw[List.eraseIdxIfInBounds_toArray]
 . have:=Wf xs k;omega
noncomputable def sD:R2:=fun x y H Q=>∃l k xs,x=.ref l/\y=.int k/\H l=some (.lst xs)/\-(2 ^ 63)<=k/\k<2 ^ 63/\xs.length*k.toNat<=sizeLine ∧
 ∀p,H p=none->Q (.ref p) (upd H p (.lst (List.replicate k.toNat xs).flatten))
theorem jJ{α:Type}(xs:List α)(k:Nat):(List.replicate k xs).flatten.length=k*xs.length:=by
 induction k with
 | zero=>simp
 | succ k ih=>rw[qh3,qj3,qe5,ih,Nat.succ_mul,Nat.add_comm]
theorem mC:Pr X (binaryOp .Mult) sD:=by
 intro Ab s σ H x y v u Q I rx ry h;obtain⟨l,k,xs,rfl,rfl,hH,h1,h2,hz,q⟩:=h;cases rx;obtain⟨t,rfl⟩:=ry;obtain⟨z,its,n,r,hl,e⟩:=I.lstM hH;have hlen:its.toArray.size*k.toNat<=sizeLine:=by rw[qb3,←hl];exact hz
 have hcap:¬its.toArray.size*k.toNat > (2 ^ 63-1) / 8:=by
  have:(sizeLine:Nat)<=(2 ^ 63-1) / 8:=by decide
  omega
 have hfit:¬(!Builtin.List.listFitsIndex k)=true:=by
  rw[fitsIndex_both h1 h2];exact qb6
 have PV:¬Builtin.List.listTooLong (its.toArray.size*k.toNat)=true:=by
  rw[FW hlen];exact qb6
 have hnew:List.foldl (fun x1 x2=>x1++x2) #[] (List.replicate (if its.toArray.isEmpty=true then 0 else k.toNat) its.toArray)=(List.replicate k.toNat its).flatten.toArray:=by
  have f0:∀m:Nat,List.foldl (fun x1 x2=>x1++x2) #[] (List.replicate m its.toArray)=(List.replicate m its).flatten.toArray:=fun m=>by
   have:=Wp its m [];rw[List.nil_append]at this;exact this
  rw[f0];cases its with
  | nil=>simp
  | cons a r'=>rw[if_neg (by simp)]
 refine wpAny_binaryOp_repeat_ref (T:="list") (U:="int") (by decide) ⟨_,e,rfl⟩ (fun s'=>typeIs_int s' k t) noFill_list_mul F.fills_int_mul F.slot_int_rmul repeat_list F.slot_int_index.lookup
  (call_meets F.slot_int_rmul (typeIs_int s k t) F.entry_int_rmul (F.args_int_rmul_2 _ _) (int___rmul___int_list k t l its.toArray n)
    ⟨e,rfl,⟨_,e,rfl⟩,call_meets F.slot_list_mul ⟨_,e,rfl⟩ F.entry_list_mul (F.args_list_mul_2 _ _) (AutoListH.list___mul___list_int_3 l its.toArray n k t hfit hcap PV) ⟨e,?_⟩⟩)
 rw[hnew];exact⟨.ref _,_,I.lnew (t':=s.toks) (r.rep k.toNat) (by rw[jJ,Nat.mul_comm];exact hz),rfl,q _ I.fresh⟩
end
section
variable{prog:Program}{w:World}{A:Around}{E:Value->Shared->Prop}{s:Shared}
end
section
variable{X:Cx}
end
end L2
namespace Att
open PySem PySem.W PySem.Calls PyProof.Rows
theorem Ro{P:Params}{h:Heap}:∀(ns:List Int) (vs:List Value),WellAll P h vs (ns.map WData.int)->IntsAre vs ns:=by
 intro ns
 induction ns with
 | nil =>
   intro vs w;rw[List.map_nil]at w;cases w;exact .nil
 | cons n ns ih =>
   intro vs w;rw[qi6]at w;cases w with
   | cons a b =>
     cases a;exact .cons _ _ (ih _ b)
theorem script_of{l:OpenLaw}{n:Nat}(hn:l.most=some n){P:Params}{h:Heap}{args:List WData}{vals:List Value}
 (hpre:l.row.toRowW.claim.pre args=true) (hwl:WellAll P h vals args) :
 ∃a vs ns,vals=[Value.ref a]/\args=[WData.list (ns.map WData.int)]/\h.get? a=some { cls:=.type "list",data:=.seq vs.toArray }/\IntsAre vs ns/\ns.length<=n:=by
 have hsh:WShape.hasAll [] args [.list .int]=true:=(pre_splitW hpre).1;have hc:l.pre.holds [] { args:=args }=true:=(pre_splitW hpre).2;obtain⟨d,r,rfl,h1,h2⟩:=hasAllW_cons hsh;obtain rfl:=hasAllW_nil h2;obtain⟨xs,rfl,h3⟩:=hasW_list h1;obtain⟨ns,rfl⟩:=items_int h3
 have hlen:ns.length<=n:=by
  unfold OpenLaw.pre at hc
  have h4:(WTm.not (.lt (.lit (.int (n:Int))) (.len (.arg 0)))).holds [] { args:=[.list (ns.map .int)] }=true:=by
   have h4:=(holds_andW hc).1;rw[hn]at h4;exact h4
  have h5:=condW_of h4 (w_not (w_lt w_lit (w_len_list (w_arg rfl))));rw[qa2]at h5;refine qf3 fun q=>?_;have q':(n:Int)<((ns.length:Nat):Int):=O9m
  first
   | (rw[qj1 q']at h5;exact absurd h5 (by decide))
   | (simp at h5;omega)
 cases hwl with
 | cons w1 w2 =>
   cases w2;cases w1 with
   | list ho hall=>exact⟨_,_,ns,rfl,rfl,ho,Ro ns _ hall,hlen⟩
theorem post_true(l:OpenLaw)(args:List WData):l.row.toRowW.claim.post args (.bool true) args=true :=
 postW_of (r:=l.row.toRowW) (X:=(true==true))
  (show WShape.has [] (.bool true) .bool=true by first | rfl | decide | simp[WShape.has,WShape.arms,WShape.armsAll])
  (show(WTm.eq .res (.lit (.bool true))).value [] { args:=args,res:=some (.bool true),after:=args }=some (.bool (true==true)) from w_eq_bool (w_res rfl) w_lit) rfl
section
variable{prog:Program}{w:World}{A:Around}{E:Value->Shared->Prop}{s:Shared}{K:Frag}
end
end Att
namespace L2
open PySem PySem.Spec PyProof.Rows
theorem Vu:∀{vs:List Value}{ns:List Int},IntsAre vs ns->Cg (ns.map V.int) vs
 | _,_,.nil=>.nil
 | _,_,.cons n t h=>.cons ⟨t,rfl⟩ (Vu h)
noncomputable def NG(H:Hp):Prop:=∀b,H b=none\/∃o xs,H b=some (.frz o (.lst xs))
theorem gD{P:Program}{w:World}{K:W.Frag}{mg mb:Str->Option Value}{CX:eW}{k:Nat}{fa a:Addr}{fd:FuncData}{x:Str}{sp:Sp}{s₁:Shared}{vs:List Value}{ns:List Int}
 (KX:K.In s₁.heap) (hns:s₁.heap.Ns mainGlobals mg) (hb:s₁.heap.Ns builtinsNs mb) (xZ:∀x:Str,x≠"__name__"->mb x=bootBuiltins x) (hlim:s₁.heap.NoLimit) (hg:s₁.gens=#[])
 (ha:s₁.heap.get? a=some { cls:=.type "list",data:=.seq vs.toArray }) (hi:IntsAre vs ns) (hl:ns.length<=sizeLine) (hr:Eg k callerA)
 (F:∀base:Heap,K.In base->base.Ns mainGlobals mg->Cj P w K mg base CX k fa fd [x] sp) (hbind:∀(s:Shared) (u:Value),BindsTo s fd ⟨[u],[]⟩ [(x,u)])
 (g8:∀H:Hp,NG H->SqL K H a (ns.map V.int)->sp [.ref a] H (fun v _=>v=.bl true) fun _ _ _=>False)
 (tX:∀H e s',CX [] H s₁ (fun _ _ _=>False) e s'->False) :
 codeAny (model P w) callerA (.call (.ref fa) ⟨[.ref a],[]⟩) (fun r s'=>r=.ok (.ret (.bool true))/\OldK s₁.heap s'.heap/\s'.os=s₁.os/\AllBare s'.gens) s₁:=by
 have rv:=Vu hi;have SM:=hi.length
 have core:∀H:Hp,NG H->SqL K H a (ns.map V.int)->Nk P w H s₁.heap->(∀b,H b≠none->b=a)->(H a≠none->K.lookup a=none) →
  codeAny (model P w) callerA (.call (.ref fa) ⟨[.ref a],[]⟩) (fun r s'=>r=.ok (.ret (.bool true))/\OldK s₁.heap s'.heap/\s'.os=s₁.os/\AllBare s'.gens) s₁:=by
  intro H hO hS hok hA hK;have bZ:∀{b:Addr}{o:Obj},s₁.heap.get? b=some o->H b=none->(Yd s₁.heap H).get? b=some o:=fun e n=>gH e n
  have pC:∀{b:Addr}{o:Obj}{es:Array DictEntry}{ep:Nat},s₁.heap.get? b=some o->o.data=.dict es ep->H b=none:=fun {b o es ep} e d=>by
   cases q:H b with
   | none=>rfl
   | some u =>
     have e':b=a:=hA b (by rw[q];simp);subst e';rw[ha]at e;cases e;have d':Data.seq vs.toArray _=Data.dict es ep:=d;cases d'
  have qY:∀{b:Addr}{m:Str->Option Value},s₁.heap.Ns b m->(Yd s₁.heap H).Ns b m:=fun {b m} ⟨o,es,ep,e,d,r⟩=>⟨o,es,ep,bZ e (pC e d),d,r⟩
  have VS:K.In (Yd s₁.heap H):=fun b o e=>bZ (KX b o e) (by
   cases q:H b with
   | none=>rfl
   | some u =>
     have e':b=a:=hA b (by rw[q];simp);subst e';rw[hK (by rw[q];simp)]at e;cases e)
  have hM:Mod K mg (Yd s₁.heap H):=⟨VS,qY hns,⟨mb,qY hb,xZ⟩,let ⟨mc,h1,h2⟩:=hlim;⟨mc,qY h1,h2⟩⟩
  have e0:Vt P w K mg (Yd s₁.heap H) callerA [] s₁ H:=⟨rfl,hM,fun b o e=>JC e,qs0 (DP _ _),trivial,fun b hb=>absurd (show b∈([]:List Addr) from hb) (by simp),hok,.of_eq hg⟩
  refine codeAny_mono ((F _ VS (qY hns)).run callerA [] s₁ H ⟨[.ref a],[]⟩ [.ref a] [.ref a] _ _ hr e0 (hbind s₁ (.ref a)) (.cons rfl .nil) (g8 H hO hS)) fun r s' h=>?_;cases r with
  | error e=>exact(tX H e s' h).elim
  | ok fl =>
    cases fl with
    | next=>exact False.elim h
    | brk=>exact False.elim h
    | cont=>exact False.elim h
    | ret u =>
      obtain⟨v,H',os,bare,un,tG,r',q⟩:=h;have q':v=.bl true:=q;subst q';obtain rfl:u=Value.bool true:=r';refine⟨rfl,OldK.of_keep fun b o e=>?_,os,bare⟩;cases q:H b with
      | none=>exact un.keep b o e q (by intro z;exact absurd (show b∈([]:List Addr) from z) (by simp)) (by simp)
      | some u =>
        rcases hO b with z|⟨ob,xs,z⟩
        . rw[q]at z;cases z
        . have z2:=un.frzs b ob _ z;obtain⟨e1,_⟩:=hok b _ z;obtain⟨e2,_⟩:=tG b _ z2;rw[e]at e1;cases e1;exact e2
 cases hk:K.lookup a with
 | some o =>
   have e:=KX a o hk;rw[ha]at e;cases e;refine core (fun _=>none) (fun _=>.inl rfl) (.inr ⟨_,vs.toArray,_,hk,rfl,rfl,rfl,by rw[qb3,SM];exact hl,by simpa using rv⟩) (fun b u z=>by have z':(none:Option HO)=some u:=z;cases z') (fun b z=>absurd rfl z) fun z=>absurd rfl z
 | none =>
   refine core (fun b=>if b=a then some (.frz { cls:=.type "list",data:=.seq vs.toArray } (.lst (ns.map V.int))) else none) (fun b=>?_) (.inl (.inr ⟨{ cls:=.type "list",data:=.seq vs.toArray },if_pos rfl⟩)) (fun b u z=>?_) (fun b z=>?_) fun _=>hk
   . by_cases hb:b=a
     . exact .inr ⟨_,_,if_pos hb⟩
     . exact .inl (if_neg hb)
   . by_cases hb:b=a
     . have z':=(if_pos hb).symm.trans z;cases z';subst hb;exact⟨ha,by rw[qa2];exact hl,vs,_,rv,ha⟩
     . have z':=(if_neg hb).symm.trans z;cases z'
   . by_cases hb:b=a
     . exact hb
     . exact absurd (if_neg hb) z
noncomputable def El(s:Stmt)(j:Nat):Stmt:=match s with
 | .ClassDef _ _ _ body _ _ _ _ _ _ _=>body.getD j (.Pass ⟨0,0,0,0⟩)
 | _=>.Pass ⟨0,0,0,0⟩
noncomputable def Gn(s:Stmt):Arguments:=match s with
 | .FunctionDef _ a _ _ _ _ _ _ _ _=>a
 | _=>{ posonlyargs:=[],args:=[],vararg:=none,kwonlyargs:=[],kw_defaults:=[],kwarg:=none,defaults:=[] }
noncomputable def E3(s:Stmt):List Stmt:=match s with
 | .FunctionDef _ _ b _ _ _ _ _ _ _=>b
 | _=>[]
noncomputable def Ar(s:Stmt):Scope:=match s with
 | .FunctionDef _ _ _ _ _ _ sc _ _ _=>sc
 | _=>{ kind:=.function,names:=[],isGenerator:=false,isCoroutine:=false }
noncomputable abbrev Fw:eW:=fun _ _ _ _ _ _=>False
noncomputable abbrev E0:XK:=fun _ _ _=>False
theorem Z5{X:Cx}:Oj Fw X E0:=fun _ _ _ _ _ _ _ h=>h.elim
structure Ey(K:W.Frag)(x qual:Str)(st:Stmt)(f:Addr)(fd:FuncData):Prop where
 ex:∃(oc:Value) (od:OAddr) (kV doc pm:Value) (an:OAddr) (Dk ct:Value) (osl:Py),
  fd=W.fnOf x qual (Gn st) (E3 st) (Ar st) .none kV doc pm an Dk ct/\K.lookup f=some ⟨oc,od,.func fd,osl⟩/\W.codeIn K Dk qual=true
 kp:W.keepIn K (.ref f)=true
section
variable{P:Program}{w:World}{K:W.Frag}{mg:Str->Option Value}{base:Heap}
theorem Ey.ok{x qual:Str}{st:Stmt}{f:Addr}{fd:FuncData}{N ps:List Str}{k:Nat}{sp:Sp}(F:Ey K x qual st f fd)(S:FnScope N ps (Ar st))(len:∀vs H Q E,sp vs H Q E->vs.length=ps.length)
 (hbody:∀(Dk:Value) (A:Around) (outer:List Env) (s:Shared) (H:Hp) (vs:List V) (Q:VK) (E:XK),Eg k (A.deeper (envOfC qual (Ar st) s.heap.objs.size f Dk))->sp vs H Q E →
   ∃t,Zg (Vi Fw P w K mg base N qual (Ar st) f Dk A outer s H E).nox (E3 st) t/\t { nx:=fun _ H'=>Q .non H',rt:=Q } (start N vs) H):Cj P w K mg base Fw (k+1) f fd ps sp:=by
 obtain⟨oc,od,kV,doc,pm,an,Dk,ct,osl,rfl,lk,hcd⟩:=F.ex;refine KZ lk hcd S len fun A outer s H vs Q E hr g8=>?_;obtain⟨t,h,q⟩:=hbody Dk A outer s H vs Q E hr g8;exact⟨t,h.nox,q⟩
theorem Ey.binds{x qual:Str}{st:Stmt}{f:Addr}{fd:FuncData}{ps:List Str}(F:Ey K x qual st f fd)
 (h:∀(kV doc pm:Value) (an:OAddr) (Dk ct:Value) (us:List Value),us.length=ps.length->bindArgs (W.fnOf x qual (Gn st) (E3 st) (Ar st) .none kV doc pm an Dk ct) ⟨us,[]⟩=pure (ps.zip us)):Gb K fd ps []:=by
 obtain⟨oc,od,kV,doc,pm,an,Dk,ct,osl,rfl,lk,hcd⟩:=F.ex;exact .all (h kV doc pm an Dk ct)
theorem Yk{x qual:Str}{st:Stmt}{f:Addr}{oc:Value}{od an:OAddr}{osl:Py}{kV doc pm Dk ct:Value}(l:K.lookup f=some ⟨oc,od,.func (W.fnOf x qual (Gn st) (E3 st) (Ar st) .none kV doc pm an Dk ct),osl⟩)
 (c:W.codeIn K Dk qual=true) (k:W.keepIn K (.ref f)=true):Ey K x qual st f (W.fnOf x qual (Gn st) (E3 st) (Ar st) .none kV doc pm an Dk ct):=⟨⟨oc,od,kV,doc,pm,an,Dk,ct,osl,rfl,l,c⟩,k⟩
end
section
variable{X:Cx}
theorem pv(i:Nat){x:Str}{pos:Pos}(hN:X.N[i]?=some x:=by rfl)(hv:RO X.env.scope x:=by first | exact Or.inl rfl | exact Or.inr (Or.inl rfl) | exact Or.inr (Or.inr rfl))(hd:(x==("__debug__":Str))=false:=by decide)
 (hcd:(x==("__classdict__":Str))=false:=by decide):PE X (.Name x pos) (oH i):=LZ hN hv hd hcd
end
theorem ite2{c A B:Prop}[Decidable c](h1:c->A)(h2:¬c->B):if c then A else B:=by
 by_cases h:c
 . rw[if_pos h];exact h1 h
 . rw[if_neg h];exact h2 h
noncomputable def Aj(H H':Hp):Prop:=∀b o,H b=some o->H' b=some o
theorem Aj.refl(H:Hp):Aj H H:=fun _ _ h=>h
theorem Aj.trans{H H1 H2:Hp}(a:Aj H H1)(b:Aj H1 H2):Aj H H2:=fun c o h=>b c o (a c o h)
theorem Aj.free{H H':Hp}(e:Aj H H'){l:Addr}(h:H' l=Option.none):H l=Option.none:=by
 cases q:H l with
 | none=>rfl
 | some o =>
   rw[e l o q]at h;cases h
theorem Aj.seq{K:W.Frag}{H H':Hp}{a:Addr}{xs:List V}(e:Aj H H')(h:SqL K H a xs):SqL K H' a xs:=by
 rcases h with(h|⟨o,h⟩) | h
 . exact .inl (.inl (e _ _ h))
 . exact .inl (.inr ⟨o,e _ _ h⟩)
 . exact .inr h
noncomputable def Vk(cells:List (Str × Addr)):List (Str × NameKind)->List (Str × Addr)->List (Str × Addr)
 | [],acc=>acc
 | (n,k)::r,acc=>Vk cells r (if (k==NameKind.free)=true then(n,(cells.lookup n).getD 0)::acc else acc)
theorem Um{sc:Scope}{env:Env}(h:∀n,(n,NameKind.free)∈sc.names->∃c,env.cells.lookup n=some c):closureFor sc env=pure (Vk env.cells sc.names []):=by
 have all:∀(l:List (Str × NameKind)) (acc:List (Str × Addr)),(∀n,(n,NameKind.free)∈l->∃c,env.cells.lookup n=some c) →
  (forIn l acc fun(x:Str × NameKind) (cs:List (Str × Addr))=>match x with
    | (name,kind)=>if (kind==NameKind.free)=true then(do let c ←cellOf env name;pure (ForInStep.yield ((name,c)::cs))) else pure (ForInStep.yield cs))=(pure (Vk env.cells l acc):Sem _):=by
  intro l
  induction l with
  | nil=>intro acc _;rfl
  | cons x r ih =>
    intro acc hl;obtain⟨n,k⟩:=x;rw[List.forIn_cons];by_cases hk:(k==NameKind.free)=true
    . have hk':k=NameKind.free:=by simpa using hk
      subst hk';obtain⟨c,hc⟩:=hl n qe8;have e1:cellOf env n=pure c:=by unfold cellOf;rw[hc]
      simp only[beq_self_eq_true,if_true,e1,pure_bind];rw[ih _ fun m hm=>hl m (qc1 _ hm)];show _=(pure (Vk env.cells r (if (NameKind.free==NameKind.free)=true then(n,(env.cells.lookup n).getD 0)::acc else acc)):Sem _)
      rw[if_pos (by simp),hc];rfl
    . have hk2:(k==NameKind.free)=false:=by simpa using hk
      simp only[hk2,qr6,if_false,pure_bind];rw[ih _ fun m hm=>hl m (qc1 _ hm)];show _=(pure (Vk env.cells r (if (k==NameKind.free)=true then(n,(env.cells.lookup n).getD 0)::acc else acc)):Sem _)
      rw[if_neg hk]
 have:=all sc.names [] h;unfold closureFor;dsimp only;rw[this,pure_bind]
theorem Fr{cells:List (Str × Addr)}{x:Str}{c:Addr}:∀{l:List (Str × NameKind)}{acc:List (Str × Addr)},(∀n,(n,NameKind.free)∈l->∃c,cells.lookup n=some c) →
 (acc.lookup x=some c->cells.lookup x=some c)->(Vk cells l acc).lookup x=some c->cells.lookup x=some c
 | [],_,_,ha,h=>ha h
 | (n,k)::r,acc,hl,ha,h=>by
   refine Fr (l:=r) (fun m hm=>hl m (qc1 _ hm)) ?_ h;by_cases hk:(k==NameKind.free)=true
   . rw[if_pos hk];have hk':k=NameKind.free:=by simpa using hk
     subst hk';obtain⟨d,hd⟩:=hl n qe8;intro e;rw[qm2]at e;cases hx:x==n with
     | true =>
       rw[hx]at e;have hxn:x=n:=by simpa using hx
       subst hxn;rw[hd]at e ⊢;exact e
     | false=>rw[hx]at e;exact ha e
   . rw[if_neg hk];exact ha
theorem Uo{cells:List (Str × Addr)}{x:Str}:∀{l:List (Str × NameKind)}{acc:List (Str × Addr)},((x,NameKind.free)∈l\/∃c,acc.lookup x=some c)->∃c,(Vk cells l acc).lookup x=some c
 | [],_,h=>by
   rcases h with h | h
   . exact nomatch h
   . exact h
 | (n,k)::r,acc,h=>by
   refine Uo (l:=r) ?_;by_cases hk:(k==NameKind.free)=true
   . rw[if_pos hk];by_cases hx:(x==n)=true
     . exact .inr ⟨(cells.lookup n).getD 0,by rw[qm2,hx]⟩
     . have sV:(x==n)=false:=by simpa using hx
       rcases h with h|⟨c,h⟩
       . rcases qb9.mp h with e | e
         . have e1:x=n:=congrArg Prod.fst e;exact absurd (by simp[e1]) hx
         . exact .inl e
       . exact .inr ⟨c,by rw[qm2,sV];exact h⟩
   . rw[if_neg hk];rcases h with h | h
     . rcases qb9.mp h with e | e
       . have e2:NameKind.free=k:=congrArg Prod.snd e;exact absurd (by simp[←e2]) hk
       . exact .inl e
     . exact .inr h
noncomputable def Ew(X:Cx)(sc:Scope)(N':List Str)(C:Addr)(s₀:Shared)(H₀:Hp)(fp:List Addr):Cx where
 prog:=X.prog
 w:=X.w
 K:=X.K
 mg:=X.mg
 base:=X.base
 A:=X.A
 N:=N'
 s₀:=s₀
 H₀:=H₀
 env:=compEnvC sc (Vk X.env.cells sc.names []) C X.env
 outer:=X.stack
 stack:=X.stack
 ex:=fp
 fn:=fun _=>false
 calm:=X.calm
 pn:=[]
 xe:=fun _ _=>False
noncomputable def aL(cap:List (Option Nat))(σ:St):St:=cap.map fun o=>o.bind fun j=>(σ[j]?).join
structure Rh(X:Cx)(sc:Scope)(N':List Str)(cap:List (Option Nat)):Prop where
 kind:sc.kind=.function
 len:cap.length=N'.length
 nocell:∀x∈sc.names,x.2≠NameKind.cell
 locals:∀x∈sc.names,x.2=NameKind.local->sc.names.lookup x.1=some NameKind.local
 free:∀n,(n,NameKind.free)∈sc.names->X.env.kindOf n=some .cell\/X.env.kindOf n=some .free
 slots:∀(i j:Nat) (x:Str),N'[i]?=some x->cap[i]?=some (some j)->X.N[j]?=some x/\((relabel sc X.env).names.lookup x=some .cell\/(relabel sc X.env).names.lookup x=some .free)/\RO X.env.scope x
section
variable{X:Cx}{sc:Scope}{N':List Str}{cap:List (Option Nat)}{Ab:LAObj}{σ:St}{H:Hp}{s:Shared}{C:Addr}{fp:List Addr}
theorem Rh.cells(c:Rh X sc N' cap)(ok:X.Ok):∀n,(n,NameKind.free)∈sc.names->∃c,X.env.cells.lookup n=some c:=fun n hn=>ok.has n (c.free n hn)
theorem Iu{env:Env}{x:Str}{k:NameKind}(hnc:∀x∈sc.names,x.2≠NameKind.cell)(h:(relabel sc env).names.lookup x=some k)(hk:k=.cell\/k=.free):(x,NameKind.free)∈sc.names:=by
 have all:∀(l:List (Str × NameKind)),(∀x∈l,x.2≠NameKind.cell)->(l.map fun(n,k)=>if (k==NameKind.free&&env.scope.kind==.function&&env.kindOf n==some .cell) then(n,NameKind.cell) else(n,k)).lookup x=some k->(x,NameKind.free)∈l:=by
  intro l
  induction l with
  | nil=>intro _ h;exact nomatch h
  | cons p r ih =>
    intro hn h;obtain⟨n,q⟩:=p;rw[qi6,qm2]at h;by_cases hc:(q==NameKind.free&&env.scope.kind==.function&&env.kindOf n==some .cell)=true
    . have hq:q=NameKind.free:=by
       have:=hc;simp only[qc5]at this;simpa using this.1.1
      simp only[hc,if_true]at h;cases hx:x==n with
      | true =>
        have e:x=n:=by simpa using hx
        rw[e,hq];exact qe8
      | false =>
        rw[hx]at h;exact qc1 _ (ih (fun y hy=>hn y (qc1 _ hy)) h)
    . simp only[hc]at h;cases hx:x==n with
      | true =>
        have e:x=n:=by simpa using hx
        simp only[qr6,if_false,hx]at h;have e2:q=k:=by simpa using h
        rcases hk with z | z
        . exact absurd (e2.trans z) (hn (n,q) qe8)
        . rw[e,←z,←e2];exact qe8
      | false =>
        simp only[qr6,if_false,hx]at h;exact qc1 _ (ih (fun y hy=>hn y (qc1 _ hy)) h)
 exact all sc.names hnc h
theorem JV(c:Rh X sc N' cap)(I:Bu X Ab σ H s)(hC:s.heap.objs.size<=C)(hf:∀b∈fp,M7 X Ab H b)(hb:∀b∈fp,b<s.heap.objs.size):(Ew X sc N' C s H fp).Ok where
 mod:=I.ok.mod
 kind:=c.kind
 glob:=I.ok.glob
 blt:=I.ok.blt
 above:=hC
 inj:=fun x y a hx hy=>I.ok.inj x y a (Fr (c.cells I.ok) (fun z=>by simp at z) hx) (Fr (c.cells I.ok) (fun z=>by simp at z) hy)
 has:=fun x hx=>by
  refine Uo (.inl ?_);rcases hx with hx | hx
  . exact Iu c.nocell hx (.inl rfl)
  . exact Iu c.nocell hx (.inr rfl)
 cab:=fun _ _ h=>nomatch h
 hd:=I.ok.hd
 frames:=I.ok.frames
 stk:=.inl rfl
 exf:=fun b hb'=>⟨qb8 (qa6 (hb b hb') hC),fun x a e=>(hf b hb').2.2.2.2.1 x a (Fr (c.cells I.ok) (fun z=>by simp at z) e)⟩
 bs:=I.bs
 bsz:=qa1 I.ok.bsz I.sz
 noex:=fun b o e hb'=>by
  rcases (hf b hb').2.2.2.1 with z | z
  . exact I.ok.noex b o e z
  . exact absurd (qa6 (qa7 e) (qa1 I.ok.bsz z)) (qi5 _)
 exfs:=fun b hb' z=>by
  obtain⟨_,f1,f2,_⟩:=hf b hb';rcases qb9.mp (I.stkSub b z) with e | e
  . exact f1 e
  . exact f2 e
 funs:=I.stack
 frf:=I.stkFree
theorem HA(c:Rh X sc N' cap)(I:Bu X Ab σ H s){D:Addr}{h1:Heap}{t:Nat}(hC:C=s.heap.objs.size+1)(hD:D=s.heap.objs.size)(hf:∀b∈fp,M7 X Ab H b)(hb:∀b∈fp,b<s.heap.objs.size)
 (hn:h1.Ns C fun _=>none) (hl:h1.get? D=some { cls:=.type "list",data:=.seq #[] 0 }) (k:∀b o,s.heap.get? b=some o->h1.get? b=some o) :
 Bu (Ew X sc N' C s H fp) [] (aL cap σ) (upd H D (.lst [])) { s with heap:=h1,toks:=t }:=by
 have VU:s.heap.objs.size<=C:=by rw[hC];exact qk3 _
 have yK:C≠D:=by rw[hC,hD];exact Nat.succ_ne_self _
 have ok:=JV (C:=C) (fp:=fp) c I VU hf hb;have YH:H D=none:=by rw[hD];exact I.fresh
 have RA:∀x a,(Vk X.env.cells sc.names []).lookup x=some a->X.env.cells.lookup x=some a:=fun x a e=>Fr (c.cells I.ok) (fun z=>by simp at z) e;have wA:∀a v,s.heap.IsCell a v->h1.IsCell a v:=fun a v ⟨o,ho,hd⟩=>⟨o,k a o ho,hd⟩
 have wZ:∀a v,s.heap.IsCell a v->a≠D:=fun a v ⟨o,ho,hd⟩=>by rw[hD];exact qb8 (qa7 ho)
 refine⟨ok,rfl,I.bare,Un.laid k (by rw[hD];exact qa0 _) YH,⟨_,hn,fun i x v e1 e2 e3=>?_⟩,fun x a e=>?_,?_,fun x a e=>?_,fun p hp=>absurd hp (by simp[Ew]),?_,?_⟩
 . have qG:cap[i]?.map (fun o=>o.bind fun j=>(σ[j]?).join)=some (some v):=by
    have:=e2;unfold aL at this;rw[qb7]at this;exact this
   cases hc:cap[i]? with
   | none=>rw[hc]at qG;cases qG
   | some o =>
     rw[hc]at qG;cases o with
     | none=>cases qG
     | some j =>
       have e4:(σ[j]?).join=some v:=by simpa using qG
       obtain⟨q1,UY,q3⟩:=c.slots i j x e1 hc;have q2:(x,NameKind.free)∈sc.names:=UY.elim (fun z=>Iu c.nocell z (.inl rfl)) fun z=>Iu c.nocell z (.inr rfl);obtain⟨m,hm,hl'⟩:=I.loc
       have e5:σ[j]?=some (some v):=by
        cases z:σ[j]? with
        | none=>rw[z]at e4;cases e4
        | some y=>rw[z]at e4;cases y with
          | none=>cases e4
          | some y'=>cases e4;rfl
       obtain⟨u,r,l⟩:=hl' j x v q1 e5 q3;refine⟨u,r,?_⟩;obtain⟨a,ha⟩:=Uo (cells:=X.env.cells) (l:=sc.names) (acc:=[]) (x:=x) (.inl q2);have kd:X.env.kindOf x=some .cell\/X.env.kindOf x=some .free:=c.free x q2;rcases l with⟨hk,_⟩|⟨hk,a',ha',hcell⟩
       . rcases kd with z | z<;>rw[z]at hk<;>cases hk
       . have e6:a'=a:=by
          have:=RA x a ha;rw[ha']at this;exact qd7 this
         refine .inr ⟨UY,a,ha,?_⟩;rw[←e6];exact wA _ _ hcell
 . obtain⟨v,z⟩:=I.cell x a (RA x a e);exact⟨v,wA a v z⟩
 . show upd H D (.lst []) C=none;rw[Bb yK];exact I.hok.fresh VU
 . show upd H D (.lst []) a=none;obtain⟨v,z⟩:=I.cell x a (RA x a e);rw[Bb (wZ a v z)];exact I.freeC x a (RA x a e)
 . exact I.hok.laid k (by rw[hD];exact qa0 _) ⟨qa8 _,[],0,.nil,hl⟩
 . show(aL cap σ).length=N'.length;unfold aL;rw[qa2,c.len]
end
noncomputable def jW(jA:Scope)(N:List Str)(sc:Scope)(N':List Str)(cap:List (Option Nat)):Bool :=
 decide (sc.kind=.function)&&decide (cap.length=N'.length)&&sc.names.all (fun x=>decide (x.2≠NameKind.cell))&&sc.names.all (fun x=>decide (x.2=NameKind.local->sc.names.lookup x.1=some NameKind.local)) &&
 sc.names.all (fun x=>decide (x.2=NameKind.free->(jA.names.lookup x.1=some .cell\/jA.names.lookup x.1=some .free))) &&
 (N'.zip cap).all (fun p=>match p.2 with
   | none=>true
   | some j=>decide (N[j]?=some p.1)&&decide (((sc.names.map fun(n,k)=>if (k==.free&&jA.kind==.function&&jA.names.lookup n==some .cell) then(n,NameKind.cell) else(n,k)).lookup p.1=some .cell) ∨
      ((sc.names.map fun(n,k)=>if (k==.free&&jA.kind==.function&&jA.names.lookup n==some .cell) then(n,NameKind.cell) else(n,k)).lookup p.1=some .free)) &&
     decide (jA.names.lookup p.1=some .local\/jA.names.lookup p.1=some .cell\/jA.names.lookup p.1=some .free))
theorem BX{X:Cx}{sc:Scope}{N':List Str}{cap:List (Option Nat)}(h:jW X.env.scope X.N sc N' cap=true):Rh X sc N' cap:=by
 unfold jW at h;rw[qc5,qc5,qc5,qc5,qc5,qh8,qh8,qh8,qh8]at h;obtain⟨⟨⟨⟨⟨h1,h2⟩,h3⟩,h4⟩,h5⟩,h6⟩:=h;refine⟨qc2 h1,qc2 h2,fun x hx=>qc2 (h3 x hx),fun x hx=>qc2 (h4 x hx),fun n hn=>qc2 (h5 _ hn) rfl,fun i j x e1 e2=>?_⟩
 have hm:(x,some j)∈N'.zip cap:=by
  have e:(N'.zip cap)[i]?=some (x,some j):=by
   rw[List.getElem?_zip_eq_some];exact⟨e1,e2⟩
  exact qe2 e
 have h7:=h6 _ hm;dsimp only at h7;rw[qc5,qc5]at h7;obtain⟨⟨h8,h9⟩,h10⟩:=h7;exact⟨qc2 h8,qc2 (p:=(relabel sc X.env).names.lookup x=some .cell\/(relabel sc X.env).names.lookup x=some .free) h9,qc2 (p:=X.env.scope.names.lookup x=some .local\/X.env.scope.names.lookup x=some .cell\/X.env.scope.names.lookup x=some .free) h10⟩
noncomputable def NV(X:Cx)(ifs:List Expr)(t:TT):Prop :=
 ∀(Ab:LAObj) (s:Shared) (σ:St) (H:Hp) (Q:Bool->Hp->Prop),Bu X Ab σ H s->t σ H Q →
   wpAny (model X.prog X.w) X.A (forIn ifs true fun c r=>if r=true then do let ok ←isTrue c X.env (eval c X.env);pure (ForInStep.yield ok) else pure (ForInStep.yield r)) (TP X Ab σ Q) X.xe s
noncomputable def CK:TT:=fun _ H Q=>Q true H
theorem Da{X:Cx}:NV X [] CK:=fun _ _ _ H _ I h=>wpAny_tests_nil ⟨H,I,h⟩
theorem iR{X:Cx}{c:Expr}{t:TT}(h:PT X c t):NV X [c] t:=fun Ab s σ H Q I hw=>wpAny_tests_one (h Ab s σ H Q I hw)
noncomputable def Pq(J:It)(g:TG)(tc:TT)(te:TE)(D:Addr)(Q:Hp->Prop)(τ:St)(H:Hp):Prop :=
 ∃W:Nat->Nat->List V->St->Hp->Prop,(∃m,W 0 m [] τ H)/\∀i m ys τ H,W i m ys τ H →
   (J.stop i H/\Q H) ∨
   (J.go i H/\∃N:List V->St->Hp->Prop,(∀ys' τ' H',N ys' τ' H'->∃m',m'<m/\W (i+1) m' ys' τ' H') ∧
     ∀x H',J.yld i H x H'->g x τ H' fun τ2 H2=>tc τ2 H2 fun b H3=>if b=true then te τ2 H3 fun y H4=>H4 D=some (.lst ys)/\ys.length<sizeLine/\N (ys++[y]) τ2 (upd H4 D (.lst (ys++[y]))) else N ys τ2 H3)
section
variable{X:Cx}{sc:Scope}{N':List Str}{cap:List (Option Nat)}{tg elt iter:Expr}{ifs:List Expr}{pos:Pos}{g:TG}{tc:TT}{te:TE}
theorem EA{Y:Cx}{J:It}{fp:List Addr}{it D:Addr}{tn:Nat->Heap->Prop}{R:Result->Shared->Prop}{Q:Hp->Prop}{τ:St}{H:Hp}{s:Shared}
 (hx:Y.xe=fun _ _=>False) (hc:Y.calm=true) (hg:PG Y tg g) (ht:NV Y ifs tc) (he:PE Y elt te) (T:Vq Y.prog Y.w Y.K tg J fp it tn) (st:tn 0 s.heap) (hf:∀b∈fp,M7 Y [] H b) (I:Bu Y [] τ H s)
 (h:Pq J g tc te D Q τ H) (hR:∀τ' H' s',Bu Y [] τ' H' s'->Q H'->R (.ok .next) s') :
 codeAny (model Y.prog Y.w) Y.A (.compLoop (.ListComp elt [⟨tg,iter,ifs,0⟩] sc pos) 0 (.ref it) (.ref D) Y.env) R s:=by
 obtain⟨W,⟨m0,w0⟩,turn⟩:=h;have t8:∀{H':Hp},(∀b∈fp,H' b=none)->∀b∈fp,M7 Y [] H' b:=fun hn b hb=>⟨hn b hb,(hf b hb).2⟩
 have no:∀{P:Prop}{e:Value}{s':Shared},Y.xe e s'->P:=fun z=>by rw[hx]at z;exact z.elim
 refine codeAny_loop rfl (fun n s'=>∃i ys τ' H',Bu Y [] τ' H' s'/\tn i s'.heap/\(∀b∈fp,H' b=none)/\W i n ys τ' H') ?_ m0 ⟨0,[],τ,H,I,st,fun b hb=>(hf b hb).1,w0⟩;rintro n s3 ⟨i,ys,τ3,H3,I3,st3,HU,w3⟩;show wpAny _ Y.A ((compTurn (.ListComp elt [⟨tg,iter,ifs,0⟩] sc pos) 0 (.ref it) (.ref D) Y.env).onRaise (fun x=>do noteFrame x Y.env;theTreesLotGoes x)) _ _ s3;refine wpAny_noted ?_;rw[compTurn_list];refine qa5 (wpAny_standAt (qa5 ?_));rcases turn i n ys τ3 H3 w3 with⟨stop,qn⟩|⟨go,N,hN,step⟩
 . refine qg5 (T.done Y rfl rfl rfl hc i [] s3 τ3 H3 (fun _ _=>False) I3 (t8 HU) st3 stop) (fun r s4 _z=>?_) fun _ _ z=>z.elim;obtain⟨hr,I4⟩:=_z;subst hr;exact qd3 (hR _ _ _ I4 qn)
 . refine qg5 (T.item Y rfl rfl rfl hc i [] s3 τ3 H3 (fun _ _=>False) I3 (t8 HU) st3 go) (fun r s4 _z=>?_) fun _ _ z=>z.elim;obtain⟨u,hr,h4⟩:=_z;subst hr;refine qa5 (qg5 h4 (fun _ s5 _z=>?_) fun _ _ z=>z.elim);obtain⟨x,H5,I5,r5,y5,LU,mX⟩:=_z;have UM:=I5.pinned (t8 mX) (T.obj _ _ LU)
   have again:∀{τ7:St}{H7:Hp}{qQ:List V}{s7:Shared},Bu Y ([]++Tf fp s5.heap) τ7 H7 s7->N qQ τ7 H7->∃m,m<n/\∃i ys τ' H',Bu Y [] τ' H' s7/\tn i s7.heap/\(∀b∈fp,H' b=none)/\W i m ys τ' H':=fun {τ7 H7 qQ s7} I7 n7=>by
    obtain⟨m',hm,w7⟩:=hN qQ τ7 H7 n7;refine⟨m',hm,i+1,qQ,τ7,H7,I7.unpinned,T.keep _ _ _ LU fun b hb o e=>(I7.pin (b,o) (qd8 _ (qd8 _ (Ku hb e)))).1,fun b hb=>?_,w7⟩;obtain⟨o,e,d⟩:=T.obj _ _ LU b hb;exact(I7.pin (b,o) (qd8 _ (qd8 _ (Ku hb e)))).2.1
   refine qa5 (qg5 (hg _ s5 τ3 H5 x u _ UM r5 (step x H5 y5)) (fun _ s6 _z=>?_) fun _ _ z=>no z);obtain⟨τ6,H6,I6,q6⟩:=_z;refine qa5 (qg5 (ht _ s6 τ6 H6 _ I6 q6) (fun ok s7 _z=>?_) fun _ _ z=>no z);obtain⟨H7,I7,q7⟩:=_z;cases ok with
   | false =>
     have q8:N ys τ6 H7:=by simpa using q7
     exact qd3 ⟨rfl,again I7 q8⟩
   | true =>
     have q8:te τ6 H7 fun y H4=>H4 D=some (.lst ys)/\ys.length<sizeLine/\N (ys++[y]) τ6 (upd H4 D (.lst (ys++[y]))):=by simpa using q7
     refine qa5 (qa5 (qg5 (he _ s7 τ6 H7 _ I7 q8) (fun y s8 _z=>?_) fun _ _ z=>no z));obtain⟨v8,H8,I8,r8,hD,hl,n8⟩:=_z;refine qa5 (qg5 (Mp _ s8 τ6 H8 (.ref D) [v8] (.ref D) [y] (fun _ H9=>N (ys++[v8]) τ6 H9) I8 rfl (.cons r8 .nil) ⟨D,ys,v8,rfl,rfl,hD,hl,n8⟩) (fun _ s9 _z=>?_) fun _ _ z=>no z);obtain⟨_,H9,I9,_,n9⟩:=_z;exact qd3 (qd3 ⟨rfl,again I9 n9⟩)
theorem Ul{Ab:LAObj}{σ:St}{H:Hp}{s:Shared}{J:It}{fp:List Addr}{it:Addr}{tn:Nat->Heap->Prop}{RR:Value->Addr->Result->Shared->Prop}{Q:Addr->Hp->Prop}{E:Value->Shared->Prop}
 (c:Rh X sc N' cap) (hc:X.calm=true) (hg:∀C s₀ H₀ fp,PG (Ew X sc N' C s₀ H₀ fp) tg g) (ht:∀C s₀ H₀ fp,NV (Ew X sc N' C s₀ H₀ fp) ifs tc) (he:∀C s₀ H₀ fp,PE (Ew X sc N' C s₀ H₀ fp) elt te)
 (I:Bu X Ab σ H s) (T:Vq X.prog X.w X.K tg J fp it tn) (st:tn 0 s.heap) (hf:∀b∈fp,M7 X Ab H b)
 (h:∀D,H D=none->Pq J g tc te D (Q D) (aL cap σ) (upd H D (.lst [])))
 (hR:∀D C s' H' m',H D=none->s.heap.objs.size<=C->s'.os=s.os->AllBare s'.gens->Un (Nh X.stack) fp H H' s.heap s'.heap->Nk X.prog X.w H' s'.heap->s'.heap.Ns C m'->H' C=none->C ∉ fp->Q D H'->RR (.ref D) C (.ok .next) s') :
 wpAny (model X.prog X.w) X.A (newList []) (fun acc s₃=>wpAny (model X.prog X.w) X.A (newFunctionEnv sc X.env.globals (Vk X.env.cells sc.names []) [] X.env.qual none .none (some X.env)) (fun cenv s₄ =>
  codeAny (model X.prog X.w) X.A (.compStart (.ListComp elt [⟨tg,iter,ifs,0⟩] sc pos) 0 (.ref it) acc { cenv with scope:=relabel sc X.env }) (RR acc cenv.locals) s₄) E s₃) E s:=by
 have hb:∀b∈fp,b<s.heap.objs.size:=fun b hb=>by
  obtain⟨o,e,_⟩:=T.obj _ _ st b hb;exact qa7 e
 refine wpAny_newObj_type (wpAny_newFunctionEnv c.nocell (by intro y hy;simp at hy) (fun h₁ mS JN=>?_) c.kind);dsimp only at mS JN ⊢;generalize RI:s.heap.push { cls:=.type "list",dict:=none,data:=.seq ([]:List Value).toArray }=H2 at mS JN ⊢;have hC:H2.objs.size=s.heap.objs.size+1:=by rw[←RI,qh6]
 have RJ:s.heap.objs.size<=H2.objs.size:=by rw[hC];exact qk3 _
 have yJ:s.heap.objs.size≠H2.objs.size:=by rw[hC];exact(Nat.succ_ne_self _).symm
 have old:∀b o,s.heap.get? b=some o->h₁.get? b=some o:=fun b o e=>by
  have l1:=qa7 e;exact JN.extBut b o (qb8 (qa6 l1 RJ)) (qa3 _ (RI▸qa3 _ e))
 have hl:h₁.get? s.heap.objs.size=some { cls:=.type "list",data:=.seq #[] 0 }:=JN.extBut _ _ yJ (qa3 _ (RI▸qb5 _ rfl));have tK:h₁.Ns H2.objs.size fun _=>none:=by simpa using mS
 have I4:Bu (Ew X sc N' H2.objs.size s H fp) [] (aL cap σ) (upd H s.heap.objs.size (.lst [])) { s with heap:=h₁,toks:=s.toks+([]:List (Str × Value)).length }:=HA c I hC rfl hf hb tK hl old;have hfr:H s.heap.objs.size=none:=I.fresh
 have f4:∀b∈fp,M7 (Ew X sc N' H2.objs.size s H fp) [] (upd H s.heap.objs.size (.lst [])) b:=fun b hb'=>by
  obtain⟨f0,f1,f2,f3,f4,f5⟩:=hf b hb';have lb:=hb b hb';refine⟨by rw[Bb (qb8 lb)];exact f0,(qb8 (qa6 lb RJ):b≠H2.objs.size),fun z=>?_,.inl hb',fun x a e=>f4 x a (Fr (c.cells I.ok) (fun z=>by simp at z) e),fun p hp=>absurd hp (by simp[Ew])⟩;rcases qb9.mp (I.stkSub b z) with e | e
  . exact f1 e
  . exact f2 e
 have uT:tn 0 h₁:=T.keep _ _ _ st fun b _ o e=>old b o e
 have loop:∀s₅:Shared,s₅={ s with heap:=h₁,toks:=s.toks+([]:List (Str × Value)).length } →
  codeAny (model X.prog X.w) X.A (.compLoop (.ListComp elt [⟨tg,iter,ifs,0⟩] sc pos) 0 (.ref it) (.ref s.heap.objs.size) (Ew X sc N' H2.objs.size s H fp).env) (RR (.ref s.heap.objs.size) H2.objs.size) s₅:=by
  rintro s₅ rfl;refine EA (Y:=Ew X sc N' H2.objs.size s H fp) (J:=J) (fp:=fp) (tn:=tn) (Q:=Q s.heap.objs.size) rfl hc (hg _ _ _ _) (ht _ _ _ _) (he _ _ _ _) T uT f4 I4 (h _ hfr) fun τ' H' s' I' q'=>?_;obtain⟨m',hn',_⟩:=I'.loc;exact hR _ _ s' H' m' hfr RJ I'.os I'.bare I'.base I'.hok hn' I'.free (fun z=>absurd (qa6 (hb _ z) RJ) (qi5 _)) q'
 exact codeAny_compStart_list (loop _ rfl) (T.self _ 0 _ _ _ uT (loop _ rfl))
noncomputable def kI(wi:TI)(cap:List (Option Nat))(g:TG)(tc:TT)(te:TE):TE:=fun σ H Q=>wi σ H fun J H1=>∀D,H1 D=none->Pq J g tc te D (fun H'=>Q (.ref D) H') (aL cap σ) (upd H1 D (.lst []))
theorem Bu.fpCh{Ab:LAObj}{H:Hp}{fp:List Addr}(hf:∀b∈fp,M7 X Ab H b):∀b∈fp,(b∈X.ex\/X.s₀.heap.objs.size<=b)/\b≠X.env.locals/\(∀x c,X.env.cells.lookup x=some c->c≠b)/\∀p∈X.pn++Ab,p.1≠b :=
 fun b hb=>let ⟨_,f1,_,f3,f4,f5⟩:=hf b hb;⟨f3,f1,f4,f5⟩
theorem Dg{wi:TI}(hc:X.calm=true)(hcap:jW X.env.scope X.N sc N' cap=true)(hi:PI X tg iter wi)(hg:∀C s₀ H₀ fp,PG (Ew X sc N' C s₀ H₀ fp) tg g)(ht:∀C s₀ H₀ fp,NV (Ew X sc N' C s₀ H₀ fp) ifs tc)
 (he:∀C s₀ H₀ fp,PE (Ew X sc N' C s₀ H₀ fp) elt te) (hs:∀x,foldedSetIterable iter X.env x=pure x:=by intro _;rfl):PE X (.ListComp elt [⟨tg,iter,ifs,0⟩] sc pos) (kI wi cap g tc te):=by
 intro Ab s σ H Q I h;have c:Rh X sc N' cap:=BX hcap;rw[eval_ListComp];refine wpAny_comprehension_free (use:=none) rfl hs (Um (c.cells I.ok)) c.kind c.locals (Ed (hi Ab s σ H _ I h) fun v s1 h1=>Ed h1 fun itv s2 h2=>?_);obtain⟨it,fp,tn,J,H2,e,I2,T,st2,f2,hW⟩:=h2;subst e;refine Ul (RR:=fun acc C=>compPost (model X.prog X.w) X.A X.xe none (EP X Ab σ Q) acc C) (Q:=fun D H'=>Q (.ref D) H') c hc hg ht he I2 T st2 f2 hW ?_;intro D C s' H' m' hD hC hos hbare hun hok hn PZ hCf q;refine⟨m',hn,fun h' Qo=>?_⟩;have I3:Bu X Ab σ H' s':=I2.call' hos hun hok hbare (Bu.fpCh f2);have f3:M7 X Ab H' C:=I2.fpOk hC PZ;obtain⟨_,k1,_,k3,k4,k5⟩:=f3;have I4:Bu X Ab σ H' { s' with heap:=h' }:=I3.turned (t':=s'.toks) (fun b o hb e=>(Qo.2 b hb).trans e) PZ k1 k3 k4 k5;exact⟨.ref D,H',I4,rfl,q⟩
theorem BH{wi:TI}{i:Nat}{x:Str}{px spos:Pos}(hN:X.N.Nodup)(hi':X.N[i]?=some x)(hx:NH X.env.scope x)(hc:X.calm=true)(hcap:jW X.env.scope X.N sc N' cap=true)(hi:PI X tg iter wi)
 (hg:∀C s₀ H₀ fp,PG (Ew X sc N' C s₀ H₀ fp) tg g) (ht:∀C s₀ H₀ fp,NV (Ew X sc N' C s₀ H₀ fp) ifs tc) (he:∀C s₀ H₀ fp,PE (Ew X sc N' C s₀ H₀ fp) elt te)
 (hsw:swapsWith (.ListComp elt [⟨tg,iter,ifs,0⟩] sc pos) (some (.Name x px)) spos.line X.env=pure true:=by rfl)
 (hs:∀x,foldedSetIterable iter X.env x=pure x:=by intro _;rfl) (hf:X.fn x=true\/X.env.scope.names.lookup x=some .local:=by first | exact .inl rfl | exact .inr rfl | assumption) :
 PS X (.Assign [.Name x px] (.ListComp elt [⟨tg,iter,ifs,0⟩] sc pos) spos) (IG (kI wi cap g tc te) (Wn i)):=by
 intro Ab s σ H D I h;have c:Rh X sc N' cap:=BX hcap;rw[exec_Assign_Name_used _ _ _ _ hsw];refine qa5 (wpAny_standAt (qa5 ?_));show wpAny _ X.A (do let _ ←comprehension (.ListComp elt [⟨tg,iter,ifs,0⟩] sc pos) sc X.env _ (newList []) false (eval iter X.env) (some (assign (.Name x px) X.env))) _ _ s
 refine qa5 (Ed (wpAny_comprehension_free (use:=some (assign (.Name x px) X.env)) (Q:=fun _ s'=>SP X Ab D .next s') rfl hs (Um (c.cells I.ok)) c.kind c.locals
  (Ed (hi Ab s σ H _ I h) fun v s1 h1=>Ed h1 fun itv s2 h2=>?_)) fun _ s' hq=>qd3 (qd3 hq))
 obtain⟨it,fp,tn,J,H2,e,I2,T,st2,f2,hW⟩:=h2;subst e;refine Ul (RR:=fun acc C=>compPost (model X.prog X.w) X.A X.xe (some (assign (.Name x px) X.env)) (fun _ s'=>SP X Ab D .next s') acc C) (Q:=fun A H'=>Wn i (.ref A) σ H' D.nx) c hc hg ht he I2 T st2 f2 hW ?_;intro A C s' H' m' hD hC hos hbare hun hok hn PZ hCf q;have I3:Bu X Ab σ H' s':=I2.call' hos hun hok hbare (Bu.fpCh f2);have f3:M7 X Ab H' C:=I2.fpOk hC PZ;obtain⟨_,k1,_,k3,k4,k5⟩:=f3;show wpAny _ X.A (assign (.Name x px) X.env (.ref A)) _ _ s';refine wpAny_assign_Name (Vz I3 hN hi' hx (v:=.ref A) rfl (fun s'' zD _z=>?_) hf);obtain⟨a,Qo,ha⟩:=_z
 have YJ:C≠a:=by
  rcases ha with z | z
  . rw[z];exact k1
  . exact fun z'=>k4 x a z z'.symm
 refine⟨m',hn.sameBut Qo YJ,fun h' sY=>?_⟩;have I4:Bu X Ab (σ.set i (some (.ref A))) H' { s'' with heap:=h' }:=zD.turned (t':=s''.toks) (fun b o hb e=>(sY.2 b hb).trans e) PZ k1 k3 k4 k5;exact⟨_,H',I4,q⟩
end
section
variable{g:TG}{tc:TT}{te:TE}{D:Addr}{Q:Hp->Prop}{τ:St}{H:Hp}
theorem EB{K:W.Frag}{a:Addr}{xs:List V}(Pv:Nat->List V->St->Hp->Prop)(h0:Pv 0 [] τ H)(hl:∀i ys τ H,i<=xs.length->Pv i ys τ H->SqL K H a xs)
 (hs:∀i x ys τ H,xs[i]?=some x->Pv i ys τ H->g x τ H fun τ2 H2=>tc τ2 H2 fun b H3=>if b=true then te τ2 H3 fun y H4=>H4 D=some (.lst ys)/\ys.length<sizeLine/\Pv (i+1) (ys++[y]) τ2 (upd H4 D (.lst (ys++[y]))) else Pv (i+1) ys τ2 H3)
 (hd:∀ys τ H,Pv xs.length ys τ H->Q H):Pq (nJ K a) g tc te D Q τ H:=by
 refine⟨fun i m ys τ H=>m=xs.length-i/\i<=xs.length/\Pv i ys τ H,⟨xs.length,by simp,qa8 _,h0⟩,?_⟩;rintro i m ys τ H ⟨rfl,hi,p⟩;have q:=hl i ys τ H hi p;by_cases hlt:i<xs.length
 . refine .inr ⟨⟨xs,xs[i],q,by simp[hlt]⟩,Pv (i+1),fun ys' τ' H' p'=>⟨xs.length-(i+1),O9m,rfl,hlt,p'⟩,fun x H' y=>?_⟩;obtain⟨e,y⟩:=y;subst e;exact hs i x ys τ _ (y xs q) p
 . have e:i=xs.length:=O9m
   subst e;exact .inl ⟨⟨xs,q,qa0 _⟩,hd ys τ H p⟩
theorem GZ{K:W.Frag}{a:Addr}{xs:List V}(Pv:Nat->List V->St->Hp->Prop)(h0:Pv 0 [] τ H)(hl:∀i ys τ H,i<=xs.length->Pv i ys τ H->Fe K H a xs)
 (hs:∀i x ys τ H,xs[i]?=some x->Pv i ys τ H->g x τ H fun τ2 H2=>tc τ2 H2 fun b H3=>if b=true then te τ2 H3 fun y H4=>H4 D=some (.lst ys)/\ys.length<sizeLine/\Pv (i+1) (ys++[y]) τ2 (upd H4 D (.lst (ys++[y]))) else Pv (i+1) ys τ2 H3)
 (hd:∀ys τ H,Pv xs.length ys τ H->Q H):Pq (NI K a) g tc te D Q τ H:=by
 refine⟨fun i m ys τ H=>m=xs.length-i/\i<=xs.length/\Pv i ys τ H,⟨xs.length,by simp,qa8 _,h0⟩,?_⟩;rintro i m ys τ H ⟨rfl,hi,p⟩;have q:=hl i ys τ H hi p;by_cases hlt:i<xs.length
 . refine .inr ⟨⟨xs,xs[i],q,by simp[hlt]⟩,Pv (i+1),fun ys' τ' H' p'=>⟨xs.length-(i+1),O9m,rfl,hlt,p'⟩,fun x H' y=>?_⟩;obtain⟨e,y⟩:=y;subst e;exact hs i x ys τ _ (y xs q) p
 . have e:i=xs.length:=O9m
   subst e;exact .inl ⟨⟨xs,q,qa0 _⟩,hd ys τ H p⟩
theorem AK{lo:Int}{n:Nat}(Pv:Nat->List V->St->Hp->Prop)(h0:Pv 0 [] τ H)
 (hs:∀i ys τ H,i<n->Pv i ys τ H->g (.int (lo+i)) τ H fun τ2 H2=>tc τ2 H2 fun b H3=>if b=true then te τ2 H3 fun y H4=>H4 D=some (.lst ys)/\ys.length<sizeLine/\Pv (i+1) (ys++[y]) τ2 (upd H4 D (.lst (ys++[y]))) else Pv (i+1) ys τ2 H3)
 (hd:∀ys τ H,Pv n ys τ H->Q H):Pq (kB lo n) g tc te D Q τ H:=by
 refine⟨fun i m ys τ H=>m=n-i/\i<=n/\Pv i ys τ H,⟨n,by simp,qa8 _,h0⟩,?_⟩;rintro i m ys τ H ⟨rfl,hi,p⟩;by_cases hlt:i<n
 . refine .inr ⟨hlt,Pv (i+1),fun ys' τ' H' p'=>⟨n-(i+1),O9m,rfl,hlt,p'⟩,fun x H' y=>?_⟩;obtain⟨e,y⟩:=y;subst e y;exact hs i ys τ _ hlt p
 . have e:i=n:=O9m
   subst e;exact .inl ⟨qa0 _,hd ys τ H p⟩
end
end L2
namespace L2
open PySem PySem.Spec PyProof.Rows PySem.SeqAt
inductive D where
 | non | bl (b:Bool) | int (i:Int) | str (x:Str) | tup (ds:List D) | lst (ds:List D)
mutual
def Rep(K:W.Frag)(H:Hp):V->D->Prop
 | v,.non=>v=.non
 | v,.bl b=>v=.bl b
 | v,.int i=>v=.int i
 | v,.str x=>v=.str x
 | v,.tup ds=>∃a vs,v=.ref a/\Fe K H a vs/\Reps K H vs ds
 | v,.lst ds=>∃a vs,v=.ref a/\SqL K H a vs/\Reps K H vs ds
def Reps(K:W.Frag)(H:Hp):List V->List D->Prop
 | vs,[]=>vs=[]
 | vs,d::ds=>∃v r,vs=v::r/\Rep K H v d/\Reps K H r ds
end
mutual
def RE:D->Bool
 | .lst _=>false
 | .tup ds=>imms ds
 | _=>true
def imms:List D->Bool
 | []=>true
 | d::ds=>RE d&&imms ds
end
mutual
def dep:D->Nat
 | .lst ds=>deps ds+1
 | .tup ds=>deps ds+1
 | _=>0
def deps:List D->Nat
 | []=>0
 | d::ds=>max (dep d) (deps ds)
end
mutual
def eqD:D->D->Bool
 | .non,.non=>true
 | .bl a,.bl b=>a==b
 | .bl a,.int b=>(if a then 1 else 0)==b
 | .int a,.bl b=>a==(if b then 1 else 0)
 | .int a,.int b=>a==b
 | .str a,.str b=>a==b
 | .tup a,.tup b=>eqDs a b
 | .lst a,.lst b=>eqDs a b
 | _,_=>false
def eqDs:List D->List D->Bool
 | [],[]=>true
 | a::r,b::q=>eqD a b&&eqDs r q
 | _,_=>false
end
mutual
theorem Pc(d:D):eqD d d=true:=by
 cases d with
 | non=>rfl
 | bl b=>simp[eqD]
 | int b=>simp[eqD]
 | str b=>simp[eqD]
 | tup ds=>simp only[eqD];exact eqDs_refl ds
 | lst ds=>simp only[eqD];exact eqDs_refl ds
theorem eqDs_refl(ds:List D):eqDs ds ds=true:=by
 cases ds with
 | nil=>rfl
 | cons d r=>simp only[eqDs,qc5];exact⟨Pc d,eqDs_refl r⟩
end
theorem eqDs_len:∀{a b:List D},eqDs a b=true->a.length=b.length
 | [],[],_=>rfl
 | [],_::_,h=>by simp[eqDs]at h
 | _::_,[],h=>by simp[eqDs]at h
 | x::a,y::b,h=>by
   simp only[eqDs,qc5]at h;rw[qc6,qc6,eqDs_len h.2]
theorem Md:∀(a b:List D),a.length=b.length->eqDs a b=(List.range a.length).all fun j=>match a[j]?,b[j]? with | some x,some y=>eqD x y | _,_=>true
 | [],[],_=>by simp[eqDs]
 | [],_::_,h=>by simp at h
 | _::_,[],h=>by simp at h
 | x::a,y::b,h=>by
   have h':a.length=b.length:=by simpa using h
   rw[qc6,List.range_succ_eq_map,List.all_cons,List.all_map];simp only[eqDs,Md a b h']
   congr 1
structure CA(H H':Hp):Prop where
 tup:∀b xs,H b=some (.tup xs)->H' b=some (.tup xs)
 frz:∀b o u,H b=some (.frz o u)->H' b=some (.frz o u)
section
variable{K:W.Frag}{H H' H1 H2:Hp}{a l p:Addr}{xs:List V}{o:HO}
theorem Aj.t(x:Aj H H'):CA H H':=⟨fun b xs h=>x b _ h,fun b o u h=>x b _ h⟩
theorem Aj.new(h:H l=none):Aj H (upd H l o):=fun b u e=>by rw[Bb (Bj e h)];exact e
theorem Aj.turn(x:Aj H H1)(h:H l=none):Aj H (upd H1 l o):=fun b u e=>by rw[Bb (Bj e h)];exact x b u e
theorem Fe.t(x:CA H H')(h:Fe K H a xs):Fe K H' a xs:=by
 rcases h with(h|⟨o,h⟩) | h
 . exact .inl (.inl (x.tup _ _ h))
 . exact .inl (.inr ⟨o,x.frz _ _ _ h⟩)
 . exact .inr h
theorem Aj.seqT(x:Aj H H')(h:Fe K H a xs):Fe K H' a xs:=h.t x.t
mutual
theorem Rep.t(x:CA H H'){v:V}{d:D}(hi:RE d=true)(h:Rep K H v d):Rep K H' v d:=by
 cases d with
 | non=>exact h
 | bl b=>exact h
 | int i=>exact h
 | str x=>exact h
 | tup ds =>
   obtain⟨a,vs,e,q,r⟩:=h;exact⟨a,vs,e,q.t x,Reps.t x (by simpa[RE]using hi) r⟩
 | lst ds=>simp[RE]at hi
theorem Reps.t(x:CA H H'){vs:List V}{ds:List D}(hi:imms ds=true)(h:Reps K H vs ds):Reps K H' vs ds:=by
 cases ds with
 | nil=>exact h
 | cons d r =>
   obtain⟨v,q,e,h1,h2⟩:=h;simp only[imms,qc5]at hi;exact⟨v,q,e,Rep.t x hi.1 h1,Reps.t x hi.2 h2⟩
end
mutual
theorem Rep.same(x:Aj H H'){v:V}{d:D}(h:Rep K H v d):Rep K H' v d:=by
 cases d with
 | non=>exact h
 | bl b=>exact h
 | int i=>exact h
 | str x=>exact h
 | tup ds =>
   obtain⟨a,vs,e,q,r⟩:=h;exact⟨a,vs,e,x.seqT q,Reps.same x r⟩
 | lst ds =>
   obtain⟨a,vs,e,q,r⟩:=h;exact⟨a,vs,e,x.seq q,Reps.same x r⟩
theorem Reps.same(x:Aj H H'){vs:List V}{ds:List D}(h:Reps K H vs ds):Reps K H' vs ds:=by
 cases ds with
 | nil=>exact h
 | cons d r =>
   obtain⟨v,q,e,h1,h2⟩:=h;exact⟨v,q,e,Rep.same x h1,Reps.same x h2⟩
end
theorem Reps.length:∀{vs:List V}{ds:List D},Reps K H vs ds->vs.length=ds.length
 | vs,[],h=>by cases (show vs=[] from h);rfl
 | vs,d::ds,h=>by
   obtain⟨v,r,rfl,_,h2⟩:=h;rw[qc6,qc6,Reps.length h2]
theorem Reps.get:∀{vs:List V}{ds:List D}{i:Nat}{d:D},Reps K H vs ds->ds[i]?=some d->∃v,vs[i]?=some v/\Rep K H v d
 | vs,[],i,d,h,e=>by simp at e
 | vs,d0::ds,0,d,h,e=>by
   obtain⟨v,r,rfl,h1,_⟩:=h;simp only[List.getElem?_cons_zero,Option.some.injEq]at e;subst e;exact⟨v,by simp,h1⟩
 | vs,d0::ds,i+1,d,h,e=>by
   obtain⟨v,r,rfl,_,h2⟩:=h;obtain⟨u,e1,e2⟩:=Reps.get (i:=i) h2 (by simpa using e);exact⟨u,by simpa using e1,e2⟩
theorem Reps.getV:∀{vs:List V}{ds:List D}{i:Nat}{v:V},Reps K H vs ds->vs[i]?=some v->∃d,ds[i]?=some d/\Rep K H v d:=fun {vs ds i v} h e=>by
 have hl:=h.length;have hi:i<vs.length:=(qb2.mp e).1;obtain⟨d,hd⟩:∃d,ds[i]?=some d:=⟨ds[i]'(O9m),by simp<;>omega⟩
 obtain⟨u,e1,e2⟩:=h.get hd;rw[e]at e1;cases e1;exact⟨d,hd,e2⟩
noncomputable def Ea(ns:List Int):List D:=ns.map D.int
noncomputable abbrev tI(ns:List Int):D:=.tup (Ea ns)
theorem Dl:∀{vs:List V}{ns:List Int},Reps K H vs (Ea ns)↔vs=ns.map V.int
 | vs,[]=>Iff.rfl
 | vs,n::ns=>by
   constructor
   . rintro ⟨v,r,rfl,h1,h2⟩;have KY:v=.int n:=h1;rw[KY,Dl.mp h2];rfl
   . rintro rfl;exact⟨.int n,ns.map V.int,rfl,rfl,Dl.mpr rfl⟩
end
section
variable{X:Cx}{Ab:LAObj}{σ:St}{H:Hp}{s:Shared}
theorem bK(I:Bu X Ab σ H s){a:Addr}{xs ys:List V}(h:Fe X.K H a xs)(h':SqL X.K H a ys):False:=by
 obtain⟨its,r,⟨o,e,c,n,d⟩,_⟩:=I.tuple h;obtain⟨its',r',⟨o',n',e',c',_,d'⟩,_⟩:=I.list h';rw[e]at e';cases e';rw[c]at c';have z:("tuple":String)="list":=by injection c'
 exact absurd z (by decide)
mutual
theorem Rep.inj(I:Bu X Ab σ H s){v:V}{d e:D}(h:Rep X.K H v d)(h':Rep X.K H v e):d=e:=by
 cases d with
 | non=>cases (show v=.non from h);cases e<;>first | rfl | (exfalso;first | (cases (show V.non=_ from h')) | (obtain⟨_,_,z,_⟩:=h';cases z))
 | bl b=>cases (show v=.bl b from h);cases e<;>first | (cases (show V.bl b=_ from h');rfl) | (exfalso;first | (cases (show V.bl b=_ from h')) | (obtain⟨_,_,z,_⟩:=h';cases z))
 | int b=>cases (show v=.int b from h);cases e<;>first | (cases (show V.int b=_ from h');rfl) | (exfalso;first | (cases (show V.int b=_ from h')) | (obtain⟨_,_,z,_⟩:=h';cases z))
 | str b=>cases (show v=.str b from h);cases e<;>first | (cases (show V.str b=_ from h');rfl) | (exfalso;first | (cases (show V.str b=_ from h')) | (obtain⟨_,_,z,_⟩:=h';cases z))
 | tup ds =>
   obtain⟨a,vs,rfl,q,r⟩:=h;cases e with
   | tup es =>
     obtain⟨b,ws,z,q',r'⟩:=h';cases z;have e1:=I.tuple_inj q q';subst e1;rw[Reps.inj I r r']
   | lst es =>
     obtain⟨b,ws,z,q',r'⟩:=h';cases z;exact(bK I q q').elim
   | non=>cases (show V.ref a=_ from h')
   | bl _=>cases (show V.ref a=_ from h')
   | int _=>cases (show V.ref a=_ from h')
   | str _=>cases (show V.ref a=_ from h')
 | lst ds =>
   obtain⟨a,vs,rfl,q,r⟩:=h;cases e with
   | lst es =>
     obtain⟨b,ws,z,q',r'⟩:=h';cases z;have e1:=I.list_inj q q';subst e1;rw[Reps.inj I r r']
   | tup es =>
     obtain⟨b,ws,z,q',r'⟩:=h';cases z;exact(bK I q' q).elim
   | non=>cases (show V.ref a=_ from h')
   | bl _=>cases (show V.ref a=_ from h')
   | int _=>cases (show V.ref a=_ from h')
   | str _=>cases (show V.ref a=_ from h')
theorem Reps.inj(I:Bu X Ab σ H s){vs:List V}{ds es:List D}(h:Reps X.K H vs ds)(h':Reps X.K H vs es):ds=es:=by
 cases ds with
 | nil =>
   cases (show vs=[] from h);cases es with
   | nil=>rfl
   | cons e es=>obtain⟨_,_,z,_⟩:=h';cases z
 | cons d ds =>
   obtain⟨v,r,rfl,h1,h2⟩:=h;cases es with
   | nil=>cases (show v::r=[] from h')
   | cons e es =>
     obtain⟨v',r',z,KY,h2'⟩:=h';cases z;rw[Rep.inj I h1 KY,Reps.inj I h2 h2']
end
noncomputable def EqD(X:Cx)(H:Hp)(s:Shared)(d:D):Prop:=∀(A:Around) (x y:V) (u v:Value) (e:D),A.units+dep d<cLine->Rep X.K H x d->Rep X.K H y e->RelV x u->RelV y v->RcAt A s u v (eqD d e)/\EqAt A s u v (eqD d e)
theorem Xd(I:Bu X Ab σ H s){ds es:List D}{vs ws:List V}{us us':List Value}{A:Around}(hu:A.units+deps ds<cLine)(r:Reps X.K H vs ds)(r':Reps X.K H ws es)(rv:Cg vs us)(bG:Cg ws us')
 (ih:∀d∈ds,EqD X H s d) (XW:∀d∈ds,dep d<=deps ds):∀j (h1:j<us.toArray.size) (h2:j<us'.toArray.size),EqAt A s us.toArray[j] us'.toArray[j] (match ds[j]?,es[j]? with | some x,some y=>eqD x y | _,_=>true):=by
 intro j h1 h2;have l1:=r.length;have l2:=r'.length;have l3:=rv.length;have l4:=bG.length;have KY:j<us.length:=by simpa using h1
 have h2':j<us'.length:=by simpa using h2
 have e1:ds[j]?=some (ds[j]'(O9m)):=by simp<;>omega
 have e2:es[j]?=some (es[j]'(O9m)):=by simp<;>omega
 obtain⟨v,ev,rd⟩:=r.get e1;obtain⟨w,ew,re⟩:=r'.get e2;obtain⟨u,eu,ru⟩:=rv.get ev;obtain⟨u',yR,WQ⟩:=bG.get ew
 have f1:us.toArray[j]=u:=by
  have:us[j]?=some us[j]:=by simp
  rw[eu]at this;have:=(qd7 this).symm;simpa using this
 have f2:us'.toArray[j]=u':=by
  have:us'[j]?=some us'[j]:=by simp
  rw[yR]at this;have:=(qd7 this).symm;simpa using this
 rw[f1,f2,e1,e2];have hm:ds[j]'(O9m)∈ds:=qk0 _;exact(ih _ hm A v w u u' _ (by have:=XW _ hm;omega) rd re ru WQ).2
theorem Ms:∀{ds:List D}{d:D},d∈ds->dep d<=deps ds
 | d0::ds,d,h=>by
   simp only[deps];rcases qb9.mp h with rfl | h
   . omega
   . have:=Ms h;omega
theorem Mn{a b:List D}(h:¬a.length=b.length):eqDs a b=false:=by
 cases q:eqDs a b with
 | false=>rfl
 | true=>exact absurd (eqDs_len q) h
mutual
theorem gP(I:Bu X Ab σ H s)(d:D):EqD X H s d:=by
 intro A x y u v e hu hx hy rx ry;cases d with
 | non =>
   cases (show x=.non from hx);cases (show u=Value.none from rx);cases e with
   | non=>cases (show y=.non from hy);cases (show v=Value.none from ry);exact⟨.none_none,.same _⟩
   | bl b=>cases (show y=.bl b from hy);cases (show v=Value.bool b from ry);exact⟨.none_bool b,.none_bool b⟩
   | int i=>cases (show y=.int i from hy);obtain⟨t,rfl⟩:=ry;exact⟨.none_int i t,.none_int i t⟩
   | str z=>cases (show y=.str z from hy);obtain⟨t,rfl⟩:=ry;exact⟨.none_str z t,.none_str z t⟩
   | tup es=>obtain⟨a,vs,rfl,q,r⟩:=hy;cases ry;obtain⟨its,_,p,_⟩:=I.tuple q;exact⟨.none_tuple p O9m,.none_tuple p O9m⟩
   | lst es=>obtain⟨a,vs,rfl,q,r⟩:=hy;cases ry;obtain⟨its,_,p,_⟩:=I.list q;exact⟨.none_list p.isList O9m,.none_list p.isList O9m⟩
 | bl c =>
   cases (show x=.bl c from hx);cases (show u=Value.bool c from rx);cases e with
   | non=>cases (show y=.non from hy);cases (show v=Value.none from ry);exact⟨.bool_none c,.bool_none c⟩
   | bl b=>cases (show y=.bl b from hy);cases (show v=Value.bool b from ry);exact⟨.bool_bool c b,.bool_bool c b⟩
   | int i=>cases (show y=.int i from hy);obtain⟨t,rfl⟩:=ry;exact⟨.bool_int c i t,.bool_int c i t⟩
   | str z=>cases (show y=.str z from hy);obtain⟨t,rfl⟩:=ry;exact⟨.bool_str c z t,.bool_str c z t⟩
   | tup es=>obtain⟨a,vs,rfl,q,r⟩:=hy;cases ry;obtain⟨its,_,p,_⟩:=I.tuple q;exact⟨.bool_tuple c p O9m,.bool_tuple c p O9m⟩
   | lst es=>obtain⟨a,vs,rfl,q,r⟩:=hy;cases ry;obtain⟨its,_,p,_⟩:=I.list q;exact⟨.bool_list c p.isList O9m,.bool_list c p.isList O9m⟩
 | int c =>
   cases (show x=.int c from hx);obtain⟨t,rfl⟩:=rx;cases e with
   | non=>cases (show y=.non from hy);cases (show v=Value.none from ry);exact⟨.int_none c t,.int_none c t⟩
   | bl b=>cases (show y=.bl b from hy);cases (show v=Value.bool b from ry);exact⟨.int_bool c t b,.int_bool c t b⟩
   | int i=>cases (show y=.int i from hy);obtain⟨t',rfl⟩:=ry;exact⟨.int_int c t i t',.int_int c t i t'⟩
   | str z=>cases (show y=.str z from hy);obtain⟨t',rfl⟩:=ry;exact⟨.int_str c t z t',.int_str c t z t'⟩
   | tup es=>obtain⟨a,vs,rfl,q,r⟩:=hy;cases ry;obtain⟨its,_,p,_⟩:=I.tuple q;exact⟨.int_tuple c t p O9m,.int_tuple c t p O9m⟩
   | lst es=>obtain⟨a,vs,rfl,q,r⟩:=hy;cases ry;obtain⟨its,_,p,_⟩:=I.list q;exact⟨.int_list c t p.isList O9m,.int_list c t p.isList O9m⟩
 | str c =>
   cases (show x=.str c from hx);obtain⟨t,rfl⟩:=rx;cases e with
   | non=>cases (show y=.non from hy);cases (show v=Value.none from ry);exact⟨.str_none c t,.str_none c t⟩
   | bl b=>cases (show y=.bl b from hy);cases (show v=Value.bool b from ry);exact⟨.str_bool c t b,.str_bool c t b⟩
   | int i=>cases (show y=.int i from hy);obtain⟨t',rfl⟩:=ry;exact⟨.str_int c t i t',.str_int c t i t'⟩
   | str z=>cases (show y=.str z from hy);obtain⟨t',rfl⟩:=ry;exact⟨.str_str c t z t',.str_str c t z t'⟩
   | tup es=>obtain⟨a,vs,rfl,q,r⟩:=hy;cases ry;obtain⟨its,_,p,_⟩:=I.tuple q;exact⟨.str_tuple c t p O9m,.str_tuple c t p O9m⟩
   | lst es=>obtain⟨a,vs,rfl,q,r⟩:=hy;cases ry;obtain⟨its,_,p,_⟩:=I.list q;exact⟨.str_list c t p.isList O9m,.str_list c t p.isList O9m⟩
 | tup ds =>
   have hx':=hx;obtain⟨a,vs,rfl,q,r⟩:=hx;cases rx;obtain⟨its,rv,p,_⟩:=I.tuple q;have SW:A.units+1+deps ds<cLine:=by simp only[dep]at hu;omega
   cases e with
   | non=>cases (show y=.non from hy);cases (show v=Value.none from ry);exact⟨.tuple_none p O9m,.tuple_none p O9m⟩
   | bl b=>cases (show y=.bl b from hy);cases (show v=Value.bool b from ry);exact⟨.tuple_bool b p O9m,.tuple_bool b p O9m⟩
   | int i=>cases (show y=.int i from hy);obtain⟨t',rfl⟩:=ry;exact⟨.tuple_int i t' p O9m,.tuple_int i t' p O9m⟩
   | str z=>cases (show y=.str z from hy);obtain⟨t',rfl⟩:=ry;exact⟨.tuple_str z t' p O9m,.tuple_str z t' p O9m⟩
   | lst es=>obtain⟨b,ws,rfl,q',r'⟩:=hy;cases ry;obtain⟨its',_,p',_⟩:=I.list q';exact⟨.tuple_list p p'.isList O9m,.tuple_list p p'.isList O9m⟩
   | tup es =>
     have hy':=hy;obtain⟨b,ws,rfl,q',r'⟩:=hy;cases ry;obtain⟨its',bG,p',_⟩:=I.tuple q'
     have main:RcAt A s (.ref a) (.ref b) (eqD (.tup ds) (.tup es)):=by
      have:=RcAt.tuples (A:=A) p p' O9m (Xd I (A:=A.in1) (by show A.units+1+deps ds<cLine;omega) r r' rv bG (eqDs_ok I ds) fun d h=>Ms h);have l1:=r.length;have l2:=r'.length;have l3:=rv.length;have l4:=bG.length;have e1:its.toArray.size=ds.length:=by simp<;>omega
      have e2:its'.toArray.size=es.length:=by simp<;>omega
      rw[e1,e2]at this;simp only[eqD];by_cases hl:ds.length=es.length
      . rw[Md ds es hl];rw[←hl,qp1]at this;simpa using this
      . rw[Mn hl];have z:(ds.length==es.length)=false:=by simpa using hl
        rw[z,qn1]at this;exact this
     refine⟨main,?_⟩;by_cases hab:a=b
     . subst hab;have e3:D.tup ds=D.tup es:=Rep.inj I hx' hy';rw[e3,Pc];exact .same _
     . exact .of_refs hab main
 | lst ds =>
   have hx':=hx;obtain⟨a,vs,rfl,q,r⟩:=hx;cases rx;obtain⟨its,rv,p,_⟩:=I.list q;have SW:A.units+1+deps ds<cLine:=by simp only[dep]at hu;omega
   cases e with
   | non=>cases (show y=.non from hy);cases (show v=Value.none from ry);exact⟨.list_none p.isList O9m,.list_none p.isList O9m⟩
   | bl b=>cases (show y=.bl b from hy);cases (show v=Value.bool b from ry);exact⟨.list_bool b p.isList O9m,.list_bool b p.isList O9m⟩
   | int i=>cases (show y=.int i from hy);obtain⟨t',rfl⟩:=ry;exact⟨.list_int i t' p.isList O9m,.list_int i t' p.isList O9m⟩
   | str z=>cases (show y=.str z from hy);obtain⟨t',rfl⟩:=ry;exact⟨.list_str z t' p.isList O9m,.list_str z t' p.isList O9m⟩
   | tup es=>obtain⟨b,ws,rfl,q',r'⟩:=hy;cases ry;obtain⟨its',_,p',_⟩:=I.tuple q';exact⟨.list_tuple p.isList p' O9m,.list_tuple p.isList p' O9m⟩
   | lst es =>
     have hy':=hy;obtain⟨b,ws,rfl,q',r'⟩:=hy;cases ry;obtain⟨its',bG,p',_⟩:=I.list q'
     have main:RcAt A s (.ref a) (.ref b) (eqD (.lst ds) (.lst es)):=by
      have l1:=r.length;have l2:=r'.length;have l3:=rv.length;have l4:=bG.length;have e1:its.toArray.size=ds.length:=by simp<;>omega
      have e2:its'.toArray.size=es.length:=by simp<;>omega
      simp only[eqD];by_cases hl:ds.length=es.length
      . have:=RcAt.lists (A:=A) p.isList p'.isList O9m O9m (Xd I (A:=A.in1) (by show A.units+1+deps ds<cLine;omega) r r' rv bG (eqDs_ok I ds) fun d h=>Ms h);rw[e1]at this;rw[Md ds es hl];exact this
      . rw[Mn hl];exact RcAt.lists_lengths p.isList p'.isList (by simpa[e1,e2]using hl) O9m
     refine⟨main,?_⟩;by_cases hab:a=b
     . subst hab;have e3:D.lst ds=D.lst es:=Rep.inj I hx' hy';rw[e3,Pc];exact .same _
     . exact .of_refs hab main
theorem eqDs_ok(I:Bu X Ab σ H s)(ds:List D):∀d∈ds,EqD X H s d:=by
 cases ds with
 | nil=>exact fun _ h=>nomatch h
 | cons d0 r =>
   intro d h;rcases qb9.mp h with e | h
   . exact e▸gP I d0
   . exact eqDs_ok I r d h
end
end
end L2
namespace L2
open PySem PySem.Spec PyProof.Rows PySem.SeqAt
section
variable{X:Cx}
noncomputable def nT(X:Cx)(H:Hp)(d:D)(u:Value):Bool:=@decide (∃v e,RelV v u/\Rep X.K H v e/\eqD e d=true) (Classical.propDecidable _)
theorem gO{Ab:LAObj}{σ:St}{H:Hp}{s:Shared}(I:Bu X Ab σ H s){d e:D}{v:V}{u:Value}(r:RelV v u)(h:Rep X.K H v e):nT X H d u=eqD e d:=by
 cases q:eqD e d with
 | true=>exact @qj1 _ (Classical.propDecidable _) ⟨v,e,r,h,q⟩
 | false =>
   refine @qf0 _ (Classical.propDecidable _) ?_;rintro ⟨v',e',r',h',q'⟩;have:=r.inj r';subst this;rw[Rep.inj I h h']at q;rw[q]at q';cases q'
theorem GO{Ab:LAObj}{σ:St}{H:Hp}{s:Shared}(I:Bu X Ab σ H s){A:Around}{x:V}{v:Value}{d:D}{vs:List V}{us:List Value}{ds:List D}(hu:A.units+deps ds<cLine)(hx:Rep X.K H x d)(rx:RelV x v)
 (r:Reps X.K H vs ds) (rv:Cg vs us):∀y,y∈us.toArray->EqAt A s y v (nT X H d y):=by
 intro y hy;have hy':y∈us:=by simpa using hy
 obtain⟨i,hi⟩:=qm3 hy';have hlt:i<us.length:=(qb2.mp hi).1;have l1:=rv.length;obtain⟨w,hw⟩:∃w,vs[i]?=some w:=⟨vs[i]'(O9m),by simp<;>omega⟩
 obtain⟨u,mR,ru⟩:=rv.get hw;rw[hi]at mR;cases mR;obtain⟨e,he,re⟩:=r.getV hw;rw[gO I ru re];have hm:e∈ds:=qe2 he;exact(gP I e A w x y v d (by have:=Ms hm;omega) re hx ru rx).2
theorem cA{Ab:LAObj}{σ:St}{H:Hp}{s:Shared}(I:Bu X Ab σ H s){d:D}:∀{vs:List V}{us:List Value}{ds:List D},Reps X.K H vs ds->Cg vs us->us.any (nT X H d)=ds.any fun e=>eqD e d
 | vs,us,[],r,rv=>by
   cases (show vs=[] from r);cases rv;rfl
 | vs,us,e::ds,r,rv=>by
   obtain⟨v,q,rfl,h1,h2⟩:=r;cases rv with
   | cons r1 r2=>rw[List.any_cons,List.any_cons,gO I r1 h1,cA I h2 r2]
noncomputable def uK(K:W.Frag)(H:Hp)(y:V)(ds:List D):Prop:=Rep K H y (.lst ds)\/Rep K H y (.tup ds)
noncomputable def OU(K:W.Frag)(n:Nat)(neg:Bool):R2:=fun x y H Q=>∃d ds,Rep K H x d/\uK K H y ds/\deps ds+1<=n/\Q (.bl (if neg then !(ds.any fun e=>eqD e d) else ds.any fun e=>eqD e d)) H
theorem mD{n:Nat}(hu:X.A.units+n<cLine):Pr X (compareOp .In) (OU X.K n false):=by
 intro Ab s σ H x y v u Q I rx ry h;obtain⟨d,ds,hx,hs,hn,q⟩:=h
 have fin:∀{us:List Value}{vs:List V},Reps X.K H vs ds->Cg vs us->EP X Ab σ Q (.bool (us.toArray.any (nT X H d))) s:=fun r rv =>
  ⟨.bl (ds.any fun e=>eqD e d),H,I,by show Value.bool _=Value.bool _;rw[List.any_toArray,cA I r rv],q⟩
 rcases hs with⟨a,vs,rfl,hq,r⟩|⟨a,vs,rfl,hq,r⟩
 . cases ry;obtain⟨its,rv,p,_⟩:=I.list hq;exact in_listAt (nT X H d) p.isList (GO I (A:=X.A.in1) (by show X.A.units+1+deps ds<cLine;omega) hx rx r rv) (fin r rv)
 . cases ry;obtain⟨its,rv,p,_⟩:=I.tuple hq;exact in_tupleAt (nT X H d) p (GO I (A:=X.A.in1) (by show X.A.units+1+deps ds<cLine;omega) hx rx r rv) (fin r rv)
noncomputable def OT(K:W.Frag)(n:Nat):R2:=fun x y H Q=>∃d e,Rep K H x d/\Rep K H y e/\dep d<=n/\Q (.bl (!eqD d e)) H
theorem MC{n:Nat}(hu:X.A.units+n<cLine):Pr X (compareOp .NotEq) (OT X.K n):=by
 intro Ab s σ H x y v u Q I rx ry h;obtain⟨d,e,hd,he,hn,q⟩:=h;have fin:EP X Ab σ Q (.bool (!eqD d e)) s:=⟨.bl (!eqD d e),H,I,rfl,q⟩
 have go:∀{k:Bool},RcNeAt X.A s v u k->k=(!eqD d e)->wpAny (model X.prog X.w) X.A (compareOp .NotEq v u) (EP X Ab σ Q) X.xe s:=fun h1 h2=>by
  subst h2;exact h1 X.prog X.w X.xe _ fin
 cases d with
 | non =>
   cases (show x=.non from hd);cases (show v=Value.none from rx);cases e with
   | non=>cases (show y=.non from he);cases (show u=Value.none from ry);exact go .none_none rfl
   | bl b=>cases (show y=.bl b from he);cases (show u=Value.bool b from ry);exact go (.none_bool b) rfl
   | int i=>cases (show y=.int i from he);obtain⟨t,rfl⟩:=ry;exact go (.none_int i t) rfl
   | str z=>cases (show y=.str z from he);obtain⟨t,rfl⟩:=ry;exact go (.none_str z t) rfl
   | tup es=>obtain⟨a,vs,rfl,q,r⟩:=he;cases ry;obtain⟨its,_,p,_⟩:=I.tuple q;exact go (.none_tuple p O9m) rfl
   | lst es=>obtain⟨a,vs,rfl,q,r⟩:=he;cases ry;obtain⟨its,_,p,_⟩:=I.list q;exact go (.none_list p.isList O9m) rfl
 | bl c =>
   cases (show x=.bl c from hd);cases (show v=Value.bool c from rx);cases e with
   | non=>cases (show y=.non from he);cases (show u=Value.none from ry);exact go (.bool_none c) rfl
   | bl b=>cases (show y=.bl b from he);cases (show u=Value.bool b from ry);exact go (.bool_bool c b) rfl
   | int i=>cases (show y=.int i from he);obtain⟨t,rfl⟩:=ry;exact go (.bool_int c i t) rfl
   | str z=>cases (show y=.str z from he);obtain⟨t,rfl⟩:=ry;exact go (.bool_str c z t) rfl
   | tup es=>obtain⟨a,vs,rfl,q,r⟩:=he;cases ry;obtain⟨its,_,p,_⟩:=I.tuple q;exact go (.bool_tuple c p O9m) rfl
   | lst es=>obtain⟨a,vs,rfl,q,r⟩:=he;cases ry;obtain⟨its,_,p,_⟩:=I.list q;exact go (.bool_list c p.isList O9m) rfl
 | int c =>
   cases (show x=.int c from hd);obtain⟨t,rfl⟩:=rx;cases e with
   | non=>cases (show y=.non from he);cases (show u=Value.none from ry);exact go (.int_none c t) rfl
   | bl b=>cases (show y=.bl b from he);cases (show u=Value.bool b from ry);exact go (.int_bool c t b) rfl
   | int i=>cases (show y=.int i from he);obtain⟨t',rfl⟩:=ry;exact go (.int_int c t i t') rfl
   | str z=>cases (show y=.str z from he);obtain⟨t',rfl⟩:=ry;exact go (.int_str c t z t') rfl
   | tup es=>obtain⟨a,vs,rfl,q,r⟩:=he;cases ry;obtain⟨its,_,p,_⟩:=I.tuple q;exact go (.int_tuple c t p O9m) rfl
   | lst es=>obtain⟨a,vs,rfl,q,r⟩:=he;cases ry;obtain⟨its,_,p,_⟩:=I.list q;exact go (.int_list c t p.isList O9m) rfl
 | str c =>
   cases (show x=.str c from hd);obtain⟨t,rfl⟩:=rx;cases e with
   | non=>cases (show y=.non from he);cases (show u=Value.none from ry);exact go (.str_none c t) rfl
   | bl b=>cases (show y=.bl b from he);cases (show u=Value.bool b from ry);exact go (.str_bool c t b) rfl
   | int i=>cases (show y=.int i from he);obtain⟨t',rfl⟩:=ry;exact go (.str_int c t i t') rfl
   | str z=>cases (show y=.str z from he);obtain⟨t',rfl⟩:=ry;exact go (.str_str c t z t') rfl
   | tup es=>obtain⟨a,vs,rfl,q,r⟩:=he;cases ry;obtain⟨its,_,p,_⟩:=I.tuple q;exact go (.str_tuple c t p O9m) rfl
   | lst es=>obtain⟨a,vs,rfl,q,r⟩:=he;cases ry;obtain⟨its,_,p,_⟩:=I.list q;exact go (.str_list c t p.isList O9m) rfl
 | tup ds =>
   obtain⟨a,vs,rfl,q1,r⟩:=hd;cases rx;obtain⟨its,rv,p,_⟩:=I.tuple q1;have SW:X.A.units+1+deps ds<cLine:=by simp only[dep]at hn;omega
   cases e with
   | non=>cases (show y=.non from he);cases (show u=Value.none from ry);exact go (.tuple_none p O9m) rfl
   | bl b=>cases (show y=.bl b from he);cases (show u=Value.bool b from ry);exact go (.tuple_bool b p O9m) rfl
   | int i=>cases (show y=.int i from he);obtain⟨t',rfl⟩:=ry;exact go (.tuple_int i t' p O9m) rfl
   | str z=>cases (show y=.str z from he);obtain⟨t',rfl⟩:=ry;exact go (.tuple_str z t' p O9m) rfl
   | lst es=>obtain⟨b,ws,rfl,q',r'⟩:=he;cases ry;obtain⟨its',_,p',_⟩:=I.list q';exact go (.tuple_list p p'.isList O9m) rfl
   | tup es =>
     obtain⟨b,ws,rfl,q',r'⟩:=he;cases ry;obtain⟨its',bG,p',_⟩:=I.tuple q';refine go (RcNeAt.tuples p p' O9m (Xd I (A:=X.A.in1) (by show X.A.units+1+deps ds<cLine;omega) r r' rv bG (eqDs_ok I ds) fun d h=>Ms h)) ?_;have l1:=r.length;have l2:=r'.length;have l3:=rv.length;have l4:=bG.length;have e1:its.toArray.size=ds.length:=by simp<;>omega
     have e2:its'.toArray.size=es.length:=by simp<;>omega
     rw[e1,e2];simp only[eqD];by_cases hl:ds.length=es.length
     . rw[Md ds es hl,←hl,qp1];simp
     . rw[Mn hl];have z:(ds.length==es.length)=false:=by simpa using hl
       rw[z,qn1]
 | lst ds =>
   obtain⟨a,vs,rfl,q1,r⟩:=hd;cases rx;obtain⟨its,rv,p,_⟩:=I.list q1;have SW:X.A.units+1+deps ds<cLine:=by simp only[dep]at hn;omega
   cases e with
   | non=>cases (show y=.non from he);cases (show u=Value.none from ry);exact go (.list_none p.isList O9m) rfl
   | bl b=>cases (show y=.bl b from he);cases (show u=Value.bool b from ry);exact go (.list_bool b p.isList O9m) rfl
   | int i=>cases (show y=.int i from he);obtain⟨t',rfl⟩:=ry;exact go (.list_int i t' p.isList O9m) rfl
   | str z=>cases (show y=.str z from he);obtain⟨t',rfl⟩:=ry;exact go (.list_str z t' p.isList O9m) rfl
   | tup es=>obtain⟨b,ws,rfl,q',r'⟩:=he;cases ry;obtain⟨its',_,p',_⟩:=I.tuple q';exact go (.list_tuple p.isList p' O9m) rfl
   | lst es =>
     obtain⟨b,ws,rfl,q',r'⟩:=he;cases ry;obtain⟨its',bG,p',_⟩:=I.list q';have l1:=r.length;have l2:=r'.length;have l3:=rv.length;have l4:=bG.length;have e1:its.toArray.size=ds.length:=by simp<;>omega
     have e2:its'.toArray.size=es.length:=by simp<;>omega
     by_cases hl:ds.length=es.length
     . refine go (RcNeAt.lists p.isList p'.isList O9m O9m (Xd I (A:=X.A.in1) (by show X.A.units+1+deps ds<cLine;omega) r r' rv bG (eqDs_ok I ds) fun d h=>Ms h)) ?_;rw[e1];simp only[eqD];rw[Md ds es hl]
     . refine go (RcNeAt.lists_lengths p.isList p'.isList (by simpa[e1,e2]using hl) O9m) ?_;simp only[eqD];rw[Mn hl];rfl
noncomputable def g7(n:String):D->Bool
 | .non=>false
 | .bl _=>n=="int" || n=="bool"
 | .int _=>n=="int"
 | .str _=>n=="str"
 | .tup _=>n=="tuple"
 | .lst _=>n=="list"
noncomputable def UQ:D->String
 | .non=>"NoneType"
 | .bl _=>"bool"
 | .int _=>"int"
 | .str _=>"str"
 | .tup _=>"tuple"
 | .lst _=>"list"
theorem GF{K:W.Frag}{n:String}{d:D}(hn:n="int"\/n="bool"\/n="str"\/n="tuple"\/n="list"\/n="dict"):PySem.W.kitOne K (.type (UQ d)) (.type n)=some (g7 n d):=by
 rcases hn with rfl | rfl | rfl | rfl | rfl | rfl<;>cases d<;>(unfold PySem.W.kitOne PySem.W.kitCls PySem.W.subIn UQ g7;first | rfl | decide +kernel)
theorem Mf:E7 X (.builtin "isinstance") (fun xs H Q=>∃x n d,xs=[x,.ty n]/\(n="int"\/n="bool"\/n="str"\/n="tuple"\/n="list"\/n="dict")/\Rep X.K H x d/\Q (.bl (g7 n d)) H):=by
 intro Ab s σ H xs us Q I r h;obtain⟨x,n,d,rfl,hn,hx,q⟩:=h;obtain⟨u,v,rfl,rx,rt⟩:=Vv r;cases rt;have k:=GF (K:=X.K) (d:=d) hn;have fin:∀tk,EP X Ab σ Q (.bool (g7 n d)) { s with toks:=tk }:=fun tk=>⟨.bl (g7 n d),H,I.tok tk,rfl,q⟩
 cases d with
 | non=>cases (show x=.non from hx);cases (show u=Value.none from rx);exact qj2 PySem.W.kitx_none I.kIn True.intro k (fun z=>nomatch z) fin
 | bl b=>cases (show x=.bl b from hx);cases (show u=Value.bool b from rx);exact qj2 PySem.W.kitx_bool I.kIn True.intro k (fun z=>nomatch z) fin
 | int b=>cases (show x=.int b from hx);obtain⟨t,rfl⟩:=rx;exact qj2 PySem.W.kitx_int I.kIn True.intro k (fun z=>nomatch z) fin
 | str b=>cases (show x=.str b from hx);obtain⟨t,rfl⟩:=rx;exact qj2 PySem.W.kitx_str I.kIn True.intro k (fun z=>nomatch z) fin
 | tup ds =>
   obtain⟨a,vs,rfl,hq,_⟩:=hx;cases rx;obtain⟨its,_,⟨o,e,c,_⟩,_⟩:=I.tuple hq;exact qj2 PySem.W.kitx_tuple I.kIn ⟨o,e,c⟩ k (fun z=>nomatch z) fin
 | lst ds =>
   obtain⟨a,vs,rfl,hq,_⟩:=hx;cases rx;obtain⟨its,_,⟨o,_,e,c,_⟩,_⟩:=I.list hq;exact qj2 PySem.W.kitx_list I.kIn ⟨o,e,c⟩ k (fun z=>nomatch z) fin
noncomputable def FJ(K:W.Frag):R2:=fun x y H Q=>∃l b xs zs,x=.ref l/\y=.ref b/\SqL K H l xs/\SqL K H b zs/\xs.length+zs.length<=sizeLine/\∀p,H p=none->Q (.ref p) (upd H p (.lst (xs++zs)))
theorem fS:Pr X (binaryOp .Add) (FJ X.K):=by
 intro Ab s σ H x y v u Q I rx ry h;obtain⟨l,b,xs,zs,rfl,rfl,hl,hb,hz,q⟩:=h;cases rx;cases ry;obtain⟨its,r1,p1,_⟩:=I.list hl;obtain⟨its2,r2,p2,_⟩:=I.list hb;obtain⟨⟨cls,dd,data,sl⟩,n,ho,hc,hdd,hd⟩:=id p1;obtain⟨⟨YZ,dd2,data2,sl2⟩,n2,ho2,hc2,hdd2,hd2⟩:=id p2;simp only at hc hd hc2 hd2;subst hc hd hc2 hd2
 refine concat_meets ⟨_,ho,rfl⟩ ⟨_,ho2,rfl⟩ noFill_list_add seq_list_add PySem.F.slot_list_add PySem.F.entry_list_add (PySem.F.args_list_add_2 _ _)
  (list_addW l b its.toArray its2.toArray n n2 dd dd2 sl sl2 (by rw[qb3,qb3,←r1.length,←r2.length];exact hz)) ⟨ho,ho2,?_⟩
 rw[show its.toArray++its2.toArray=(its++its2).toArray by simp];exact⟨.ref s.heap.objs.size,_,I.lnew (t':=s.toks) (r1.append r2) (by rw[qe5];exact hz),rfl,q _ I.fresh⟩
theorem EG(hc:X.calm=true):E7 X (.builtin "all") (fun xs H Q=>∃(p:Addr) (bs:List Bool),xs=[.ref p]/\SqL X.K H p (bs.map V.bl)/\Q (.bl (bs.all id)) H):=by
 intro Ab s σ H xs us Q I r h;obtain⟨p,bs,rfl,hq,q⟩:=h;obtain⟨u,rfl,ru⟩:=Om r;cases ru;obtain⟨its,rv,pl,hz⟩:=I.list hq;have hh:X.A.handled=none:=I.ok.hd hc
 have rel:∀(i:Nat) (v:Value),its.toArray[i]?=some v->∃b,bs[i]?=some b/\v=.bool b:=fun i v e=>by
  have e':its[i]?=some v:=by simpa using e
  have hlt:i<its.length:=(qb2.mp e').1;have l1:=rv.length;rw[qa2]at l1;have hb:bs[i]?=some (bs[i]'(O9m)):=by simp<;>omega
  obtain⟨u,hu,ru⟩:=rv.get (i:=i) (x:=V.bl (bs[i]'(O9m))) (by rw[qb7,hb];rfl);rw[e']at hu;cases hu;exact⟨_,hb,ru⟩
 refine call_all_walk (qp0 pl.isList ?_);refine⟨s.heap.objs.size,[s.heap.objs.size,p],[s.heap.objs.size],its.toArray.size,_,_,fun i=>(bs[i]?).getD true,rfl,Walks.list (show X.A.in1.handled=none from hh) s.heap.objs.size p ?_ its.toArray,⟨⟨_,qb5 _ rfl,rfl,rfl⟩,?_⟩,?_,fun h' tk k=>?_⟩
 . obtain⟨o,_,ho,_⟩:=pl;exact qb8 (qa7 ho)
 . exact pl.isList.at fun o e=>qa3 _ e
 . intro i v s' Q' E' hv hQ;obtain⟨b,hb,rfl⟩:=rel i v hv;dsimp only at hQ;rw[hb]at hQ;exact qi8 hQ
 . have e:(List.range its.toArray.size).all (fun i=>(bs[i]?).getD true)=bs.all id:=by
    have l1:=rv.length;rw[qa2]at l1;rw[qb3,←l1];rw[ql1,qh8,qh8];constructor
    . intro hx b hb;obtain⟨i,hi⟩:=qm3 hb;have:=hx i (qj7.mpr (qb2.mp hi).1);rw[hi]at this;exact this
    . intro hx i hi;have hlt:=qj7.mp hi;have hb:bs[i]?=some bs[i]:=by simp
      rw[hb];exact hx _ (qk0 _)
   rw[e];have I1:Bu X Ab σ H { s with heap:=h',toks:=tk }:=I.kept (fun b o e=>k b o (by simp;exact qb8 (qa7 e)) (qa3 _ e));exact⟨.bl (bs.all id),H,I1,rfl,q⟩
end
structure Has(P:Program)(w:World)(K:W.Frag)(mg:Str->Option Value)(base:Heap)(x:Str)(ps:List Str)(k:Nat)(sp:Sp):Prop where
 ex:∃(f:Addr) (fd:FuncData),mg x=some (.ref f)/\W.keepIn K (.ref f)=true/\Gb K fd ps []/\Cj P w K mg base Fw k f fd ps sp
section
variable{X:Cx}{x:Str}{ps:List Str}{j k:Nat}{sp:Sp}{p pos:Pos}{e:Expr}{es:List Expr}{t:TA}
theorem Ba(h:Has X.prog X.w X.K X.mg X.base x ps j sp)(hr:Eg k X.A)(ha:PA X (e::es) t)(hg:Gl X x:=by rfl)(hk:j<=k:=by decide)(hdb:(x==("__debug__":Str))=false:=by decide)
 (he:starEach (e::es) X.env=(false,eval e X.env)::starEach es X.env:=by rfl) (hpl:(backTo pos (starEach es X.env)).any (·.1)=false:=by rfl):PE X (.Call (.Name x p) (e::es) [] pos) (tCall sp [] E0 t):=by
 obtain⟨f,fd,h1,h2,h3,h4⟩:=h.ex;exact IY h4 (hr.mono hk) hg h1 h2 h3 .nil Z5 ha hdb he hpl
end
theorem boot_intT:bootBuiltins "int"=some (.type "int"):=by decide +kernel
theorem Up:bootBuiltins "bool"=some (.type "bool"):=by decide +kernel
theorem Gz:bootBuiltins "tuple"=some (.type "tuple"):=by decide +kernel
theorem Fp:bootBuiltins "list"=some (.type "list"):=by decide +kernel
theorem EI:bootBuiltins "min"=some (.builtin "min"):=by decide +kernel
theorem Wv:bootBuiltins "all"=some (.builtin "all"):=by decide +kernel
theorem Bi:bootBuiltins "isinstance"=some (.builtin "isinstance"):=by decide +kernel
end L2
namespace L2
open PySem PySem.Spec PyProof.Rows
section
variable{X:Cx}{K:W.Frag}{tg l:Expr}{tl:TE}{n:Nat}
theorem D7(hK:X.K=K:=by rfl):Pr X (binaryOp .Add) (FJ K):=by subst hK;exact fS
theorem Gw(hK:X.K=K:=by rfl):UJ X (oS K):=by subst hK;exact II
theorem Br(hK:X.K=K:=by rfl):qM X (oU K):=by subst hK;exact JM
theorem B7(hK:X.K=K:=by rfl):qM X (iP K):=by subst hK;exact MO
theorem Bm(hK:X.K=K:=by rfl):E7 X (.builtin "len") (fun xs H Q=>∃p ys,xs=[.ref p]/\(SqL K H p ys\/Fe K H p ys)/\Q (.int ys.length) H):=by subst hK;exact Y2
theorem Ju(hK:X.K=K:=by rfl):E7 X (.type "list") (fun xs H Q=>∃p ys,xs=[.ref p]/\(SqL K H p ys\/Fe K H p ys)/\∀l,H l=none->Q (.ref l) (upd H l (.lst ys))):=by subst hK;exact Y1
theorem Er(hK:X.K=K:=by rfl):E7 X (.type "tuple") (fun xs H Q=>∃p ys,xs=[.ref p]/\((SqL K H p ys/\∀l,H l=none->Q (.ref l) (upd H l (.tup ys)))\/(Fe K H p ys/\Q (.ref p) H))):=by subst hK;exact Vl
theorem Ho(hK:X.K=K:=by rfl):E7 X (.builtin "isinstance") (fun xs H Q=>∃x n d,xs=[x,.ty n]/\(n="int"\/n="bool"\/n="str"\/n="tuple"\/n="list"\/n="dict")/\Rep K H x d/\Q (.bl (g7 n d)) H):=by subst hK;exact Mf
theorem T6(hc:X.calm=true)(hK:X.K=K:=by rfl):E7 X (.builtin "all") (fun xs H Q=>∃(p:Addr) (bs:List Bool),xs=[.ref p]/\SqL K H p (bs.map V.bl)/\Q (.bl (bs.all id)) H):=by subst hK;exact EG hc
theorem JK(hu:X.A.units+n<cLine)(hK:X.K=K:=by rfl):Pr X (compareOp .In) (OU K n false):=by subst hK;exact mD hu
theorem jK(hu:X.A.units+n<cLine)(hK:X.K=K:=by rfl):Pr X (compareOp .NotEq) (OT K n):=by subst hK;exact MC hu
theorem Fi(hl:PE X l tl)(hK:X.K=K:=by rfl):PI X tg l (KW K tl):=by subst hK;exact IT hl
theorem bN(hl:PE X l tl)(hK:X.K=K:=by rfl):PI X tg l (pO K tl):=by subst hK;exact LY hl
variable{o e:Expr}{es:List Expr}{to:TE}{t:TA}{name:Str}{apos cpos:Pos}{T id:String}{r:V->List V->Hp->VK->Prop}
theorem L5(pa:PlainAttrs T)(slot:Slot T name id)(hty:typeOf (.builtin id)=pure (.type "method_descriptor"))(hm:wC X id r)(ho:PE X o to)(ha:PA X (e::es) t)(hK:X.K=K:=by rfl)
 (hbase:attributeBase o name X.env (eval o X.env)=eval o X.env:=by rfl)
 (hfew:((backTo cpos (starEach (e::es) X.env)).all (fun x=>!x.1)&&(backToKw cpos (keywordEach [] X.env)).all (fun x=>x.1.isSome)
   && decide ((e::es).length+([]:List Keyword).length+(if ([]:List Keyword).isEmpty then 0 else 1)<30))=true:=by rfl)
 (hline:(apos.endLine==cpos.line)=true:=by rfl) (hs:starEach (e::es) X.env=(false,eval e X.env)::starEach es X.env:=by rfl) (hplain:(backTo cpos (starEach es X.env)).any (·.1)=false:=by rfl) :
 PE X (.Call (.Attribute o name apos) (e::es) [] cpos) (US K T r to t):=by subst hK;exact oW pa slot hty hm ho ha hbase hfew hline hs hplain
theorem Ja{es:List Expr}{k:Nat}{t:lG}{n:Nat}{pos:Pos}(hc:X.calm=true)(h:qL X es t)(hK:X.K=K:=by rfl)
 (hn:(assignEach es X.env).length=n:=by rfl) (hst:(assignEach es X.env).findIdx? (·.1)=none:=by rfl):PG X (.Tuple es k pos) (QC K n t):=by subst hK;exact lZ hc h hn hst
end
end L2
namespace Hb
section
variable{zX:Int}
end
section
variable{xs:QL}
end
end Hb
namespace Hb
open PySem L2
noncomputable def Io(ns:List Int)(k:Int):Int:=ns.getD k.toNat 0
noncomputable abbrev TI(K:W.Frag)(H:Hp)(v:V)(ns:List Int):Prop:=Rep K H v (tI ns)
section
variable{K:W.Frag}{H H':Hp}
theorem j8(xs:List V)(k:Nat):cutV xs none (some (k:Int))=xs.take k:=by
 unfold cutV;rw[HT.sIx_none,HT.sIx_nat,qr8,List.drop_zero,List.take_eq_take_iff];omega
theorem j9(xs:List V)(k:Nat):cutV xs (some (k:Int)) none=xs.drop k:=by
 unfold cutV;rw[HT.sIx_none,HT.sIx_nat];by_cases h:k<=xs.length
 . rw[Nat.min_eq_left h,ql4 (by rw[qh7];omega)]
 . rw[Nat.min_eq_right (by omega),List.drop_length,List.drop_of_length_le (by omega)];simp
noncomputable def SameX(B:Addr)(H H':Hp):Prop:=∀b o,b≠B->H b=some o->H' b=some o
theorem SameX.refl(B:Addr)(H:Hp):SameX B H H:=fun _ _ _ h=>h
theorem SameX.trans{B:Addr}{H H1 H2:Hp}(a:SameX B H H1)(b:SameX B H1 H2):SameX B H H2:=fun c o n h=>b c o n (a c o n h)
theorem SameX.of{B:Addr}{H H1:Hp}(a:Aj H H1):SameX B H H1:=fun c o _ h=>a c o h
theorem SameX.upd{B:Addr}{H H1:Hp}{o:HO}(a:SameX B H H1):SameX B H (upd H1 B o):=fun c u n h=>by rw[Bb n];exact a c u n h
theorem SameX.same{B:Addr}{H0 H H1:Hp}(a:SameX B H H1)(s:Aj H0 H)(h:H0 B=none):Aj H0 H1:=fun b o e=>a b o (Bj e h) (s b o e)
theorem Wu:∀ns:List Int,deps (Ea ns)=0
 | []=>rfl
 | n::ns=>by show max (dep (.int n)) (deps (Ea ns))=0;rw[Wu ns];rfl
theorem bO{c A B:Prop}[Decidable c](hc:c)(h:A):if c then A else B:=by rw[if_pos hc];exact h
theorem aC{c A B:Prop}[Decidable c](hc:¬c)(h:B):if c then A else B:=by rw[if_neg hc];exact h
theorem Ev{g:TG}{te:TE}{D:Addr}{Q:Hp->Prop}{τ:St}{H:Hp}{K:W.Frag}{a:Addr}{xs:List V}(Pv:Nat->List V->St->Hp->Prop)(h0:Pv 0 [] τ H)(hl:∀i ys τ H,i<=xs.length->Pv i ys τ H->SqL K H a xs)
 (hs:∀i x ys τ H,xs[i]?=some x->Pv i ys τ H->g x τ H fun τ2 H2=>te τ2 H2 fun y H4=>H4 D=some (.lst ys)/\ys.length<sizeLine/\Pv (i+1) (ys++[y]) τ2 (upd H4 D (.lst (ys++[y]))))
 (hd:∀ys τ H,Pv xs.length ys τ H->Q H):Pq (nJ K a) g CK te D Q τ H:=EB Pv h0 hl (fun i x ys τ H e p=>hs i x ys τ H e p) hd
theorem DZ{g:TG}{te:TE}{D:Addr}{Q:Hp->Prop}{τ:St}{H:Hp}{K:W.Frag}{a:Addr}{xs:List V}(Pv:Nat->List V->St->Hp->Prop)(h0:Pv 0 [] τ H)(hl:∀i ys τ H,i<=xs.length->Pv i ys τ H->Fe K H a xs)
 (hs:∀i x ys τ H,xs[i]?=some x->Pv i ys τ H->g x τ H fun τ2 H2=>te τ2 H2 fun y H4=>H4 D=some (.lst ys)/\ys.length<sizeLine/\Pv (i+1) (ys++[y]) τ2 (upd H4 D (.lst (ys++[y]))))
 (hd:∀ys τ H,Pv xs.length ys τ H->Q H):Pq (NI K a) g CK te D Q τ H:=GZ Pv h0 hl (fun i x ys τ H e p=>hs i x ys τ H e p) hd
theorem Gy{g:TG}{te:TE}{D:Addr}{Q:Hp->Prop}{τ:St}{H:Hp}{lo:Int}{n:Nat}(Pv:Nat->List V->St->Hp->Prop)(h0:Pv 0 [] τ H)
 (hs:∀i ys τ H,i<n->Pv i ys τ H->g (.int (lo+i)) τ H fun τ2 H2=>te τ2 H2 fun y H4=>H4 D=some (.lst ys)/\ys.length<sizeLine/\Pv (i+1) (ys++[y]) τ2 (upd H4 D (.lst (ys++[y]))))
 (hd:∀ys τ H,Pv n ys τ H->Q H):Pq (kB lo n) g CK te D Q τ H:=AK Pv h0 (fun i ys τ H e p=>hs i ys τ H e p) hd
theorem Ap{t u:TS}{D:Ends}{σ:St}{H:Hp}(P:St->Hp->Prop)(hu:∀σ' H',P σ' H'->u D σ' H')(h:∀{N:St->Hp->Prop},(∀σ' H',P σ' H'->N σ' H')->t { D with nx:=N } σ H):fC t u D σ H:=h hu
theorem qs2{t u:TS}{D:Ends}{σ:St}{H:Hp}(P:St->Hp->Prop)(h:∀{N:St->Hp->Prop},(∀σ' H',P σ' H'->N σ' H')->t { D with nx:=N } σ H)(hu:∀σ' H',P σ' H'->u D σ' H'):fC t u D σ H:=h hu
theorem Fq{t u:TS}{D:Ends}{σ:St}{H:Hp}(P:St->Hp->Prop)(hu:∀σ' H',P σ' H'->u D σ' H')(h:(∀σ' H',P σ' H'->u D σ' H')->fC t u D σ H):fC t u D σ H:=h hu
theorem small{n:Nat}(h:n<=1000000):n<sizeLine:=qa4 h (by decide)
theorem Cc{n:Nat}(h:n<=1000000):n<=sizeLine:=qc3 (small h)
end
section
variable(K:W.Frag)
noncomputable def u5:Sp:=fun vs H Q _=>∃(a:Addr) (ns:List Int) (k:Int),vs=[.ref a,.int k]/\SqL K H a (ns.map V.int)/\0<=k/\ns.length<=63/\Q (.int (Io ns k)) H
end
noncomputable def Di(d:L2.D):Bool:=g7 "int" d&&!g7 "bool" d
section
variable(K:W.Frag)
noncomputable def Lk:Sp:=fun vs H Q _=>∃(x:V) (d:L2.D),vs=[x]/\Rep K H x d/\Q (.bl (Di d)) H
noncomputable abbrev Sj:Sp:=Lk K
noncomputable abbrev Oo:Sp:=u5 K
end
section
variable{K:W.Frag}{H:Hp}
end
end Hb
namespace L2
open PySem PySem.Spec PyProof.Rows
section
variable{X:Cx}{sc:Scope}{N':List Str}{cap:List (Option Nat)}{xc:Str}{Ab:LAObj}{σ:St}{H:Hp}{s:Shared}{C c:Addr}{fp:List Addr}
end
section
variable{X:Cx}{sc:Scope}{N':List Str}{cap:List (Option Nat)}{xc:Str}{tg elt iter:Expr}{ifs:List Expr}{pos:Pos}{g:TG}{tc:TT}{te:TE}
end
noncomputable def Mh(o o':Obj):Prop:=∀vs,o.data=.fields vs->∃vs',o'.data=.fields vs'/\vs'[2]?=vs[2]?
theorem Mh.refl(o:Obj):Mh o o:=fun vs e=>⟨vs,e,rfl⟩
theorem Mh.trans{o o1 o2:Obj}(x:Mh o o1)(y:Mh o1 o2):Mh o o2:=fun vs e=>by
 obtain⟨v1,e1,q1⟩:=x vs e;obtain⟨v2,e2,q2⟩:=y v1 e1;exact⟨v2,e2,q2.trans q1⟩
noncomputable def q9(f:Obj->Obj):Prop:=∀o,(f o).dict=o.dict/\(o.isFreed=false->(f o).isFreed=false)/\Mh o (f o)
noncomputable def B8{α:Type}:Sem α->Prop
 | .pure _=>True
 | .raise _=>True
 | .unsupported _=>True
 | .finish _=>True
 | .rule _ k=>B8 (k ())
 | .at _ k=>B8 (k ())
 | .load _ _ k=>∀o,B8 (k o)
 | .update _ _ f k=>q9 f/\B8 (k ())
 | .alloc _ k=>∀a,B8 (k a)
 | .loadIfAlive _ k=>∀o,B8 (k o)
 | .point _ k=>B8 (k ())
 | .register _ _=>True
 | .fresh k=>∀t,B8 (k t)
 | .ask k=>∀x,B8 (k x)
 | .choose _ _ k=>∀n,B8 (k n)
 | .os _ _ k=>∀r,B8 (k r)
 | .call _ _ _ _ _=>False
 | .handled _ k=>∀v,B8 (k v)
 | .newGen _ k=>∀n,B8 (k n)
 | .genState _ k=>∀x,B8 (k x)
 | .resume _ _ _ _=>False
 | .yield _ _ _ _=>True
 | .stack k=>∀x,B8 (k x)
 | .fork _ _=>True
 | .thread k=>∀x,B8 (k x)
 | .await _ _ _ _ _=>True
theorem B8.bind{α β:Type}{m:Sem α}{k:α->Sem β}(h:B8 m)(hk:∀a,B8 (k a)):B8 (m>>=k):=by
 show B8 (Sem.bind m k)
 induction m with
 | pure a=>exact hk a
 | rule t c ih=>exact ih () h
 | «at» p c ih=>exact ih () h
 | load a p c ih=>exact fun o=>ih o (h o)
 | update a p f c ih=>exact⟨h.1,ih () h.2⟩
 | alloc o c ih=>exact fun a=>ih a (h a)
 | loadIfAlive a c ih=>exact fun o=>ih o (h o)
 | point l c ih=>exact ih () h
 | fresh c ih=>exact fun o=>ih o (h o)
 | ask c ih=>exact fun o=>ih o (h o)
 | choose s n c ih=>exact fun o=>ih o (h o)
 | os r l c ih=>exact fun o=>ih o (h o)
 | handled o c ih=>exact fun o=>ih o (h o)
 | newGen g c ih=>exact fun o=>ih o (h o)
 | genState g c ih=>exact fun o=>ih o (h o)
 | stack c ih=>exact fun o=>ih o (h o)
 | thread c ih=>exact fun o=>ih o (h o)
 | call c a b d e=>exact False.elim h
 | resume a b c d=>exact False.elim h
 | _=>trivial
noncomputable def Eo(h h':Heap):Prop:=∀b o,h.get? b=some o->∃o',h'.get? b=some o'/\o'.dict=o.dict/\Mh o o'
theorem Eo.refl(h:Heap):Eo h h:=fun _ o e=>⟨o,e,rfl,Mh.refl o⟩
theorem Eo.trans{h h1 h2:Heap}(x:Eo h h1)(y:Eo h1 h2):Eo h h2:=fun b o e=>by
 obtain⟨o1,e1,d1,f1⟩:=x b o e;obtain⟨o2,e2,d2,f2⟩:=y b o1 e1;exact⟨o2,e2,d2.trans d1,f1.trans f2⟩
theorem Eo.push(h:Heap)(o:Obj):Eo h (h.push o):=fun b o' e=>⟨o',qa3 o e,rfl,Mh.refl o'⟩
theorem Eo.update{h:Heap}{a:Addr}{f:Obj->Obj}(g:q9 f):Eo h (h.update a f):=fun b o e=>by
 by_cases z:a=b
 . subst z;exact⟨f o,qr3 f e ((g o).2.1 (Heap.get?_some_iff.mp e).2),(g o).1,(g o).2.2⟩
 . exact⟨o,by rw[qq9 _ _ z];exact e,rfl,Mh.refl o⟩
theorem cE{α:Type}{M:Model}{Γ:PySem.Ctx}{Q:α->Pos->Shared->Prop}{E:Value->Pos->Shared->Prop}{t:Sem α}(hk:B8 t):∀(p:Pos) (s:Shared),Sem.wp M Γ t Q E p s →
 Sem.wp M Γ t (fun a p' s'=>Q a p' s'/\Eo s.heap s'.heap) (fun e p' s'=>E e p' s'/\Eo s.heap s'.heap) p s:=by
 induction t with
 | pure a=>intro p s h;exact⟨h,Eo.refl _⟩
 | raise e=>intro p s h;exact⟨h,Eo.refl _⟩
 | unsupported w=>intro p s h;exact h
 | finish e=>intro p s h;exact h
 | rule g k ih=>intro p s h;exact ih () hk _ _ h
 | «at» p' k ih=>intro p s h;exact ih () hk _ _ h
 | load a q k ih=>intro p s h;obtain⟨o,e,h⟩:=h;exact⟨o,e,ih o (hk o) _ _ h⟩
 | update a q f k ih =>
   intro p s h;obtain⟨e,h⟩:=h;refine⟨e,?_⟩;have:=ih () hk.2 _ _ h;exact wp_tr this (Eo.update hk.1)
 | alloc o k ih=>intro p s h;exact wp_tr (ih _ (hk _) _ _ h) (Eo.push _ _)
 | loadIfAlive a k ih=>intro p s h;exact ih _ (hk _) _ _ h
 | point l k ih=>intro p s h;exact ih () hk _ _ h
 | register a k ih=>intro p s h;exact h
 | fresh k ih=>intro p s h;exact ih _ (hk _) _ _ h
 | ask k ih=>intro p s h;exact ih _ (hk _) _ _ h
 | choose c n k ih=>intro p s h;exact⟨h.1,ih _ (hk _) _ _ h.2⟩
 | os r l k ih=>intro p s h;exact ih _ (hk _) _ _ h
 | call c a b d k ih=>exact False.elim hk
 | handled o k ih=>intro p s h;exact ih _ (hk _) _ _ h
 | newGen c k ih=>intro p s h;exact ih _ (hk _) _ _ h
 | genState g k ih=>intro p s h;obtain⟨x,e,h⟩:=h;exact⟨x,e,ih _ (hk _) _ _ h⟩
 | resume a b c k ih=>exact False.elim hk
 | yield a b c k ih=>intro p s h;exact h
 | stack k ih=>intro p s h;exact ih _ (hk _) _ _ h
 | fork c k ih=>intro p s h;exact h
 | thread k ih=>intro p s h;exact ih _ (hk _) _ _ h
 | await a b c d k ih=>intro p s h;exact h
where
 wp_tr {α:Type}{M:Model}{Γ:PySem.Ctx}{Q:α->Pos->Shared->Prop}{E:Value->Pos->Shared->Prop}{t:Sem α}{p:Pos}{s:Shared}{h h1:Heap}
  (x:Sem.wp M Γ t (fun a p' s'=>Q a p' s'/\Eo h1 s'.heap) (fun e p' s'=>E e p' s'/\Eo h1 s'.heap) p s) (y:Eo h h1) :
  Sem.wp M Γ t (fun a p' s'=>Q a p' s'/\Eo h s'.heap) (fun e p' s'=>E e p' s'/\Eo h s'.heap) p s :=
  Sem.wp_mono _ _ _ (fun _ _ _ z=>⟨z.1,y.trans z.2⟩) (fun _ _ _ z=>⟨z.1,y.trans z.2⟩) _ _ x
theorem Fy{α:Type}{M:Model}{A:Around}{Q:α->Shared->Prop}{E:Value->Shared->Prop}{t:Sem α}{s:Shared}(hk:B8 t)(h:wpAny M A t Q E s) :
 wpAny M A t (fun a s'=>Q a s'/\Eo s.heap s'.heap) (fun e s'=>E e s'/\Eo s.heap s'.heap) s:=fun Γ p hi=>cE hk _ _ (h Γ p hi)
theorem C0{α:Type}(a:α):B8 (pure a:Sem α):=True.intro
theorem Nd{α:Type}(w:String):B8 (unsupported w:Sem α):=True.intro
theorem X6(a:Addr):B8 (load a):=fun _=>True.intro
theorem Wg(a:Addr){f:Obj->Obj}(h:q9 f):B8 (update a f):=⟨h,True.intro⟩
theorem g4(o:Obj):B8 (alloc o):=fun _=>True.intro
theorem T4:B8 stack:=fun _=>True.intro
theorem Yj(g:Array Value->Array Value)(hg:∀vs,(g vs)[2]?=vs[2]?):q9 (Obj.mapFields g):=fun o=>by
 obtain⟨c,d,da,sl⟩:=o;cases da with
 | fields ws=>exact⟨rfl,fun h=>h,fun vs e=>by
    cases e;exact⟨_,rfl,hg ws⟩⟩
 | _=>exact⟨rfl,fun h=>h,fun vs e=>by cases e⟩
theorem i4(g:Obj->Py):q9 (fun o=>{ o with slots:=g o }):=fun o=>⟨rfl,fun h=>by
 obtain⟨c,d,da,sl⟩:=o;cases da<;>exact h,fun vs e=>⟨vs,e,rfl⟩⟩
theorem T3(a:Addr)(i:Nat)(v:Value)(hi:i≠2:=by decide):B8 (updateField a i v):=by
 unfold updateField;refine(X6 a).bind fun o=>?_;split
 . split
   . exact Wg a (Yj _ fun vs=>by rw[Array.getElem?_setIfInBounds_ne hi])
   . exact Nd _
 . exact Nd _
theorem L6(v:Value)(i:Nat)(x:Value)(hi:i≠2:=by decide):B8 (setField v i x):=by
 unfold setField;split
 . exact T3 _ _ _ hi
 . exact Nd _
theorem f9(v:Value):B8 (fieldsOf v):=by
 unfold fieldsOf;split
 . refine(X6 _).bind fun o=>?_;split
   . exact C0 _
   . exact Nd _
 . exact Nd _
theorem O0(v:Value)(i:Nat):B8 (field v i):=by
 unfold field;refine(f9 v).bind fun vs=>?_;split
 . exact C0 _
 . exact Nd _
theorem Kw(e:Value)(fr:OAddr):B8 (setFlight e fr):=by
 unfold setFlight;refine(O0 e 1).bind fun tb=>?_;split
 . exact L6 _ _ _
 . exact C0 _
theorem X5(ty:String)(vs:List Value):B8 (newFields ty vs):=by
 unfold newFields newObj;dsimp only;split
 . exact(Nd _).bind fun _=>(g4 _).bind fun _=>C0 _
 . exact(g4 _).bind fun _=>C0 _
theorem Rn(f:Addr)(b:Bool):B8 (entryPlaceOf f b):=by
 unfold entryPlaceOf;refine T4.bind fun acts=>?_;split
 . exact C0 _
 . exact C0 _
theorem X7:B8 frameEnvs:=by
 unfold frameEnvs;exact T4.bind fun _=>C0 _
theorem DJ(env:Env)(outer:List Env):B8 (behindIsImport env outer):=by
 unfold behindIsImport;split
 . exact C0 _
 . split
   . exact C0 _
   . exact(O0 _ _).bind fun _=>C0 _
theorem dJ:B8 underTheClaimsCaller:=by
 unfold underTheClaimsCaller;exact T4.bind fun _=>C0 _
theorem f8(env:Env)(i:Bool)(outer:List Env):B8 (keptBack env i outer):=by
 cases outer with
 | nil =>
   rw[keptBack];by_cases z:(env.scope.isGenerator || env.scope.isCoroutine)=true
   . rw[if_pos z];exact C0 _
   . rw[if_neg z];exact dJ.bind fun _=>C0 _
 | cons c r=>exact C0 _
theorem L7:∀l:List Env,B8 (readyFrames l)
 | []=>C0 _
 | env::outer=>by
   unfold readyFrames;split
   . refine(X6 _).bind fun o=>?_;split
     . exact C0 _
     . refine(DJ _ _).bind fun b=>(f8 _ _ _).bind fun v=>(Wg _ (i4 _)).bind fun _=>L7 outer
   . exact Nd _
theorem aA(env:Env):B8 (PySem.frameOf env):=by
 unfold PySem.frameOf;refine X7.bind fun es=>?_;refine B8.bind ?_ fun o=>?_
 . generalize es.dropWhile _=l;cases l with
   | nil=>exact C0 _
   | cons x r=>exact(L7 _).bind fun _=>C0 _
 . split
   . exact C0 _
   . exact Nd _
theorem Oz(e:Value)(env:Env):B8 (noteFrame e env):=by
 unfold noteFrame;cases env.frame with
 | none=>exact Nd _
 | some f =>
   have tail:∀head:Value,B8 (do let a ←PySem.frameOf env;let pl ←entryPlaceOf f (head != .none);let b ←EntryCells.newEntry head a .none (rawInt f) .none pl;setField e 1 b):=fun head =>
    B8.bind (aA env) fun a=>B8.bind (Rn f _) fun pl=>B8.bind (X5 _ _) fun b=>L6 _ _ _
   refine(O0 e 1).bind fun head=>?_;by_cases z:(head != Value.none)=true
   . rw[if_pos z];refine(O0 head 3).bind fun x=>?_;by_cases y:(x==rawInt f)=true
     . rw[if_pos y];exact C0 _
     . rw[if_neg y];refine(L6 _ _ _).bind fun _=>?_;exact tail head
   . rw[if_neg z];exact tail head
theorem T5(env:Env)(e:Value):B8 (leaving env e):=by
 unfold leaving;exact(Oz e env).bind fun _=>Kw e none
theorem ObjOk.ob{P:Program}{w:World}{H:Hp}{h:Heap}{a:Addr}{o:HO}(x:ObjOk P w H h a o):∃u,h.get? a=some u:=by
 cases o with
 | lst xs=>obtain⟨_,_,_,_,e⟩:=x;exact⟨_,e⟩
 | tup xs=>obtain⟨_,_,_,ob,e,_⟩:=x;exact⟨_,e⟩
 | dK kvs=>obtain⟨_,_,_,_,ob,_,_,e,_⟩:=x;exact⟨_,e⟩
 | dT kvs=>obtain⟨_,_,_,_,ob,_,_,e,_⟩:=x;exact⟨_,e⟩
 | set S n=>obtain⟨ob,_,_,_,e,_⟩:=x;exact⟨_,e⟩
 | ins C dx fs=>obtain⟨_,_,_,e,_⟩:=x;exact⟨_,e⟩
 | own y=>exact x
 | xd fs=>obtain⟨_,⟨ob,_,_,e,_⟩,_⟩:=x;exact⟨_,e⟩
 | rng lo hi=>obtain⟨_,_,_,e⟩:=x;exact⟨_,e⟩
 | frz ob u=>obtain⟨e,_⟩:=x;exact⟨_,e⟩
 | tbl ps=>exact⟨_,(show h.get? a=some _ from x)⟩
 | met f y=>exact⟨_,(show h.get? a=some _ from x)⟩
 | ext φ=>obtain⟨_,e,_⟩:=x;exact e
structure iA(fs:List Addr)(H H':Hp)(h B h':Heap):Prop where
 kp:∀b o,h.get? b=some o->H b=none->b ∉ fs->B.get? b=some o
 sl:∀b o,h.get? b=some o->H b=none->b∈fs->∃z,h'.get? b=some { o with slots:=z }
 fr:∀b o,h.get? b=some o->H b=none->H' b=none
 th:∀b o,h.get? b=some o->b ∉ fs->∃z,B.get? b=some z
 tu:∀b xs,H b=some (.tup xs)->H' b=some (.tup xs)
 fz:∀b o u,H b=some (.frz o u)->H' b=some (.frz o u)
 tb:∀b ps,H b=some (.tbl ps)->∃more,H' b=some (.tbl (ps++more))
section
variable{fs:List Addr}{H H':Hp}{h B h' h2:Heap}
theorem iA.un(x:iA fs H H' h B h')(hB:B.StaysIn h2)(hf:∀b∈fs,H b=none)(hs:∀b o,h'.get? b=some o->b∈fs->∃z,h2.get? b=some { o with slots:=z }):Un fs [] H H' h h2 where
 keep:=fun b o e n hb _=>hB b o (x.kp b o e n hb)
 slot:=fun b o e n hb _=>by
  obtain⟨z,e1⟩:=x.sl b o e n hb;obtain⟨z',e2⟩:=hs b _ e1 hb;exact⟨z',e2⟩
 free:=fun b o e n _=>x.fr b o e n
 there:=fun b o e _=>by
  by_cases hb:b∈fs
  . obtain⟨z,e1⟩:=x.sl b o e (hf b hb) hb;obtain⟨z',e2⟩:=hs b _ e1 hb;exact⟨_,e2⟩
  . obtain⟨z,e1⟩:=x.th b o e hb;exact⟨z,hB b z e1⟩
 tups:=x.tu
 frzs:=x.fz
 tbls:=x.tb
theorem Wo{l:List Env}(ff:h'.FunFrames B l)(up:h'.UpToSlots h2):∀b o,h'.get? b=some o->b∈Nh l->∃z,h2.get? b=some { o with slots:=z }:=fun b o e hb=>by
 obtain⟨_,o',e',hd⟩:=ff.mem hb;rw[e]at e';cases e';exact up b o e hd
theorem iA.next{l:List Env}(x:iA (Nh l) H H' h B h')(ff:h'.FunFrames B l)(up:h'.UpToSlots h2):iA (Nh l) H H' h B h2 :=
 ⟨x.kp,fun b o e n hb=>by
  obtain⟨z,e1⟩:=x.sl b o e n hb;obtain⟨z',e2⟩:=Wo ff up b _ e1 hb;exact⟨z',e2⟩,x.fr,x.th,x.tu,x.fz,x.tb⟩
end
noncomputable def ErrD(e:Addr)(dx:OAddr)(h:Heap):Prop:=∃o,h.get? e=some o/\o.dict=dx/\∃vs,o.data=.fields vs/\vs[2]?=some .none
theorem ErrD.go{e:Addr}{dx:OAddr}{h h':Heap}(x:ErrD e dx h)(k:Eo h h'):ErrD e dx h':=by
 obtain⟨o,e1,d1,vs,f1,g1⟩:=x;obtain⟨o',e2,d2,f2⟩:=k e o e1;obtain⟨vs',f3,g3⟩:=f2 vs f1;exact⟨o',e2,d2.trans d1,vs',f3,g3.trans g1⟩
noncomputable def Zi(P:Program)(w:World):eW:=fun outer H s E u s'=>∃(e:Addr) (cls a0:Value) (B:Heap) (H':Hp) (dx:OAddr),u=.ref e/\s'.os=s.os/\AllBare s'.gens/\iA (Nh outer) H H' s.heap B s'.heap/\Nk P w H' B/\Heap.FlyingW B outer e cls a0 s'.heap/\ErrD e dx s'.heap/\E cls dx H'
noncomputable def FlyAt(X:Cx)(Ab:LAObj)(e:Addr)(cls a0:Value)(dx:OAddr)(σ:St)(H':Hp)(s':Shared):Prop :=
 ∃(B:Heap) (H:Hp) (s:Shared),Bu X Ab σ H s/\s'.os=s.os/\AllBare s'.gens/\iA (Nh X.stack) H H' s.heap B s'.heap/\Nk X.prog X.w H' B/\Heap.FlyingW B X.stack e cls a0 s'.heap/\ErrD e dx s'.heap
noncomputable abbrev XJ:=Value->OAddr->St->Hp->Prop
noncomputable def WC(X:Cx)(J:XJ)(u:Value)(s':Shared):Prop:=∃(e:Addr) (cls a0:Value) (dx:OAddr) (σ:St) (H':Hp),u=.ref e/\FlyAt X [] e cls a0 dx σ H' s'/\J cls dx σ H'
noncomputable def W2(X:Cx)(J:XJ):Prop:=∀u s',WC X J u s'->X.xe u s'
noncomputable def lH(X:Cx)(J:XJ):Prop:=∀(Ab:LAObj) (σ:St) (H:Hp) (s:Shared) (e:Addr) (cls:Value) (vs:List Value) (h':Heap),Bu X Ab σ H s->Heap.MadeExcOf s.heap h' e cls vs->J cls none σ H->X.xe (.ref e) { s with heap:=h' }
noncomputable def JS(e:Addr)(cls:Value):HO:=.ext fun h=>∃o vs,h.get? e=some o/\o.cls=cls/\o.data=.fields vs/\vs[2]?=some .none
noncomputable def mZ(e:Addr)(cls:Value):OAddr->HO
 | none=>JS e cls
 | some d=>.ext fun h=>∃o vs,h.get? e=some o/\o.cls=cls/\o.data=.fields vs/\o.dict=some d/\vs[2]?=some .none
section
variable{X:Cx}{Ab:LAObj}{σ:St}{H H':Hp}{s s':Shared}{e:Addr}{cls a0:Value}{dx:OAddr}
theorem Bu.nopin(I:Bu X Ab σ H s):Bu X [] σ H s:=I.pins_of (fun p hp=>nomatch hp)
theorem FlyAt.step{B:Heap}{h2:Heap}{S:Shared}(I:Bu X Ab σ H S)(q1:s'.os=S.os)(q2:AllBare s'.gens)(q3:iA (Nh X.stack) H H' S.heap B s'.heap)(q4:Nk X.prog X.w H' B)(q5:Heap.FlyingW B X.stack e cls a0 s'.heap)
 (f:Heap.FlyingW B X.stack e cls a0 h2) (up:s'.heap.UpToSlots h2) (d:ErrD e dx h2):FlyAt X Ab e cls a0 dx σ H' { s' with heap:=h2 } :=
 ⟨B,H,S,I,q1,q2,q3.next q5.2.2.1 up,q4,f,d⟩
theorem FlyAt.apart{B:Heap}{S:Shared}(q3:iA (Nh X.stack) H H' S.heap B s'.heap)(q5:Heap.FlyingW B X.stack e cls a0 s'.heap):S.heap.get? e=none:=by
 cases z:S.heap.get? e with
 | none=>rfl
 | some o =>
   by_cases hb:e∈Nh X.stack
   . obtain⟨_,o',e1,hd⟩:=q5.2.2.1.mem hb;obtain⟨oe,vs,e2,_,d2,_⟩:=q5.first;rw[e1]at e2;cases e2;exact absurd d2 (hd vs)
   . obtain⟨o',e1⟩:=q3.th e o z hb;have e2:=q5.2.1;rw[e1]at e2;cases e2
theorem Nk.none_of{P:Program}{w:World}{B:Heap}(q:Nk P w H' B)(z:B.get? e=none):H' e=none:=by
 cases y:H' e with
 | none=>rfl
 | some o =>
   obtain⟨u,e1⟩:=(q e o y).ob;rw[e1]at z;cases z
theorem FlyAt.inv(F:FlyAt X Ab e cls a0 dx σ H' s'):Bu X Ab σ H' s'/\H' e=none:=by
 obtain⟨B,H,S,I,q1,q2,q3,q4,q5,_⟩:=F;exact⟨I.call' (ch:=[]) q1 (q3.un q5.1 I.stkFree fun b o e1 _=>⟨o.slots,e1⟩) (q4.kept q5.1) q2 (fun b z=>absurd z (by simp)),q4.none_of q5.2.1⟩
theorem FlyAt.held(F:FlyAt X Ab e cls a0 dx σ H' s'):Bu X Ab σ (upd H' e (mZ e cls dx)) s'/\H' e=none:=by
 obtain⟨B,H,S,I,q1,q2,q3,q4,q5,dE⟩:=F;have hn:=q4.none_of q5.2.1;have ha:=FlyAt.apart q3 q5;have ne:∀b u,H' b=some u->b≠e:=fun b u y=>Bj y hn
 have q6:iA (Nh X.stack) H (upd H' e (mZ e cls dx)) S.heap B s'.heap :=
  ⟨q3.kp,q3.sl,fun b o e1 n=>by
   have:b≠e:=fun z=>by rw[z,ha]at e1;cases e1
   rw[Bb this];exact q3.fr b o e1 n,q3.th,fun b xs y=>by
   have y':=q3.tu b xs y;rw[Bb (ne b _ y')];exact y',fun b o u y=>by
   have y':=q3.fz b o u y;rw[Bb (ne b _ y')];exact y',fun b ps y=>by
   obtain⟨more,y'⟩:=q3.tb b ps y;exact⟨more,by rw[Bb (ne b _ y')];exact y'⟩⟩
 refine⟨I.call' (ch:=[]) q1 (q6.un q5.1 I.stkFree fun b o e1 _=>⟨o.slots,e1⟩) (fun b u y=>?_) q2 (fun b z=>absurd z (by simp)),hn⟩;have hk:=q4.kept q5.1;by_cases hb:b=e
 . subst hb;rw[Ae]at y;cases y;obtain⟨oe,vs,e2,c2,d2,_⟩:=q5.first;obtain⟨o3,e3,d3,ZE,f3,g3⟩:=dE;rw[e2]at e3;cases e3;rw[d2]at f3;cases f3;cases dx with
   | none=>exact⟨⟨oe,vs,e2,c2,d2,g3⟩,⟨oe,e2⟩,fun h1 h2 ⟨o,ws,a1,a2,a3⟩ k=>⟨o,ws,k o a1,a2,a3⟩⟩
   | some d=>exact⟨⟨oe,vs,e2,c2,d2,d3,g3⟩,⟨oe,e2⟩,fun h1 h2 ⟨o,ws,a1,a2,a3,a4⟩ k=>⟨o,ws,k o a1,a2,a3,a4⟩⟩
 . rw[Bb hb]at y;exact(hk b u y).stay (fun _ _ _ q=>q) (fun c q=>by rw[Bb (ne c _ q)];exact q) fun c xs q=>by rw[Bb (ne c _ q)];exact q
end
section
variable{P:Program}{w:World}{K:W.Frag}{mg:Str->Option Value}{base:Heap}{N:List Str}{qual:Str}{scope:Scope}{f:Addr}{cd:Value}{A:Around}{outer:List Env}{s:Shared}{H:Hp}{E:XK}
theorem BR:Nh (envOfC qual scope s.heap.objs.size f cd::outer)=s.heap.objs.size::Nh outer:=rfl
theorem D8:W2 (Vi (Zi P w) P w K mg base N qual scope f cd A outer s H E) (fun cls dx _ H'=>E cls dx H'):=by
 rintro u s' ⟨e,cls,a0,dx,σ,H2,rfl,⟨B,H1,s1,I,q1,q2,q3,q4,q5,dE⟩,q6⟩
 have old:∀b o,s.heap.get? b=some o->b ∉ Nh outer->b ∉ Nh (envOfC qual scope s.heap.objs.size f cd::outer):=fun b o e1 hb z=>by
  rw[BR]at z;rcases qb9.mp z with y | y
  . exact absurd (qa7 e1) (by rw[y];exact qi5 _)
  . exact hb y
 have nx:∀b:Addr,b ∉ ([]:List Addr):=fun b=>by simp
 show wpAny (model P w) (A.deeper (envOfC qual scope s.heap.objs.size f cd)) (leaving (envOfC qual scope s.heap.objs.size f cd) (.ref e)) _ _ s';refine qg5 (Fy (T5 _ _) (wpAny_leaves_onW (E:=fun _ _=>False) (Q:=fun _ s2=>∃h2,s2={ s' with heap:=h2 }/\Heap.FlyingW B outer e cls a0 h2/\s'.heap.UpToSlots h2) (L:=s.heap.objs.size) I.ok.frames rfl q5 fun h2 x1 x2=>⟨h2,rfl,x1,x2⟩)) (fun _ s2 _z=>?_) (fun _ _ z=>z.1.elim);obtain⟨⟨h2,e2,x1,x2⟩,kd⟩:=_z;subst e2;refine⟨e,cls,a0,B,H2,dx,rfl,q1.trans I.os,q2,⟨fun b o e1 n hb=>?_,fun b o e1 n hb=>?_,fun b o e1 n=>?_,fun b o e1 hb=>?_,fun b xs y=>q3.tu b xs (I.base.tups b xs y),fun b o u y=>q3.fz b o u (I.base.frzs b o u y),fun b ps y=>?_⟩,q4,x1,dE.go kd,q6⟩
 . exact q3.kp b o (I.base.keep b o e1 n hb (nx b)) (I.base.free b o e1 n (nx b)) (old b o e1 hb)
 . obtain⟨z,e2⟩:=I.base.slot b o e1 n hb (nx b);have hm:b∈Nh (envOfC qual scope s.heap.objs.size f cd::outer):=qc1 _ hb;obtain⟨z',e3⟩:=q3.sl b _ e2 (I.base.free b o e1 n (nx b)) hm;obtain⟨z2,e4⟩:=Wo q5.2.2.1 x2 b _ e3 hm;exact⟨z2,e4⟩
 . obtain⟨o',e2⟩:=I.base.there b o e1 (nx b);exact q3.fr b o' e2 (I.base.free b o e1 n (nx b))
 . obtain⟨o',e2⟩:=I.base.there b o e1 (nx b);exact q3.th b o' e2 (old b o e1 hb)
 . obtain⟨m1,y1⟩:=I.base.tbls b ps y;obtain⟨m2,y2⟩:=q3.tb b _ y1;exact⟨m1++m2,by rw[y2,Array.append_assoc]⟩
theorem Qm:lH (Vi (Zi P w) P w K mg base N qual scope f cd A outer s H E) (fun cls dx _ H'=>E cls dx H'):=by
 intro Ab σ H1 s1 e cls vs h' I hx hj;have fin:∀env∈(envOfC qual scope s.heap.objs.size f cd::outer),∀b,env.frame=some b->b∈Nh (envOfC qual scope s.heap.objs.size f cd::outer):=fun env he b hb=>qr0.mpr ⟨env,he,hb⟩
 have old:∀b o,s.heap.get? b=some o->b ∉ Nh outer->b ∉ Nh (envOfC qual scope s.heap.objs.size f cd::outer):=fun b o e1 hb z=>by
  rw[BR]at z;rcases qb9.mp z with y | y
  . exact absurd (qa7 e1) (by rw[y];exact qi5 _)
  . exact hb y
 have nx:∀b:Addr,b ∉ ([]:List Addr):=fun b=>by simp
 have yN:∀b∈Nh (envOfC qual scope s.heap.objs.size f cd::outer),H1 b=none:=I.stkFree;show wpAny (model P w) (A.deeper (envOfC qual scope s.heap.objs.size f cd)) (leaving (envOfC qual scope s.heap.objs.size f cd) (.ref e)) _ _ { s1 with heap:=h' }
 have dE:ErrD e none h':=by
  obtain⟨_,_,t0,hget,_⟩:=hx;exact⟨_,hget,rfl,_,rfl,rfl⟩
 refine qg5 (Fy (T5 _ _) (wpAny_leaves_madeW (E:=fun _ _=>False) (Q:=fun _ s2=>∃h2 t,s2={ s1 with heap:=h2 }/\Heap.FlyingW (PySem.W.hideAll s1.heap (Nh (envOfC qual scope s.heap.objs.size f cd::outer))) outer e cls (.ref t) h2/\h'.UpToSlots h2) (L:=s.heap.objs.size) (base:=PySem.W.hideAll s1.heap (Nh (envOfC qual scope s.heap.objs.size f cd::outer))) (h:=s1.heap) I.ok.frames rfl (fun b o q=>PySem.W.of_hideAll _ q) (PySem.W.funFrames_hide I.stack fin) hx fun h2 t x1 x2 x3 x4=>⟨h2,t,rfl,x1,x4⟩)) (fun _ s2 _z=>?_) (fun _ _ z=>z.1.elim);obtain⟨⟨h2,t,e2,x1,x4⟩,kd⟩:=_z;subst e2;refine⟨e,cls,.ref t,_,H1,none,rfl,I.os,I.bare,⟨fun b o e1 n hb=>?_,fun b o e1 n hb=>?_,fun b o e1 n=>I.base.free b o e1 n (nx b),fun b o e1 hb=>?_,I.base.tups,I.base.frzs,I.base.tbls⟩,?_,x1,dE.go kd,hj⟩
 . exact qm6 _ (I.base.keep b o e1 n hb (nx b)) (old b o e1 hb)
 . obtain⟨z,e2⟩:=I.base.slot b o e1 n hb (nx b);obtain⟨_,o',e3,hd⟩:=I.ok.funs.mem hb;have VZ:s.heap.get? b=some o':=e3;rw[e1]at VZ;cases VZ;obtain⟨z2,e4⟩:=x4 b _ (hx.keeps b _ e2) hd;exact⟨z2,e4⟩
 . obtain⟨o',e2⟩:=I.base.there b o e1 (nx b);exact⟨o',qm6 _ e2 (old b o e1 hb)⟩
 . intro a u y;refine(I.hok a u y).stay (fun b v hb q=>qm6 _ q fun hm=>?_) (fun _ q=>q) fun _ _ q=>q;have z:=yN b hm;rcases hb with rfl | hb
   . rw[y]at z;cases z
   . rw[hb]at z;cases z
theorem Ey.okX{x:Str}{st:Stmt}{fd:FuncData}{ps:List Str}{k:Nat}{sp:Sp}(F:Ey K x qual st f fd)(S:FnScope N ps (Ar st))(len:∀vs H Q E,sp vs H Q E->vs.length=ps.length)
 (hbody:∀(Dk:Value) (A:Around) (outer:List Env) (s:Shared) (H:Hp) (vs:List V) (Q:VK) (E:XK),Eg k (A.deeper (envOfC qual (Ar st) s.heap.objs.size f Dk))->sp vs H Q E →
   ∃t,Zg (Vi (Zi P w) P w K mg base N qual (Ar st) f Dk A outer s H E) (E3 st) t/\t { nx:=fun _ H'=>Q .non H',rt:=Q } (start N vs) H):Cj P w K mg base (Zi P w) (k+1) f fd ps sp:=by
 obtain⟨oc,od,kV,doc,pm,an,Dk,ct,osl,rfl,lk,hcd⟩:=F.ex;exact KZ lk hcd S len fun A outer s H vs Q E hr g8=>hbody Dk A outer s H vs Q E hr g8
end
structure HasX(P:Program)(w:World)(K:W.Frag)(mg:Str->Option Value)(base:Heap)(x:Str)(ps:List Str)(k:Nat)(sp:Sp):Prop where
 ex:∃(f:Addr) (fd:FuncData),mg x=some (.ref f)/\W.keepIn K (.ref f)=true/\Gb K fd ps []/\Cj P w K mg base (Zi P w) k f fd ps sp
noncomputable def lS(sp:Sp)(J:XJ)(t:TA):TE:=fun σ H Q=>t σ H fun vs H1=>sp vs H1 Q (fun cls dx H2=>J cls dx σ H2)
section
variable{X:Cx}{J:XJ}{x:Str}{ps:List Str}{j k:Nat}{sp:Sp}{p pos:Pos}{e:Expr}{es:List Expr}{t:TA}
theorem iO{Ab:LAObj}{σ:St}{H:Hp}{s:Shared}{Q:VK}{us:List Value}{vs:List V}{f:Addr}{fd:FuncData}(F:Cj X.prog X.w X.K X.mg X.base (Zi X.prog X.w) k f fd ps sp)(hr:Eg k X.A)(hb:Gb X.K fd ps [])(hx:W2 X J)
 (I:Bu X Ab σ H s) (r:Cg vs us) (h:sp vs H Q (fun cls dx H2=>J cls dx σ H2)):wpAny (model X.prog X.w) X.A (call (.ref f) us) (EP X Ab σ Q) X.xe s:=by
 have hl:us.length=ps.length:=by rw[←r.length];exact F.len _ _ _ _ h
 have hb1:=hb s us I.kIn (by rw[qh4];exact hl);rw[qh4]at hb1;refine wpAny_call (codeAny_mono (F.run X.A X.stack s H ⟨us,[]⟩ us vs Q _ hr I.env0 hb1 r h) fun q s' hq=>?_);cases q with
 | error u =>
   obtain⟨e,cls,a0,B,H',dx,rfl,q1,q2,q3,q4,q5,dE,q6⟩:=hq;exact hx _ _ ⟨e,cls,a0,dx,σ,H',rfl,⟨B,H,s,I.nopin,q1,q2,q3,q4,q5,dE⟩,q6⟩
 | ok fl =>
   cases fl with
   | ret u=>exact I.after hq
   | next=>exact False.elim hq
   | brk=>exact False.elim hq
   | cont=>exact False.elim hq
theorem Ep(hx:W2 X J)(h:HasX X.prog X.w X.K X.mg X.base x ps j sp)(hr:Eg k X.A)(hg:Gl X x)(ha:PA X (e::es) t)(hk:j<=k:=by decide)(hdb:(x==("__debug__":Str))=false:=by decide)
 (he:starEach (e::es) X.env=(false,eval e X.env)::starEach es X.env:=by rfl) (hpl:(backTo pos (starEach es X.env)).any (·.1)=false:=by rfl):PE X (.Call (.Name x p) (e::es) [] pos) (lS sp J t):=by
 intro Ab s σ H Q I hw;obtain⟨f,fd,h1,h2,h3,h4⟩:=h.ex;refine qi1 (Hn I hg h1 ?_ hdb);refine qh9 (h₀:=X.base) I.ok.mod.kin h2 (Ed (ha pos Ab s σ H _ I hw) fun us s1 ⟨vs,H1,I1,r,q⟩=>⟨I1.kIn,?_⟩) he hpl;exact iO h4 (hr.mono hk) h3 hx I1 r q
end
abbrev bmV:List Value:=[.type "ValueError",.type "Exception",.type "BaseException",.type "object"]
theorem IZ{K:W.Frag}{h:Heap}{C:Addr}{bmB:List Value}{nid:String}(X:K.In h)(z:PySem.W.excIn K C bmB nid=true) :
 ∃bm N nm q bs hdct sn sub ab col dd k0 k1 k2 k3 k5 mN,h.get? C=some (excClassObj nm q C N bs bm hdct sn sub ab col dd k0 k1 k2 k3 k5 nid)/\h.Ns N mN/\mN "__init__"=none/\OwnTail h bmB bm:=by
 unfold PySem.W.excIn at z;split at z
 case h_2=>cases z
 case h_1 dd cd sl ho =>
  split at z
  case h_2=>cases z
  case h_1 C' bm k0 k1 k2 k3 n k5 hm hs =>
   rw[qc5,qc5,qc5,qc5,qc5,qn3,qn3,Bool.not_eq_true',qn3]at z;obtain⟨⟨⟨⟨⟨z1,z2⟩,z3⟩,z4⟩,z5⟩,z6⟩:=z;obtain⟨nm,bs,mro,ns,qn,hd,sn,sub,ab,col,del⟩:=cd;have hm':mro=.ref C'::bm:=hm;have WG:del=false:=z3;subst hm' WG z1 z2
   have hsl:sl=#[k0,k1,k2,k3,some (.builtin n),k5]:=by
    cases sl with
    | mk l =>
      have:l=[k0,k1,k2,k3,some (.builtin n),k5]:=hs;rw[this]
   subst hsl;exact⟨bm,ns,nm,qn,bs,hd,sn,sub,ab,col,dd,k0,k1,k2,k3,k5,_,X _ _ ho,.of_isNs (PySem.W.isNs_of_in X z5),PySem.W.nsMap_none_of_in X z5 z6,PySem.W.tail_of_in X z4⟩
noncomputable def LP(J:XJ)(C:Addr)(t:TA):TS:=fun _ σ H=>t σ H fun vs H1=>vs.length<=sizeLine/\J (.ref C) none σ H1
theorem Tb{X:Cx}{J:XJ}{C:Addr}{x:Str}{np cpos pos:Pos}{e:Expr}{es:List Expr}{t:TA}(hx:lH X J)(hc:X.calm=true)(hg:Gl X x)(hm:X.mg x=some (.ref C))(z:PySem.W.excIn X.K C bmV "ValueError.__new__"=true)(ha:PA X (e::es) t)
 (hdb:(x==("__debug__":Str))=false:=by decide) (he:starEach (e::es) X.env=(false,eval e X.env)::starEach es X.env:=by rfl) (hpl:(backTo cpos (starEach es X.env)).any (·.1)=false:=by rfl) :
 PS X (.Raise (some (.Call (.Name x np) (e::es) [] cpos)) none pos) (LP J C t):=by
 intro Ab s σ H D I h;obtain⟨bm,N,nm,q,bs,hdct,sn,sub,ab,col,dd,k0,k1,k2,k3,k5,mN,hC,hN,hni,T⟩:=IZ I.mod.kin z
 have hp2:(backTo cpos (starEach (e::es) X.env)).any (·.1)=false:=by
  rw[he];show(false || (backTo cpos (starEach es X.env)).any (·.1))=false;rw[hpl];rfl
 refine wpAny_Raise_call_subT PySem.F.excBase_ValueError (C:=C) (nm:=nm) (q:=q) (N:=N) (bs:=bs) (bm:=bm) (hdct:=hdct) (sn:=sn) (sub:=sub) (ab:=ab) (col:=col) (dd:=dd) (k0:=k0) (k1:=k1) (k2:=k2) (k3:=k3) (k5:=k5) (mN:=mN)
  (T.hasType PySem.F.excBase_ValueError.hasBase) (I.ok.hd hc) hp2 hni (Hn I hg hm ⟨rfl,?_⟩ hdb)
 have a1:=Ed (ha cpos Ab s σ H _ I h) (Q':=fun us s2=>(⟨us,[]⟩:Args).kw=[]/\us.length<=sizeLine/\s2.heap.get? C=some (excClassObj nm q C N bs bm hdct sn sub ab col dd k0 k1 k2 k3 k5 "ValueError.__new__")/\s2.heap.Ns N mN/\OwnTail s2.heap bmV bm ∧
  ∀h' e,Heap.MadeExcOf s2.heap h' e (.ref C) us->X.xe (.ref e) { s2 with heap:=h' }) fun us s2 ⟨vs,H1,I1,r,hl,hj⟩ =>
  ⟨rfl,by rw[←r.length];exact hl,I1.bk _ _ hC,hN.keeps I1.bk,T.keeps I1.bk,fun h' e2 xS=>hx Ab σ H1 s2 e2 _ _ h' I1 xS hj⟩
 rw[he]at a1 ⊢;exact Calls.evalArgs_plain a1
end L2
namespace L2
open PySem PySem.Spec PyProof.Rows PySem.W
section
variable{X:Cx}{Ab pn:LAObj}{σ:St}{H:Hp}{s:Shared}{J:XJ}
noncomputable abbrev Cx.pinned(X:Cx)(pn:LAObj):Cx:={ X with pn:=X.pn++pn }
theorem Cx.Ok.pinned(ok:X.Ok)(pn:LAObj):(X.pinned pn).Ok :=
 ⟨ok.mod,ok.kind,ok.glob,ok.blt,ok.above,ok.inj,ok.has,ok.cab,ok.hd,ok.frames,ok.stk,ok.exf,ok.bs,ok.bsz,ok.noex,ok.exfs,ok.funs,ok.frf⟩
theorem Cx.Ok.unpinned'(ok:(X.pinned pn).Ok):X.Ok :=
 ⟨ok.mod,ok.kind,ok.glob,ok.blt,ok.above,ok.inj,ok.has,ok.cab,ok.hd,ok.frames,ok.stk,ok.exf,ok.bs,ok.bsz,ok.noex,ok.exfs,ok.funs,ok.frf⟩
theorem Bu.toPn(I:Bu X Ab σ H s):Bu (X.pinned Ab) [] σ H s:=⟨I.ok.pinned _,I.os,I.bare,I.base,I.loc,I.cell,I.free,I.freeC,fun p hp=>I.pin p (by simpa using hp),I.hok,I.len⟩
theorem Bu.ofPn(I:Bu (X.pinned Ab) [] σ H s):Bu X Ab σ H s:=⟨I.ok.unpinned',I.os,I.bare,I.base,I.loc,I.cell,I.free,I.freeC,fun p hp=>I.pin p (by simpa using hp),I.hok,I.len⟩
noncomputable abbrev Cx.tried(X:Cx)(pn:LAObj)(J:XJ):Cx:=(X.pinned pn).wish (WC (X.pinned pn) J)
theorem i7:W2 (X.tried pn J) J:=fun u s' ⟨e,cls,a0,dx,σ,H',h1,⟨B,H,S,I,q⟩,h3⟩=>⟨e,cls,a0,dx,σ,H',h1,⟨B,H,S,I.unwish,q⟩,h3⟩
noncomputable abbrev Cx.suite(X:Cx)(e:Addr):Cx:={ X with A:=X.A.mark (some (.ref e)),calm:=false,xe:=fun _ _=>False }
theorem Cx.Ok.suite(ok:X.Ok)(e:Addr):(X.suite e).Ok :=
 ⟨ok.mod,ok.kind,ok.glob,ok.blt,ok.above,ok.inj,ok.has,ok.cab,fun z=>Bool.noConfusion z,ok.frames,ok.stk,ok.exf,ok.bs,ok.bsz,ok.noex,ok.exfs,ok.funs,ok.frf⟩
theorem Bu.suite(I:Bu X Ab σ H s)(e:Addr):Bu (X.suite e) Ab σ H s:=⟨I.ok.suite e,I.os,I.bare,I.base,I.loc,I.cell,I.free,I.freeC,I.pin,I.hok,I.len⟩
theorem Bu.unsuite{e:Addr}(ok:X.Ok)(I:Bu (X.suite e) Ab σ H s):Bu X Ab σ H s:=⟨ok,I.os,I.bare,I.base,I.loc,I.cell,I.free,I.freeC,I.pin,I.hok,I.len⟩
theorem cF{M:Model}{A:Around}{E:Value->Shared->Prop}{i:Nat}{n:Str}{pos:Pos}{Q:Unit->Shared->Prop}(I:Bu X Ab σ H s)(hN:X.N.Nodup)(hi:X.N[i]?=some n)(hk:X.env.kindOf n=some .local)
 (h:∀s',Bu X Ab (σ.set i none) H s'->Q () s'):wpAny M A (do bindName X.env n .none;unbindBehindTheSuite X.env n pos) Q E s:=by
 obtain⟨m,hn,hl⟩:=id I.loc;have hcls:(X.env.scope.kind==.class || (X.env.scope.kind==.module&&X.env.locals != X.env.globals))=false:=by rw[I.ok.kind];rfl
 refine wpAny_nameGoes_keeps hk hn hcls fun h' v hn' hs=>h _ ?_;have lt:∀b o,X.s₀.heap.get? b=some o->b≠X.env.locals:=fun b o e=>qb8 (qa6 (qa7 e) I.ok.above);refine⟨I.ok,I.os,I.bare,⟨fun b o e z hb hx=>(hs.2 b (lt b o e)).trans (I.base.keep b o e z hb hx),fun b o e z hb hx=>?_,I.base.free,fun b o e hx=>?_,I.base.tups,I.base.frzs,I.base.tbls⟩,⟨_,hn',fun j y v' e1 e2 e3=>?_⟩,fun y c e=>?_,I.free,I.freeC,fun p hp=>?_,fun b o e=>?_,by simpa using I.len⟩
 . obtain⟨sl,e1⟩:=I.base.slot b o e z hb hx;exact⟨sl,(hs.2 b (lt b o e)).trans e1⟩
 . obtain⟨o',e1⟩:=I.base.there b o e hx;exact⟨o',(hs.2 b (lt b o e)).trans e1⟩
 . have hj:i≠j:=by
    rintro rfl;rw[ql5]at e2;simp at e2
   rw[qj5 hj]at e2;obtain⟨u,r,q⟩:=hl j y v' e1 e2 e3;refine⟨u,r,?_⟩;rcases q with⟨k,z⟩|⟨k,c,z,w'⟩
   . have:y≠n:=fun z'=>hj (Tw hN hi (z'▸e1));exact .inl ⟨k,by simp[this,z]⟩
   . exact .inr ⟨k,c,z,w'.sameBut hs (I.cne y c z)⟩
 . obtain⟨w',z⟩:=I.cell y c e;exact⟨w',z.sameBut hs (I.cne y c e)⟩
 . obtain⟨e,z,ne,nf,d⟩:=I.pin p hp;exact⟨(hs.2 p.1 ne).trans e,z,ne,nf,d⟩
 . refine(I.hok b o e).stay (fun c w' hc q=>(hs.2 c ?_).trans q) (fun _ q=>q) fun _ _ q=>q;rintro rfl;have hf:=I.free;rcases hc with rfl | hc
   . rw[hf]at e;cases e
   . rw[hf]at hc;cases hc
end
noncomputable def PH(X:Cx)(hs:List ExceptHandler)(th:Ends->XJ):Prop:=∀(Ab:LAObj) (s:Shared) (σ:St) (H:Hp) (D:Ends) (e:Addr) (cls a0:Value) (dx:OAddr),FlyAt X Ab e cls a0 dx σ H s->th D cls dx σ H →
 wpAny (model X.prog X.w) X.A (handleBy (.ref e) X.env hs) (SP X Ab D) X.xe s
noncomputable def YC:Ends->XJ:=fun _ _ _ _ _=>False
theorem IU{X:Cx}:PH X [] YC:=fun _ _ _ _ _ _ _ _ _ _ h=>h.elim
noncomputable def HD(i:Nat)(D:Ends):Ends:={ nx:=fun σ H=>D.nx (σ.set i none) H,rt:=D.rt,bk:=fun σ H=>D.bk (σ.set i none) H,ct:=fun σ H=>D.ct (σ.set i none) H }
noncomputable def YK(K:Frag)(C:Addr)(i:Nat)(ts:TS)(th:Ends->XJ):Ends->XJ:=fun D cls dx σ H=>∃(C':Addr) (b:Bool),cls=.ref C'/\subIn K (.ref C') (.ref C)=some b ∧
 if b=true then ∀e,H e=none->ts (HD i D) (σ.set i (some (.ref e))) (upd H e (mZ e cls dx)) else th D cls dx σ H
theorem DT{M:Model}{A:Around}{E:Value->Shared->Prop}{nm q:Str}{C C' N:Addr}{bs bm:List Value}{hdct:Bool}{sn:List Str}{sub:List Value}{ab:Bool}{col:Option Bool}{dd:OAddr}{k0 k1 k2 k3 k5:Option Value}{nid:String}
 {h:Heap}{g:Array GenState}{d:Drawn}{t:Nat}{os:OsState}{e:Addr}{oe:Obj}{b:Bool}{Q:Bool->Shared->Prop} (hC:h.get? C=some (excClassObj nm q C N bs bm hdct sn sub ab col dd k0 k1 k2 k3 k5 nid))
 (he:h.get? e=some oe) (hcls:oe.cls=.ref C') (hbase:bm.contains (.type "BaseException")=true) (LS:Looks M h (isSubtype (.ref C') (.ref C)) b) (hq:Q b ⟨h,g,d,t,os⟩):wpAny M A (excMatches (.ref e) (.ref C)) Q E ⟨h,g,d,t,os⟩:=by
 have hb2:(Value.ref C::bm).contains (.type "BaseException")=true:=by rw[List.contains_cons,hbase,Bool.or_true]
 have ZG:=tc_notTuple;unfold excMatches
 repeat (first | (with_reducible refine qi9 he ?_;rw[hcls]) | with_reducible refine qi9 hC ?_ | (with_reducible refine wpAny_isSubtype_exc hC ?_;rw[hb2]) | with_reducible refine LS.at ?_ | wp_step)
 cases b<;>(wp_walk;exact hq)
section
variable{X:Cx}{th:Ends->XJ}
theorem OV{x n:Str}{i:Nat}{C:Addr}{np hpos:Pos}{b0:Stmt}{bs:List Stmt}{ts:TS}{rest:List ExceptHandler}(hN:X.N.Nodup)(hi:X.N[i]?=some n)(hk:X.env.kindOf n=some .local)(hg:Gl X x)(hm:X.mg x=some (.ref C))(hC:ktsIn X.K C "BaseException"=true)
 (hs:∀e,Zg (X.suite e) (b0::bs) ts) (hr:PH X rest th) (hdb:(x==("__debug__":Str))=false:=by decide):PH X (.ExceptHandler (some (.Name x np)) (some n) (b0::bs) hpos::rest) (YK X.K C i ts th):=by
 intro Ab s σ H D e cls a0 dx F h;obtain⟨C',b,rfl,hb,h⟩:=h;have I:=F.inv.1;obtain⟨nm,qn,N,bs',bm,hdct,sn,sub,ab,col,dd,k0,k1,k2,k3,k5,nid,QA,hbase,_⟩:=kts_cls I.kIn hC;have F':=F;obtain⟨B,H0,S,I0,q1,q2,q3,q4,q5,dE⟩:=F';obtain⟨oe,he,hcls⟩:=q5.there;refine wpAny_handleBy_cons (codeAny_handlers_test (Hn (X:=X.suite e) (I.suite e) hg hm ?_ hdb)) (by intro q;cases q);have LS:Looks (model X.prog X.w) s.heap (isSubtype (.ref C') (.ref C)) b:=looks_subIn I.kIn hb;obtain⟨sh,sg,sd,st,so⟩:=s;refine DT QA he hcls hbase LS ?_;cases b with
 | false =>
   rw[if_neg qb6]at h;exact hr Ab _ σ H D e _ a0 dx F h
 | true =>
   rw[if_pos rfl]at h;refine codeAny_handlers_suite_as ?_;refine qg5 (Fy (Kw _ _) (lands_againW (E:=fun _ _=>False) (Q:=fun _ s2=>∃h6,s2={ (⟨sh,sg,sd,st,so⟩:Shared) with heap:=h6 }/\Heap.FlyingW B X.stack e (.ref C') a0 h6/\sh.UpToSlots h6) q5 fun h6 f6 RU=>⟨h6,rfl,f6,RU⟩)) (fun _ s2 _z=>?_) (fun _ _ z=>z.1.elim);obtain⟨⟨h6,e6,f6,RU⟩,kd⟩:=_z;subst e6;have F6:=FlyAt.step I0 q1 q2 q3 q4 q5 f6 RU (dE.go kd);obtain⟨I6,hn⟩:=F6.held;refine Sf (v:=.ref e) I6 hN hi (.inl hk) rfl (fun s7 I7=>?_) (.inr hk);refine qg5 (hs e Ab s7 _ _ (HD i D) (I7.suite e) (h e hn)) (fun f s8 q=>?_) fun _ _ z=>z.elim
   have go:∀{σ':St}{H':Hp}{f:Flow},Bu (X.suite e) Ab σ' H' s8->(∀s9,Bu X Ab (σ'.set i none) H' s9->SP X Ab D f s9)->wpAny (model X.prog X.w) X.A (do bindName X.env n .none;unbindBehindTheSuite X.env n hpos) (fun _ s9=>SP X Ab D f s9) X.xe s8 :=
    fun {σ' H' f} I8 k=>cF (I8.unsuite I.ok) hN hi hk k
   cases f with
   | next=>obtain⟨σ',H',I8,q⟩:=q;exact go I8 fun s9 I9=>⟨_,H',I9,q⟩
   | brk=>obtain⟨σ',H',I8,q⟩:=q;exact go I8 fun s9 I9=>⟨_,H',I9,q⟩
   | cont=>obtain⟨σ',H',I8,q⟩:=q;exact go I8 fun s9 I9=>⟨_,H',I9,q⟩
   | ret u=>obtain⟨v,σ',H',I8,r,q⟩:=q;exact go I8 fun s9 I9=>⟨v,_,H',I9,r,q⟩
noncomputable def rW(tb:XJ->TS)(th:Ends->XJ):TS:=fun D σ H=>tb (th D) D σ H
theorem LW{tb:XJ->TS}{body:List Stmt}{h0:ExceptHandler}{hs:List ExceptHandler}{pos:Pos}(hb:∀pn J,Zg (X.tried pn J) body (tb J))(hh:PH X (h0::hs) th)(MR:X.stack=X.env::X.outer:=by rfl)(hfr:X.env.frame=some X.env.locals:=by rfl) :
 PS X (.Try body (h0::hs) [] [] pos) (rW tb th):=by
 intro Ab s σ H D I h;refine wpAny_Try_except (qg5 (hb Ab (th D) [] s σ H D (I.toPn.wish _) h) (fun f s1 q=>?_) fun u s1 q=>?_)
 . cases f with
   | next=>obtain⟨σ',H',I',q⟩:=q;exact qn2 ⟨σ',H',I'.unwish.ofPn,q⟩
   | brk=>obtain⟨σ',H',I',q⟩:=q;exact⟨σ',H',I'.unwish.ofPn,q⟩
   | cont=>obtain⟨σ',H',I',q⟩:=q;exact⟨σ',H',I'.unwish.ofPn,q⟩
   | ret u=>obtain⟨v,σ',H',I',r,q⟩:=q;exact⟨v,σ',H',I'.unwish.ofPn,r,q⟩
 . obtain⟨e,cls,a0,dx,σ',H',rfl,⟨B,H1,S,I1,q1,q2,q3,q4,q5,dE⟩,hj⟩:=q;have WU:Heap.FlyingW B (X.env::X.outer) e cls a0 s1.heap:=MR▸q5;refine qg5 (Fy (Oz _ _) (wpAny_looks_onW (E:=fun _ _=>False) (Q:=fun _ s2=>∃h4,s2={ s1 with heap:=h4 }/\Heap.HeldW B (X.env::X.outer) e cls a0 X.env.locals h4/\s1.heap.UpToSlots h4) (L:=X.env.locals) (I.ok.frames.trans (congrArg some MR)) hfr WU fun h4 GH RV=>⟨h4,rfl,GH,RV⟩)) (fun _ s2 _z=>?_) (fun _ _ z=>z.1.elim);obtain⟨⟨h4,e4,GH,RV⟩,kd4⟩:=_z;subst e4;refine qg5 (Fy (Kw _ _) (wpAny_landsW (E:=fun _ _=>False) (Q:=fun _ s2=>∃h5,s2={ s1 with heap:=h5 }/\Heap.FlyingW B (X.env::X.outer) e cls a0 h5/\h4.UpToSlots h5) GH fun h5 uA rV=>⟨h5,rfl,uA,rV⟩)) (fun _ s2 _z=>?_) (fun _ _ z=>z.1.elim);obtain⟨⟨h5,e5,uA,rV⟩,kd5⟩:=_z;subst e5;exact hh Ab _ σ' H' D e cls a0 dx (FlyAt.step (s':=s1) I1.ofPn q1 q2 q3 q4 q5 (MR▸uA) (RV.trans rV) (dE.go (kd4.trans kd5))) hj
end
structure ExcC(K:Frag)(C:Addr):Prop where
 cls:ktsIn K C "BaseException"=true
 ga:findIn K (.ref C) "__getattribute__"=some (some (.builtin "BaseException.__getattribute__"))
 gt:findIn K (.ref C) "__getattr__"=some none
 cl:findIn K (.ref C) "__class__"=some (some (.builtin "object.__class__"))
 ob:subIn K (.ref C) (.type "object")=some true
 be:subIn K (.ref C) (.type "BaseException")=some true
section
variable{prog:Program}{w:World}{A:Around}{E:Value->Shared->Prop}{h:Heap}{g:Array GenState}{d:Drawn}{t:Nat}{os:OsState}{a C:Addr}{o:Obj}{K:Frag}
theorem eY{R:Result->Shared->Prop}(X:K.In h)(Z:ExcC K C)(hx:h.get? a=some o)(hc:o.cls=.ref C)(hq:R (.ok (.ret (.ref C))) ⟨h,g,d,t,os⟩) :
 codeAny (model prog w) A (.call (.builtin "getset_descriptor.__get__") ⟨[.builtin "object.__class__",.ref a,.ref C],[]⟩) R ⟨h,g,d,t,os⟩:=by
 have ht:(⟨h,g,d,t,os⟩:Shared).TypeIs (.builtin "object.__class__") "getset_descriptor":=qr4;have LS:Looks (model prog w) h (isSubtype (.ref C) (.type (".".intercalate ("object.__class__".cutAt '.').dropLast))) true:=by rw[F.owner_object_class];exact looks_subIn X Z.ob
 refine codeAny_call_builtin F.slot_gs_get.plain F.entry_gs_get (F.slot_gs_get.check _ _ _ _ _ _ _ _ ht (F.args_gs_get _ _ _) ?_)
 repeat (any_goals (first | assumption | (with_reducible refine qi9 hx ?_;rw[hc]) | with_reducible refine LS.at ?_ | wp_step))
 refine⟨Code.quiet_builtin _ (by decide +kernel),codeAny_builtin F.entry_object_class ?_⟩
 repeat (any_goals (first | assumption | (with_reducible refine qi9 hx ?_;rw[hc]) | wp_step))
theorem t3{tk:Tok}{Q:PySem.Fin->Shared->Prop}(X:K.In h)(Z:ExcC K C)(hx:h.get? a=some o)(hc:o.cls=.ref C)(hq:Q (.done (.ret (.ref C))) ⟨h,g,d,t,os⟩) :
 wpAny (model prog w) A (Builtin.«object.__getattribute__» ⟨[.ref a,.str "__class__" tk],[]⟩) Q E ⟨h,g,d,t,os⟩:=by
 have ht:(⟨h,g,d,t,os⟩:Shared).TypeIs (.builtin "object.__class__") "getset_descriptor":=qr4;have L1:Looks (model prog w) h (typeLookup (.ref C) "__class__") (some (.builtin "object.__class__")):=looks_findIn X Z.cl;have f5:=qr4;have f6:=F.slot_gs_get.lookup;have f7:=F.slot_gs_set.lookup
 repeat (any_goals (first | assumption | (with_reducible refine qi9 hx ?_;rw[hc]) | with_reducible refine L1.at ?_ | wp_step))
 refine eY X Z hx hc ?_
 repeat (any_goals (first | assumption | wp_step))
theorem t4{M:Model}{nameV:Value}{Q:Unit->Shared->Prop}(X:K.In h)(Z:ExcC K C)(hx:h.get? a=some o)(hc:o.cls=.ref C)(hq:Q () ⟨h,g,d,t,os⟩) :
 wpAny M A (checkBuiltinCall "BaseException.__getattribute__" ⟨[.ref a,nameV],[]⟩) Q E ⟨h,g,d,t,os⟩:=by
 have hk:builtinKind "BaseException.__getattribute__"=some .slot:=by decide +kernel
 have g8:splitId "BaseException.__getattribute__"=some ("BaseException","__getattribute__"):=by decide +kernel
 have LS:Looks M h (isSubtype (.ref C) (.type "BaseException")) true:=looks_subIn X Z.be;have ha:=F.args_bexc_ga (.ref a) nameV;simp only[checkBuiltinCall,hk,g8];refine qa5 ?_;unfold isInstance
 repeat (first | (with_reducible refine qi9 hx ?_;rw[hc]) | with_reducible refine LS.at ?_ | wp_step)
 exact hq
theorem cD{tk:Tok}{R:Result->Shared->Prop}(X:K.In h)(Z:ExcC K C)(hx:h.get? a=some o)(hc:o.cls=.ref C)(hq:R (.ok (.ret (.ref C))) ⟨h,g,d,t,os⟩) :
 codeAny (model prog w) A (.call (.builtin "BaseException.__getattribute__") ⟨[.ref a,.str "__class__" tk],[]⟩) R ⟨h,g,d,t,os⟩ :=
 codeAny_call_builtin F.attr_ValueError.ga.plain F.entry_bexc_ga (t4 X Z hx hc (t3 X Z hx hc hq))
theorem iC{tk:Tok}{fill expr:Bool}{Q:Value->Shared->Prop}(X:K.In h)(Z:ExcC K C)(hx:h.get? a=some o)(hc:o.cls=.ref C)(hq:Q (.ref C) ⟨h,g,d,t,os⟩) :
 wpAny (model prog w) A (getAttrBy (.ref a) (.str "__class__" tk) fill expr) Q E ⟨h,g,d,t,os⟩:=by
 have f3:=F.attr_ValueError.ga.bind (.ref a);have zU:(expr&&onTheHeap (Value.builtin "BaseException.__getattribute__"))=false:=by cases expr<;>rfl
 have sV:(Value.builtin "BaseException.__getattribute__"==Value.builtin "object.__getattribute__")=false:=by decide +kernel
 have ZT:(onTheHeap (Value.ref C)&&Value.builtin "BaseException.__getattribute__"==Value.builtin "object.__getattribute__")=false:=by rw[sV];rfl
 have L1:Looks (model prog w) h (typeLookup (.ref C) "__getattribute__") (some (.builtin "BaseException.__getattribute__")):=looks_findIn X Z.ga;have ZC:Looks (model prog w) h (typeLookup (.ref C) "__getattr__") none:=looks_findIn X Z.gt
 repeat (any_goals (first | assumption | (with_reducible refine qi9 hx ?_;rw[hc]) | with_reducible refine L1.at ?_ | with_reducible refine ZC.at ?_ | wp_step))
 refine cD X Z hx hc ?_
 repeat (any_goals (first | assumption | wp_step))
theorem CD{Q:Option Value->Shared->Prop}(X:K.In h)(Z:ExcC K C)(hx:h.get? a=some o)(hc:o.cls=.ref C)(hq:Q (some (.ref C)) ⟨h,g,d,t+1,os⟩):wpAny (model prog w) A (getAttr? (.ref a) "__class__") Q E ⟨h,g,d,t,os⟩:=by
 unfold getAttr? getAttrBy?
 repeat (any_goals (first | assumption | with_reducible apply iC X Z hx hc | wp_step))
theorem gF(Z:ExcC K C):KitX K (.ref a) (.ref C) (fun h=>∃o,h.get? a=some o/\o.cls=.ref C) where
 ty:=fun M h X ⟨o,e,c⟩=>by
  have:=(Looks.ld (M:=M) (part:=none) e).andThen (f:=fun ob=>pure ob.cls) .now;rw[c]at this;exact this
 it:=fun M h X _=>by
  obtain⟨nm,qn,N,bs',bm,hdct,sn,sub,ab,col,dd,k0,k1,k2,k3,k5,nid,QA,_,_⟩:=kts_cls X Z.cls;intro A' Q' E' s' k q;unfold isType loadHead;exact qa5 (wpAny_loadPart (k _ _ QA) (qd3 q))
 ne:=fun h tp dd its n sl X htp=>by
  obtain⟨nm,qn,N,bs',bm,hdct,sn,sub,ab,col,dd,k0,k1,k2,k3,k5,nid,QA,_,_⟩:=kts_cls X Z.cls;refine Bool.eq_false_iff.mpr fun q=>?_;have e:C=tp:=Value.ref.inj (qn3.mp q);subst e;have z:=congrArg Obj.cls (qd7 (QA.symm.trans htp));have z2:("type":String)="tuple":=by injection z
  exact absurd z2 (by decide)
 ca:=fun {prog w A E Q s} X ⟨o,e,c⟩ k=>by
  obtain⟨sh,sg,sd,st,so⟩:=s;exact CD X Z e c k
end
section
variable{X:Cx}{K:Frag}
theorem Cm(hK:X.K=K:=by rfl):E7 X (.builtin "isinstance") (fun xs H Q=>∃(e C:Addr) (y:V) (c:Value) (b:Bool),xs=[.ref e,y]/\RelV y c/\(∀u,RelV y u->u=c)/\H e=some (JS e (.ref C))/\ExcC K C/\kitOne K (.ref C) c=some b/\Q (.bl b) H):=by
 subst hK;intro Ab s σ H xs us Q I r h;obtain⟨e,C,y,c,b,rfl,_,hy,hH,Z,kk,q⟩:=h;obtain⟨u,v,rfl,rx,rt⟩:=Vv r;cases rx;cases hy v rt;have ho:=I.hok e _ hH;obtain⟨⟨o,vs,e1,c1,_⟩,_⟩:=ho;exact kia_one (gF Z) I.kIn ⟨o,e1,c1⟩ kk (fun z=>nomatch z) fun tk=>⟨.bl b,H,I.tok tk,rfl,q⟩
theorem Dd{D:Addr}:∀u,RelV (.ref D) u->u=.ref D:=fun u h=>h
theorem ID{n:String}:∀u,RelV (.ty n) u->u=.type n:=fun u h=>h
end
end L2
namespace L2
open PySem PySem.Spec PyProof.Rows
noncomputable def nW(K:W.Frag)(a:Addr):It :=
 ⟨fun i H=>∃xs x,SqL K H a xs/\xs[i]?=some x,fun i H x H'=>∃p v,H p=none/\x=.ref p/\H'=upd H p (.tup [.int i,v])/\∀xs,SqL K H a xs->xs[i]?=some v,fun i H=>∃xs,SqL K H a xs/\xs.length<=i⟩
theorem CG{P:Program}{w:World}{K:W.Frag}{es:List Expr}{x1:Nat}{tpos:Pos}(a e it:Addr)(hne:e≠it):Vq P w K (.Tuple es x1 tpos) (nW K a) [e,it] e (fun i h=>(∃old,IsEnum h e it (i:Int) old)/\h.IsListIter it a i) where
 mem:=by simp
 obj:=fun i h st b hb=>by
  obtain⟨⟨old,h1⟩,o,h2,c,d⟩:=st;rcases qb9.mp hb with rfl | hb
  . exact⟨_,h1,fun v z=>by cases (show Data.fields _=Data.cell v from z)⟩
  . have z:b=it:=by simpa using hb
    subst z;exact⟨o,h2,fun v z=>by rw[d]at z;cases z⟩
 keep:=fun i h h' st k=>by
  obtain⟨⟨old,h1⟩,h2⟩:=st;exact⟨⟨old,k e (by simp) _ h1⟩,h2.at fun o z=>k it (by simp) o z⟩
 item:=by
  intro X hP hw hK hc i Ab s σ H E I hf st hg;subst hP hw hK;obtain⟨⟨old,h1⟩,h2⟩:=st;obtain⟨xs,x,hq,hx⟩:=hg;obtain⟨its,rv,p,hz⟩:=I.list hq;obtain⟨u,hu,ru⟩:=rv.get hx;have fe:=hf e (by simp);have fi:=hf it (by simp);have VD:e<s.heap.objs.size:=qa7 h1;have hfresh:H s.heap.objs.size=none:=I.hok.fresh (qa0 _);refine wpAny_pyNext_enum_item h1 h2 p.isList (x:=u) (by simpa using hu) hne fun h' hout TM htup hsz hk=>?_;refine⟨_,rfl,wpAny_letOwnedTupleGo_enum hout fun h3 hen Qo=>?_⟩
  replace Qo:Heap.SameBut e h' h3:=Qo
  have kk:∀b o,b≠e->b≠it->s.heap.get? b=some o->h3.get? b=some o:=fun b o n1 n2 z=>(Qo.2 b n1).trans (hk b o n1 n2 z);have pS:h3.get? s.heap.objs.size=some { cls:=.type "tuple",data:=.seq #[.int i s.toks,u] }:=(Qo.2 _ (qm9 VD)).trans htup;have TN:h3.IsListIter it a (i+1):=TM.at fun o z=>(Qo.2 it hne.symm).trans z;have eT:∀b,b ∉ [e,it]->b≠e/\b≠it:=fun b hb=>by simpa using hb
  have dF:∀b v,H b=some v->b≠e/\b≠it:=fun b v z=>⟨Bj z fe.1,Bj z fi.1⟩
  have c0:∀b v,H b=some v->b≠s.heap.objs.size:=fun b v z=>Bj z hfresh;refine⟨.ref s.heap.objs.size,upd H s.heap.objs.size (.tup [.int i,x]),?_,rfl,⟨s.heap.objs.size,x,hfresh,rfl,rfl,fun ys hy=>by rw[I.list_inj hy hq];exact hx⟩,⟨⟨_,hen⟩,TN⟩,fun b hb=>?_⟩
  . refine Bu.step (s:=s) (h':=h3) (t':=s.toks+1) (H':=upd H s.heap.objs.size (.tup [.int i,x])) I (g':=s.gens) (d':=s.drawn) (ch:=[e,it]) (fun b hb=>?_) (fun b o _ _ hb z _=>kk b o (eT b hb).1 (eT b hb).2 z) (fun b o _ _ hb z _=>⟨o.slots,kk b o (eT b hb).1 (eT b hb).2 z⟩) (fun b o hb z n=>?_) (fun b o hb z=>⟨o,kk b o (eT b hb).1 (eT b hb).2 z⟩)
     (fun b ys z=>by rw[Bb (c0 b _ z)];exact z) (fun b o v z=>by rw[Bb (c0 b _ z)];exact z) (fun b ps z=>⟨#[],by rw[Bb (c0 b _ z),z];simp⟩) (fun m hm=>?_) (fun b v z=>?_) I.bare
    . rcases qb9.mp hb with rfl | hb
      . exact⟨fe.2.2.2.1,fe.2.1,fe.2.2.2.2.1,fe.2.2.2.2.2⟩
      . have z:b=it:=by simpa using hb
        subst z;exact⟨fi.2.2.2.1,fi.2.1,fi.2.2.2.2.1,fi.2.2.2.2.2⟩
    . rw[Bb (qb8 (qa7 z))];exact n
    . obtain⟨o,es',ep,ho,r⟩:=hm;exact⟨o,es',ep,kk _ o fe.2.1.symm fi.2.1.symm ho,r⟩
    . by_cases hb:b=s.heap.objs.size
      . subst hb;rw[Ae]at z;cases z;exact⟨(by show(2:Nat)<=sizeLine;decide),[.int i s.toks,u],.cons ⟨_,rfl⟩ (.cons ru .nil),⟨_,pS,rfl,rfl,_,rfl⟩⟩
      . rw[Bb hb]at z;refine(I.hok b v z).stay (fun c y hc' q=>?_) (fun c q=>by rw[Bb (c0 c _ q)];exact q) fun c ys q=>by rw[Bb (c0 c _ q)];exact q
        rcases hc' with rfl | hc'
        . exact kk _ _ (dF _ _ z).1 (dF _ _ z).2 q
        . exact kk _ _ (dF _ _ hc').1 (dF _ _ hc').2 q
  . have lb:b<s.heap.objs.size:=by
     rcases qb9.mp hb with rfl | hb
     . exact VD
     . have z:b=it:=by simpa using hb
       subst z;obtain⟨o,z,_⟩:=h2;exact qa7 z
    rw[Bb (qb8 lb)];exact(hf b hb).1
 done:=by
  intro X hP hw hK hc i Ab s σ H E I hf st hg;subst hP hw hK;obtain⟨⟨old,h1⟩,h2⟩:=st;obtain⟨xs,hq,hx⟩:=hg;obtain⟨its,rv,p,hz⟩:=I.list hq;obtain⟨f0,f1,f2,f3,f4,f5⟩:=hf it (by simp);have hl:=rv.length;exact wpAny_pyNext_enum_end (I.ok.hd hc) h1 h2 p.isList (by simp;omega) fun h' eb=>⟨rfl,I.turned (t':=s.toks) (fun b o hb z=>eb b o hb z) f0 f1 f3 f4 f5⟩
 self:=fun _ _ _ _ _ st h=>by
  obtain⟨⟨old,h1⟩,h2⟩:=st;exact wpAny_pyIter_enum h1 h
noncomputable def pR(K:W.Frag)(ta:TA):TI:=fun σ H R=>ta σ H fun vs H1=>∃a,vs=[.ref a]/\(∃xs,SqL K H1 a xs)/\R (nW K a) H1
theorem Rt:bootBuiltins "enumerate"=some (.type "enumerate"):=by decide +kernel
theorem Xq{X:Cx}{K:W.Frag}{es:List Expr}{x1:Nat}{tpos:Pos}{a:Expr}{ta:TA}{p pos:Pos}(hg:Gl X "enumerate")(hm:X.mg "enumerate"=none)(ha:PA X [a] ta)(hK:X.K=K:=by rfl)(hs:starEach [a] X.env=[(false,eval a X.env)]:=by rfl):PI X (.Tuple es x1 tpos) (.Call (.Name "enumerate" p) [a] [] pos) (pR K ta):=by
 subst hK;intro Ab s σ H R I h;refine Call_ (Kv I hg hm Rt (qf1 (Ed (ha pos Ab s σ H _ I h) fun us s1 _z=>?_) hs rfl));obtain⟨vs,H1,I1,r1,q1⟩:=_z;obtain⟨l,e,⟨xs,hq⟩,q⟩:=q1;subst e;cases r1 with
 | cons r rr =>
   cases rr;cases r;obtain⟨its,rv,pl,hz⟩:=I1.list hq;refine call_enumerate_list pl.isList fun h' hen hit hsz hk=>?_;refine wpAny_pyIter_enum hen ⟨s1.heap.objs.size+1,[s1.heap.objs.size+1,s1.heap.objs.size],_,_,H1,rfl,I1.kept (t':=s1.toks) hk,CG l _ _ (Nat.succ_ne_self _),⟨⟨_,hen⟩,hit⟩,fun b hb=>?_,q⟩
   have lb:s1.heap.objs.size<=b:=by
    rcases qb9.mp hb with rfl | hb
    . exact qk3 _
    . have z:b=s1.heap.objs.size:=by simpa using hb
      rw[z];exact qa0 _
   exact I1.fpOk lb (I1.hok.fresh lb)
section
variable{g:TG}{tc:TT}{te:TE}{D:Addr}{Q:Hp->Prop}{τ:St}{H:Hp}
theorem EC{K:W.Frag}{a:Addr}{xs:List V}(Pv:Nat->List V->St->Hp->Prop)(h0:Pv 0 [] τ H)(hl:∀i ys τ H,i<=xs.length->Pv i ys τ H->SqL K H a xs)
 (hs:∀i x ys τ H p,xs[i]?=some x->Pv i ys τ H->H p=none->g (.ref p) τ (upd H p (.tup [.int i,x])) fun τ2 H2=>tc τ2 H2 fun b H3=>if b=true then te τ2 H3 fun y H4=>H4 D=some (.lst ys)/\ys.length<sizeLine/\Pv (i+1) (ys++[y]) τ2 (upd H4 D (.lst (ys++[y]))) else Pv (i+1) ys τ2 H3)
 (hd:∀ys τ H,Pv xs.length ys τ H->Q H):Pq (nW K a) g tc te D Q τ H:=by
 refine⟨fun i m ys τ H=>m=xs.length-i/\i<=xs.length/\Pv i ys τ H,⟨xs.length,by simp,qa8 _,h0⟩,?_⟩;rintro i m ys τ H ⟨rfl,hi,pp⟩;have q:=hl i ys τ H hi pp;by_cases hlt:i<xs.length
 . refine .inr ⟨⟨xs,xs[i],q,by simp[hlt]⟩,Pv (i+1),fun ys' τ' H' p'=>⟨xs.length-(i+1),O9m,rfl,hlt,p'⟩,fun x H' y=>?_⟩;obtain⟨p,v,hp,rfl,rfl,y⟩:=y;exact hs i v ys τ _ p (y xs q) pp hp
 . have e:i=xs.length:=O9m
   subst e;exact .inl ⟨⟨xs,q,qa0 _⟩,hd ys τ H pp⟩
theorem i6{K:W.Frag}{a:Addr}{xs:List V}{g:TG}{tb:TS}{D:Ends}{σ:St}{H:Hp}(Pv:Nat->St->Hp->Prop)(h0:Pv 0 σ H)(hl:∀i σ H,i<=xs.length->Pv i σ H->SqL K H a xs)
 (hs:∀i x σ H p,xs[i]?=some x->Pv i σ H->H p=none->g (.ref p) σ (upd H p (.tup [.int i,x])) fun σ2 H2=>tb { D with nx:=Pv (i+1),ct:=Pv (i+1),bk:=D.nx } σ2 H2) (hd:∀σ H,Pv xs.length σ H->D.nx σ H) :
 ∃W:Nat->Nat->St->Hp->Prop,(∃m,W 0 m σ H)/\∀i m σ H,W i m σ H →
   ((nW K a).stop i H/\D.nx σ H)\/((nW K a).go i H/\∃N:St->Hp->Prop,(∀σ' H',N σ' H'->∃m',m'<m/\W (i+1) m' σ' H')/\∀x H',(nW K a).yld i H x H'->g x σ H' fun σ2 H2=>tb { D with nx:=N,ct:=N,bk:=D.nx } σ2 H2):=by
 refine⟨fun i m σ H=>m=xs.length-i/\i<=xs.length/\Pv i σ H,⟨xs.length,by simp,qa8 _,h0⟩,?_⟩;rintro i m σ H ⟨rfl,hi,pp⟩;have q:=hl i σ H hi pp;by_cases hlt:i<xs.length
 . refine .inr ⟨⟨xs,xs[i],q,by simp[hlt]⟩,Pv (i+1),fun σ' H' p'=>⟨xs.length-(i+1),O9m,rfl,hlt,p'⟩,fun x H' y=>?_⟩;obtain⟨p,v,hp,rfl,rfl,y⟩:=y;exact hs i v σ _ p (y xs q) pp hp
 . have e:i=xs.length:=O9m
   subst e;exact .inl ⟨⟨xs,q,qa0 _⟩,hd σ H pp⟩
end
theorem Bu.turnedN{X:Cx}{Ab:LAObj}{σ:St}{H:Hp}{s:Shared}{h':Heap}{t':Nat}{fp:List Addr}(I:Bu X Ab σ H s)(k:∀b o,b ∉ fp->s.heap.get? b=some o->h'.get? b=some o)(hf:∀b∈fp,M7 X Ab H b) :
 Bu X Ab σ H { s with heap:=h',toks:=t' }:=by
 have dF:∀c o,H c=some o->c ∉ fp:=fun c o e hm=>by rw[(hf c hm).1]at e;cases e
 refine I.step (g':=s.gens) (d':=s.drawn) (ch:=fp) (fun b hb=>?_) (fun b o _ _ hc e _=>k b o hc e) (fun b o _ _ hc e _=>⟨o.slots,k b o hc e⟩) (fun _ _ _ _ n=>n)
  (fun b o hc e=>⟨o,k b o hc e⟩) (fun _ _ e=>e) (fun _ _ _ e=>e) (fun b ps e=>⟨#[],by rw[e];simp⟩) (fun m hm=>?_) (fun b u e=>?_) I.bare
 . have f:=hf b hb;exact⟨f.2.2.2.1,f.2.1,f.2.2.2.2.1,f.2.2.2.2.2⟩
 . obtain⟨o,es',ep,ho,r⟩:=hm;exact⟨o,es',ep,k _ o (fun z=>(hf _ z).2.1 rfl) ho,r⟩
 . refine(I.hok b u e).stay (fun c y hc' q=>?_) (fun c q=>q) fun c ys q=>q;rcases hc' with rfl | hc'
   . exact k _ _ (dF _ _ e) q
   . exact k _ _ (dF _ _ hc') q
noncomputable def rQ(K:W.Frag)(a b:Addr):It :=
 ⟨fun i H=>∃xs ys x y,SqL K H a xs/\SqL K H b ys/\xs[i]?=some x/\ys[i]?=some y,
  fun i H v H'=>∃p x y,H p=none/\v=.ref p/\H'=upd H p (.tup [x,y])/\(∀xs,SqL K H a xs->xs[i]?=some x)/\∀ys,SqL K H b ys->ys[i]?=some y,
  fun i H=>∃xs ys,SqL K H a xs/\SqL K H b ys/\(xs.length<=i\/ys.length<=i)⟩
theorem EY{P:Program}{w:World}{K:W.Frag}{es:List Expr}{x1:Nat}{tpos:Pos}(a b z TI TO i1 i2:Addr)(D:ZipApart z TI TO i1 i2 a b) :
 Vq P w K (.Tuple es x1 tpos) (rQ K a b) [z,TI,TO,i1,i2] z (fun i h=>IsZip h z TI TO .none/\IsPair h TI (.ref i1) (.ref i2)/\(∃c d,IsPair h TO c d)/\h.IsListIter i1 a i/\h.IsListIter i2 b i) where
 mem:=by simp
 obj:=fun i h st c hc=>by
  obtain⟨hz,hTI,⟨u,v,hTO⟩,⟨o1,h1,c1,d1⟩,⟨o2,h2,c2,d2⟩⟩:=st;simp only[qb9,qg3,or_false]at hc;rcases hc with rfl | rfl | rfl | rfl | rfl
  . exact⟨_,hz,fun v q=>by cases (show Data.fields _=Data.cell v from q)⟩
  . exact⟨_,hTI,fun v q=>by cases (show Data.seq _ _=Data.cell v from q)⟩
  . exact⟨_,hTO,fun v q=>by cases (show Data.seq _ _=Data.cell v from q)⟩
  . exact⟨o1,h1,fun v q=>by rw[d1]at q;cases q⟩
  . exact⟨o2,h2,fun v q=>by rw[d2]at q;cases q⟩
 keep:=fun i h h' st k=>by
  obtain⟨hz,hTI,⟨u,v,hTO⟩,h1,h2⟩:=st;exact⟨k z (by simp) _ hz,k TI (by simp) _ hTI,⟨u,v,k TO (by simp) _ hTO⟩,h1.at fun o q=>k i1 (by simp) o q,h2.at fun o q=>k i2 (by simp) o q⟩
 item:=by
  intro X hP hw hK hc i Ab s σ H E I hf st hg;subst hP hw hK;obtain⟨hz,hTI,⟨u0,v0,hTO⟩,h1,h2⟩:=st;obtain⟨xs,ys,x,y,g9,DN,hx,hy⟩:=hg;obtain⟨ia,ra,pa,_⟩:=I.list g9;obtain⟨ib,rb,pb,_⟩:=I.list DN;obtain⟨u,hu,ru⟩:=ra.get hx;obtain⟨v,hv,rv⟩:=rb.get hy;have hfresh:H s.heap.objs.size=none:=I.hok.fresh (qa0 _);have pK:=qa7 hz;refine wpAny_pyNext_zip_item D hz hTI hTO h1 h2 pa.isList pb.isList (x:=u) (y:=v) (by simpa using hu) (by simpa using hv) fun h' hz' MU KY h2' htup hsz hk=>?_;refine⟨_,rfl,wpAny_letOwnedTupleGo_zip hz' fun h3 sU Qo=>?_⟩
  replace Qo:Heap.SameBut z h' h3:=Qo
  have kk:∀c o,c ∉ [z,TI,TO,i1,i2]->s.heap.get? c=some o->h3.get? c=some o:=fun c o hc e=>by
   simp only[qb9,qg3,or_false,not_or]at hc;obtain⟨n1,n2,n3,n4,n5⟩:=hc;exact(Qo.2 c n1).trans (hk c o n1 n3 n4 n5 e)
  have pS:h3.get? s.heap.objs.size=some { cls:=.type "tuple",data:=.seq #[u,v] }:=(Qo.2 _ (qm9 pK)).trans htup;have hi1:h3.IsListIter i1 a (i+1):=KY.at fun o e=>(Qo.2 i1 D.i1z).trans e;have hi2:h3.IsListIter i2 b (i+1):=h2'.at fun o e=>(Qo.2 i2 D.i2z).trans e;have mV:IsPair h3 TI (.ref i1) (.ref i2):=(Qo.2 TI D.TIz).trans (hk _ _ D.TIz D.TITO D.TIi1 D.TIi2 hTI);have mU:IsPair h3 TO u v:=(Qo.2 TO D.TOz).trans MU;have dF:∀c o,H c=some o->c ∉ [z,TI,TO,i1,i2]:=fun c o e hm=>by rw[(hf c hm).1]at e;cases e
  have c0:∀c o,H c=some o->c≠s.heap.objs.size:=fun c o e=>Bj e hfresh;refine⟨.ref s.heap.objs.size,upd H s.heap.objs.size (.tup [x,y]),?_,rfl,⟨s.heap.objs.size,x,y,hfresh,rfl,rfl,fun zs q=>by rw[I.list_inj q g9];exact hx,fun zs q=>by rw[I.list_inj q DN];exact hy⟩,⟨sU,mV,⟨_,_,mU⟩,hi1,hi2⟩,fun c hc=>?_⟩
  . refine Bu.step (s:=s) (h':=h3) (t':=s.toks) (H':=upd H s.heap.objs.size (.tup [x,y])) I (g':=s.gens) (d':=s.drawn) (ch:=[z,TI,TO,i1,i2]) (fun c hc=>?_) (fun c o _ _ hc e _=>kk c o hc e) (fun c o _ _ hc e _=>⟨o.slots,kk c o hc e⟩) (fun c o hc e n=>?_) (fun c o hc e=>⟨o,kk c o hc e⟩)
     (fun c zs e=>by rw[Bb (c0 c _ e)];exact e) (fun c o w' e=>by rw[Bb (c0 c _ e)];exact e) (fun c ps e=>⟨#[],by rw[Bb (c0 c _ e),e];simp⟩) (fun m hm=>?_) (fun c w' e=>?_) I.bare
    . have f:=hf c hc;exact⟨f.2.2.2.1,f.2.1,f.2.2.2.2.1,f.2.2.2.2.2⟩
    . rw[Bb (qb8 (qa7 e))];exact n
    . obtain⟨o,es',ep,ho,r⟩:=hm;exact⟨o,es',ep,kk _ o (fun q=>(hf _ q).2.1 rfl) ho,r⟩
    . by_cases hcs:c=s.heap.objs.size
      . subst hcs;rw[Ae]at e;cases e;exact⟨(by show(2:Nat)<=sizeLine;decide),[u,v],.cons ru (.cons rv .nil),⟨_,pS,rfl,rfl,_,rfl⟩⟩
      . rw[Bb hcs]at e;refine(I.hok c w' e).stay (fun c' y' hc' q=>?_) (fun c' q=>by rw[Bb (c0 c' _ q)];exact q) fun c' zs q=>by rw[Bb (c0 c' _ q)];exact q
        rcases hc' with rfl | hc'
        . exact kk _ _ (dF _ _ e) q
        . exact kk _ _ (dF _ _ hc') q
  . have lb:c<s.heap.objs.size:=by
     simp only[qb9,qg3,or_false]at hc;obtain⟨o1,q1,_⟩:=h1;obtain⟨o2,q2,_⟩:=h2;rcases hc with rfl | rfl | rfl | rfl | rfl
     . exact pK
     . exact qa7 hTI
     . exact qa7 hTO
     . exact qa7 q1
     . exact qa7 q2
    rw[Bb (qb8 lb)];exact(hf c hc).1
 done:=by
  intro X hP hw hK hc i Ab s σ H E I hf st hg;subst hP hw hK;obtain⟨hz,hTI,⟨u0,v0,hTO⟩,h1,h2⟩:=st;obtain⟨xs,ys,g9,DN,hx⟩:=hg;obtain⟨ia,ra,pa,_⟩:=I.list g9;obtain⟨ib,rb,pb,_⟩:=I.list DN;have la:=ra.length;have lb:=rb.length;refine wpAny_pyNext_zip_end (I.ok.hd hc) D hz hTI hTO h1 h2 pa.isList pb.isList ?_ fun h' hk=>⟨rfl,I.turnedN (t':=s.toks) (fp:=[z,TI,TO,i1,i2]) (fun c o hc e=>?_) hf⟩
  . rcases hx with q | q
    . exact .inl (by simp;omega)
    . exact .inr (by simp;omega)
  . simp only[qb9,qg3,or_false,not_or]at hc;obtain⟨n1,n2,n3,n4,n5⟩:=hc;exact hk c o n1 n3 n4 n5 e
 self:=fun _ _ _ _ _ st h=>qq0 st.1 h
noncomputable def SS(K:W.Frag)(ta:TA):TI:=fun σ H R=>ta σ H fun vs H1=>∃a b,vs=[.ref a,.ref b]/\(∃xs,SqL K H1 a xs)/\(∃ys,SqL K H1 b ys)/\R (rQ K a b) H1
theorem eH:bootBuiltins "zip"=some (.type "zip"):=by decide +kernel
theorem Xp{X:Cx}{K:W.Frag}{es:List Expr}{x1:Nat}{tpos:Pos}{a b:Expr}{ta:TA}{p pos:Pos}(hg:Gl X "zip")(hm:X.mg "zip"=none)(ha:PA X [a,b] ta)(hK:X.K=K:=by rfl)(hs:starEach [a,b] X.env=[(false,eval a X.env),(false,eval b X.env)]:=by rfl)(hs2:starEach [b] X.env=[(false,eval b X.env)]:=by rfl) :
 PI X (.Tuple es x1 tpos) (.Call (.Name "zip" p) [a,b] [] pos) (SS K ta):=by
 subst hK;intro Ab s σ H R I h;refine Call_ (Kv I hg hm eH (qf1 (Ed (ha pos Ab s σ H _ I h) fun us s1 ⟨vs,H1,I1,r1,q1⟩=>?_) (by rw[hs,hs2]) (by rw[hs2];rfl)));obtain⟨la,lb,e,⟨xs,g9⟩,⟨ys,DN⟩,q⟩:=q1;subst e;cases r1 with
 | cons ra rr =>
   cases rr with
   | cons rb rr =>
     cases rr;cases ra;cases rb;obtain⟨ia,_,pa,_⟩:=I1.list g9;obtain⟨ib,_,pb,_⟩:=I1.list DN;have a1:la<s1.heap.objs.size:=by obtain⟨_,e,_⟩:=pa.isList;exact qa7 e
     have a2:lb<s1.heap.objs.size:=by obtain⟨_,e,_⟩:=pb.isList;exact qa7 e
     refine call_zip_2 pa.isList pb.isList fun h' hz hTI hTO hi1 hi2 hsz hk=>?_;refine qq0 hz ⟨s1.heap.objs.size+4,[s1.heap.objs.size+4,s1.heap.objs.size+2,s1.heap.objs.size+3,s1.heap.objs.size,s1.heap.objs.size+1],_,_,H1,rfl,I1.kept (t':=s1.toks) hk,EY la lb _ _ _ _ _ (zipApart_new a1 a2),⟨hz,hTI,⟨_,_,hTO⟩,hi1,hi2⟩,fun c hc=>?_,q⟩
     have lc:s1.heap.objs.size<=c:=by
      simp only[qb9,qg3,or_false]at hc;rcases hc with rfl | rfl | rfl | rfl | rfl
      . exact qc4 _ _
      . exact qc4 _ _
      . exact qc4 _ _
      . exact qa0 _
      . exact qc4 _ _
     exact I1.fpOk lc (I1.hok.fresh lc)
section
variable{g:TG}{tc:TT}{te:TE}{D:Addr}{Q:Hp->Prop}{τ:St}{H:Hp}
theorem gZ{K:W.Frag}{a b:Addr}{xs ys:List V}{n:Nat}(hn:n=min xs.length ys.length)(Pv:Nat->List V->St->Hp->Prop)(h0:Pv 0 [] τ H)(hl:∀i zs τ H,i<=n->Pv i zs τ H->SqL K H a xs/\SqL K H b ys)
 (hs:∀i x y zs τ H p,xs[i]?=some x->ys[i]?=some y->Pv i zs τ H->H p=none->g (.ref p) τ (upd H p (.tup [x,y])) fun τ2 H2=>tc τ2 H2 fun b H3=>if b=true then te τ2 H3 fun y H4=>H4 D=some (.lst zs)/\zs.length<sizeLine/\Pv (i+1) (zs++[y]) τ2 (upd H4 D (.lst (zs++[y]))) else Pv (i+1) zs τ2 H3)
 (hd:∀zs τ H,Pv n zs τ H->Q H):Pq (rQ K a b) g tc te D Q τ H:=by
 refine⟨fun i m zs τ H=>m=n-i/\i<=n/\Pv i zs τ H,⟨n,by simp,qa8 _,h0⟩,?_⟩;rintro i m zs τ H ⟨rfl,hi,pp⟩;obtain⟨qa,qb⟩:=hl i zs τ H hi pp;by_cases hlt:i<n
 . refine .inr ⟨⟨xs,ys,xs[i],ys[i],qa,qb,by simp<;>omega,by simp<;>omega⟩,Pv (i+1),fun ys' τ' H' p'=>⟨n-(i+1),O9m,rfl,hlt,p'⟩,fun x H' y=>?_⟩;obtain⟨p,u,v,hp,rfl,rfl,y1,y2⟩:=y;exact hs i u v zs τ _ p (y1 xs qa) (y2 ys qb) pp hp
 . have e:i=n:=O9m
   subst e;exact .inl ⟨⟨xs,ys,qa,qb,O9m⟩,hd zs τ H pp⟩
end
theorem preSum_sum(ns:List Int):∀k,k<=ns.length->preSum (fun i=>ns.getD i 0) k=(ns.take k).sum
 | 0,_=>by simp[preSum]
 | k+1,h=>by
   show preSum _ k+ns.getD k 0=_;rw[preSum_sum ns k (by omega),List.take_succ,qb0 (by omega),List.sum_append,qd5,qb0 (by omega)];simp
theorem EE{X:Cx}(hc:X.calm=true):E7 X (.builtin "sum") (fun xs H Q=>∃(p:Addr) (ns:List Int),xs=[.ref p]/\SqL X.K H p (ns.map V.int)/\Q (.int ns.sum) H):=by
 intro Ab s σ H xs us Q I r h;obtain⟨p,ns,rfl,hq,q⟩:=h;obtain⟨u,rfl,ru⟩:=Om r;cases ru;obtain⟨its,rv,pl,hz⟩:=I.list hq;have hh:X.A.handled=none:=I.ok.hd hc;have l1:=rv.length;rw[qa2]at l1
 have rel:∀(i:Nat) (v:Value),its.toArray[i]?=some v->∃t,v=.int (ns.getD i 0) t:=fun i v e=>by
  have e':its[i]?=some v:=by simpa using e
  have hlt:i<its.length:=(qb2.mp e').1;have hb:ns[i]?=some (ns[i]'(O9m)):=by simp<;>omega
  obtain⟨u,hu,ru⟩:=rv.get (i:=i) (x:=V.int (ns[i]'(O9m))) (by rw[qb7,hb];rfl);rw[e']at hu;cases hu;rw[qd5,hb];exact ru
 refine call_sum_walkG (qp0 pl.isList ?_);refine⟨s.heap.objs.size,[s.heap.objs.size,p],[s.heap.objs.size],its.toArray.size,_,_,fun i=>ns.getD i 0,rfl,Walks.list (show X.A.in1.handled=none from hh) s.heap.objs.size p ?_ its.toArray,⟨⟨_,qb5 _ rfl,rfl,rfl⟩,?_⟩,?_,rel,fun h' tk t' k=>?_⟩
 . obtain⟨o,_,ho,_⟩:=pl;exact qb8 (qa7 ho)
 . exact pl.isList.at fun o e=>qa3 _ e
 . intro b hb;have hb':b=s.heap.objs.size\/b=p:=by simpa using hb
   rw[qh6];rcases hb' with rfl | rfl
   . exact qo5 _
   . obtain⟨o,_,ho,_⟩:=pl;exact Nat.lt_succ_of_lt (qa7 ho)
 . have I1:Bu X Ab σ H { s with heap:=h',toks:=tk }:=I.kept (fun b o e=>k b o (by simp;exact qb8 (qa7 e)) (qa3 _ e));refine⟨.int ns.sum,H,I1,⟨t',?_⟩,q⟩
   have e:preSum (fun i=>ns.getD i 0) its.toArray.size=ns.sum:=by
    rw[qb3,←l1,preSum_sum ns _ (qa0 _),qm1]
   rw[e]
theorem AA{X:Cx}{K:W.Frag}(hc:X.calm=true)(hK:X.K=K:=by rfl):E7 X (.builtin "sum") (fun xs H Q=>∃(p:Addr) (ns:List Int),xs=[.ref p]/\SqL K H p (ns.map V.int)/\Q (.int ns.sum) H):=by subst hK;exact EE hc
theorem EH:bootBuiltins "sum"=some (.builtin "sum"):=by decide +kernel
theorem Ee{X:Cx}:Pr X (binaryOp .Mult) (rI IntMulOk fun i j=>.int (i*j)):=OX fun _ _ _ _ _ _ _ hc q=>mul_int q hc
theorem bY{i:Int}{m:Nat}(h:i.natAbs<2 ^ m):Builtin.Int.intBits i<=m:=by
 unfold Builtin.Int.intBits;split
 . exact qa8 _
 . rename_i h0
   have hne:i.natAbs≠0:=by
    intro z
    exact h0 (by have:i=0:=O9m
                 simp[this])
   exact(qq5 hne).mpr h
theorem Nc{i j:Int}{m n:Nat}(hi:i.natAbs<2 ^ m)(hj:j.natAbs<2 ^ n)(h:m+n<=134217728):IntMulOk i j:=by
 have h1:=bY hi;have h2:=bY hj
 have h3:¬((Builtin.Int.intBits i:Nat):Int)+((Builtin.Int.intBits j:Nat):Int) > ((bitsLine:Nat):Int):=by
  have:bitsLine=134217728:=by decide
  omega
 unfold IntMulOk;intro hz;simp only[qc5]at hz;have h4:=hz.2;unfold Builtin.Int.intTooBig at h4;exact h3 (by simpa using h4)
theorem Kt{i j:Int}(h1:-(2 ^ 64)<i)(h2:i<2 ^ 64):IntMulOk i j:=KC.ok (.inl ⟨h1,h2⟩)
theorem GA{i j:Int}(h1:-(2 ^ 64)<j)(h2:j<2 ^ 64):IntMulOk i j:=KC.ok (.inr ⟨h1,h2⟩)
end L2
namespace L2
open PySem PySem.W PySem.Calls PyProof.Rows
noncomputable def Ex:Nat:=1048576
theorem Sb:∀{ns:List Int}{x:Int},x∈ns->WData.weight (.int x)<=WData.weightAll (ns.map WData.int)
 | n::ns,x,h=>by
   rw[qi6];simp only[WData.weightAll];rcases qb9.mp h with rfl | h
   . omega
   . have:=Sb h;omega
theorem ED{ns:List Int}(h:WData.layableAll [WData.list (ns.map WData.int)]=true):∀x∈ns,x.natAbs<2 ^ Ex:=by
 intro x hx
 have h1:decide (WData.weight (WData.list (ns.map WData.int))<=2 ^ 20)=true:=by
  have:WData.layable (WData.list (ns.map WData.int))=true:=by simpa[WData.layableAll]using h
  unfold WData.layable at this;exact(qm4.mp this).2
 have h2:WData.weightAll (ns.map WData.int)<=1048576:=by
  have:=qc2 h1;simpa only[WData.weight]using this
 have h3:=Sb hx;by_cases h0:x.natAbs=0
 . rw[h0];exact Nat.pow_pos (by decide)
 . have h4:WData.weight (.int x)=x.natAbs.log2+1:=by
    simp only[WData.weight];rw[if_neg fun z=>h0 (by rw[show x=0 by simpa using z];rfl)]
   have h5:x.natAbs.log2<Ex:=by show _<1048576;omega
   exact(qq5 h0).mp h5
theorem Y5{l:OpenLaw}{n:Nat}{q:Program}{loose:List Str}{XP:(Str->Option Value)->Heap->Prop}{YP:World->Heap->Prop}{d:DefRec}
 (hn:l.most=some n) (hdf:d.params.defaults=[])
 (call:∀(w:World) (s₀ s₁:Shared) (mg mb:Str->Option Value) (fa:Addr) (o:Obj) (pm cd doc:Value) (a:Addr) (vs:List Value) (ns:List Int),(∀x∈ns,x.natAbs<2 ^ Ex) →
   Ground q loose [] XP w s₀ mg mb s₁.heap->YP w s₁.heap →
   s₁.heap.get? fa=some o->o.data=.func (docDef d.name d.params d.body d.scope pm cd doc)->s₁.heap.CodeRec cd d.name->mg d.name=some (.ref fa) →
   s₁.heap.get? a=some { cls:=.type "list",data:=.seq vs.toArray }->IntsAre vs ns->ns.length<=n->s₁.gens=#[] →
   codeAny (model l.prog w) callerA (.call (.ref fa) ⟨[.ref a],[]⟩) (fun r s'=>r=.ok (.ret (.bool true))/\OldK s₁.heap s'.heap/\s'.os=s₁.os/\AllBare s'.gens) s₁) :
 WalkO q loose XP YP l.row.toRowW d [] (fun f vs=>PySem.call f vs):=by
 intro w s₀ s₁ mg mb G Y fa o pm cd doc dV kV ho hd hcd hD hmg hg args vals as hpre hlay hrd hwl hlo;obtain rfl:dV=.none:=Dflts.none hD hdf;obtain rfl:kV=.none:=Dflts.noKw hD;obtain⟨a,vs,ns,rfl,rfl,hobj,hints,hlen⟩:=Att.script_of hn hpre hwl;refine enter_call (codeAny_mono (call w s₀ s₁ mg mb fa o pm cd doc a vs ns (ED hlay) G Y ho (fd_plain hd) hcd hmg hobj hints hlen hg) fun r s' hq=>?_);obtain⟨rfl,h2,h3,h4⟩:=hq;exact⟨.inl ⟨.bool true,.bool true,[],rfl,fun _=>rfl,.bool true,Att.post_true l _,fun _=>⟨List.Pairwise.nil,fun _ hm=>(nomatch hm)⟩⟩,h2,h3,h4⟩
theorem walk_ofB{l:PySem.W.OpenLaw}{n k:Nat}{q:Program}{loose:List Str}{XP:(Str->Option Value)->Heap->Prop}{YP:World->Heap->Prop}{d:DefRec}{K:Params->PySem.W.Frag}{CX:World->eW}{sp:World->Sp}{x:Str}
 (hn:l.most=some n) (hn2:n<=sizeLine) (hdf:d.params.defaults=[]) (hr:Eg k callerA)
 (hY:∀(w:World) (h:Heap),YP w h->(K w.params).In h)
 (F:∀(w:World) (mg:Str->Option Value) (fa:Addr) (h:Heap),(K w.params).In h->h.Ns mainGlobals mg->mg d.name=some (.ref fa) →
   ∃fd:FuncData,(∀(s:Shared) (u:Value),BindsTo s fd ⟨[u],[]⟩ [(x,u)]) ∧
     ∀base:Heap,(K w.params).In base->base.Ns mainGlobals mg->Cj l.prog w (K w.params) mg base (CX w) k fa fd [x] (sp w))
 (g8:∀(w:World) (H:Hp) (a:Addr) (ns:List Int),ns.length<=n->(∀x∈ns,x.natAbs<2 ^ Ex)->NG H->SqL (K w.params) H a (ns.map V.int)->sp w [.ref a] H (fun v _=>v=.bl true) fun _ _ _=>False)
 (tX:∀(w:World) (H:Hp) (s:Shared) (e:Value) (s':Shared),CX w [] H s (fun _ _ _=>False) e s'->False) :
 PySem.W.WalkO q loose XP YP l.row.toRowW d [] (fun f vs=>PySem.call f vs):=by
 refine Y5 hn hdf fun w s₀ s₁ mg mb fa o pm cd doc a vs ns Yf G Y ho hd hcd hmg hobj hints hlen hg=>?_;have KX:=hY w _ Y;obtain⟨fd,hb,hF⟩:=F w mg fa _ KX G.T.g hmg;exact gD KX G.T.g G.T.b G.T.builtins G.T.nolimit hg hobj hints (qa1 hlen hn2) hr hF hb (fun H hO hS=>g8 w H a ns hlen Yf hO hS) fun H e s'=>tX w H s₁ e s'
end L2
namespace Hb
noncomputable def Aq(f:Nat->Int):Nat->Int
 | 0=>0
 | n+1=>Aq f n+f n
theorem Az{f g:Nat->Int}:∀{n:Nat},(∀k,k<n->f k=g k)->Aq f n=Aq g n
 | 0,_=>rfl
 | n+1,h=>by
   show Aq f n+f n=Aq g n+g n;rw[Az fun k hk=>h k (by omega),h n (by omega)]
theorem P0:∀n:Nat,Aq (fun _=>0) n=0
 | 0=>rfl
 | n+1=>by show Aq _ n+0=0;rw[P0 n];rfl
theorem Dn(f g:Nat->Int):∀n:Nat,Aq (fun k=>f k+g k) n=Aq f n+Aq g n
 | 0=>rfl
 | n+1=>by
   show Aq _ n+(f n+g n)=(Aq f n+f n)+(Aq g n+g n)
   rw[Dn f g n];omega
theorem B9(c:Int)(f:Nat->Int):∀n:Nat,Aq (fun k=>c*f k) n=c*Aq f n
 | 0=>by show(0:Int)=c*0;rw[qi0]
 | n+1=>by
   show Aq _ n+c*f n=c*(Aq f n+f n);rw[B9 c f n,Int.mul_add]
theorem P3(c:Int)(f:Nat->Int)(n:Nat):Aq (fun k=>f k*c) n=Aq f n*c:=by
 rw[qe7,←B9];exact Az fun k _=>qe7 ..
theorem Gc(f:Nat->Nat->Int)(m:Nat):∀n:Nat,Aq (fun i=>Aq (f i) m) n=Aq (fun j=>Aq (fun i=>f i j) n) m
 | 0=>(P0 m).symm
 | n+1=>by
   show Aq _ n+Aq (f n) m=Aq (fun j=>Aq (fun i=>f i j) n+f n j) m;rw[Gc f m n,Dn]
theorem Dv(f:Nat->Int)(i:Nat):∀n:Nat,Aq (fun k=>(if k=i then 1 else 0)*f k) n=if i<n then f i else 0
 | 0=>by simp[Aq]
 | n+1=>by
   show Aq _ n+(if n=i then 1 else 0)*f n=_;rw[Dv f i n];by_cases h:n=i
   . subst h;simp
   . by_cases h2:i<n
     . rw[if_pos h2,if_neg h,if_pos (by omega)];omega
     . rw[if_neg h2,if_neg h,if_neg (by omega)];omega
noncomputable def Ga(n:Nat)(f:Nat->Int):List Int:=(List.range n).map f
theorem Iz(n:Nat)(f:Nat->Int):(Ga n f).length=n:=by unfold Ga;rw[qa2,qn9]
theorem bM{n i:Nat}{f:Nat->Int}(h:i<n):(Ga n f)[i]?=some (f i):=by
 unfold Ga;rw[qb7,qk5 h];rfl
theorem Oy(n:Nat)(f:Nat->Int):Ga (n+1) f=Ga n f++[f n]:=by
 unfold Ga;rw[List.range_succ,qc8];rfl
theorem We{n:Nat}{f g:Nat->Int}(h:∀i,i<n->f i=g i):Ga n f=Ga n g:=by
 unfold Ga;refine List.map_congr_left fun i hi=>h i (qj7.mp hi)
theorem mK(l:List Int):Ga l.length (fun i=>l.getD i 0)=l:=by
 refine qo0 fun i=>?_;by_cases h:i<l.length
 . rw[bM h,qd5,qb0 h];rfl
 . rw[qf2 (by rw[Iz];omega),qf2 (by omega)]
theorem jI(n:Nat)(f:Nat->Int):(Ga n f).sum=Aq f n:=by
 induction n with
 | zero=>rfl
 | succ n ih=>rw[Oy,List.sum_append,ih];simp[Aq]
theorem JI(n:Nat):(List.replicate n [(0:Int)]).flatten=Ga n fun _=>0:=by
 induction n with
 | zero=>rfl
 | succ n ih =>
   rw[Oy,←ih];clear ih
   induction n with
   | zero=>rfl
   | succ n ih =>
     rw[qh3,qj3,ih];have ih':=ih;rw[qh3,qj3]at ih';rw[←qo1,ih']
theorem Y4{i j:Int}{m n:Nat}(hi:i.natAbs<2 ^ m)(hj:j.natAbs<2 ^ n):(i*j).natAbs<2 ^ (m+n):=by
 rw[qa9,qc7];exact qm0 hi hj
theorem AM{i j:Int}{m:Nat}(hi:i.natAbs<2 ^ m)(hj:j.natAbs<2 ^ m):(i+j).natAbs<2 ^ (m+1):=by
 have h:=qd0 i j;rw[qg7];generalize 2 ^ m=q at *;omega
theorem Pi{i:Int}{m n:Nat}(hi:i.natAbs<2 ^ m)(h:m<=n):i.natAbs<2 ^ n:=qa6 hi (qe1 (by decide) h)
theorem aM{f:Nat->Int}{m:Nat}:∀{n:Nat},(∀k,k<n->(f k).natAbs<2 ^ m)->(Aq f n).natAbs<2 ^ (m+n)
 | 0,_=>by show(0:Int).natAbs<_;exact Nat.pow_pos (by decide)
 | n+1,h=>by
   have h1:=aM (n:=n) (f:=f) fun k hk=>h k O9m;show(Aq f n+f n).natAbs<2 ^ (m+n+1);exact AM h1 (Pi (h n O9m) (qc4 m n))
end Hb
namespace Hb
open PySem L2
noncomputable abbrev VI(n:Nat)(f:Nat->Int):List V:=(Ga n f).map V.int
noncomputable def dL(n:Nat)(f:Nat->Int):L2.D:=.lst (Ea (Ga n f))
noncomputable def dT(h w:Nat)(f:Nat->Nat->Int):L2.D:=.lst ((List.range h).map fun i=>dL w (f i))
section
variable{K:W.Frag}{H H' H1 H2:Hp}
theorem By(n:Nat)(f:Nat->Int):(VI n f).length=n:=by rw[qa2,Iz]
theorem Cw{n i:Nat}{f:Nat->Int}(h:i<n):(VI n f)[i]?=some (.int (f i)):=by rw[qb7,bM h];rfl
theorem qJ{n i:Nat}{f:Nat->Int}(h:i<n):eU (VI n f) ((i:Nat):Int)=some (.int (f i)):=B5 (Cw h)
theorem K6{n i:Nat}{f:Nat->Int}{u:V}(h:(VI n f)[i]?=some u):i<n/\u=.int (f i):=by
 have h1:i<(VI n f).length:=(qb2.mp h).1;rw[By]at h1;rw[Cw h1]at h;exact⟨h1,(qd7 h).symm⟩
theorem Gp(n:Nat)(f:Nat->Int):VI (n+1) f=VI n f++[.int (f n)]:=by
 show(Ga (n+1) f).map V.int=_;rw[Oy,qc8];rfl
theorem Pp{n:Nat}{f g:Nat->Int}(h:∀i,i<n->f i=g i):VI n f=VI n g:=by
 show(Ga n f).map V.int=(Ga n g).map V.int;rw[We h]
theorem nE(n:Nat):(List.replicate n [V.int 0]).flatten=VI n fun _=>0:=by
 show _=(Ga n fun _=>0).map V.int;rw[←JI,List.map_flatten,List.map_replicate];rfl
theorem lD{v:V}{n:Nat}{f:Nat->Int}(h:Rep K H v (dL n f)):∃a,v=.ref a/\SqL K H a (VI n f):=by
 obtain⟨a,vs,e,q,r⟩:=h;rw[Dl.mp r]at q;exact⟨a,e,q⟩
theorem bW{a:Addr}{n:Nat}{f:Nat->Int}(h:SqL K H a (VI n f)):Rep K H (.ref a) (dL n f):=⟨a,_,rfl,h,Dl.mpr rfl⟩
theorem Hi{v:V}{h w:Nat}{f:Nat->Nat->Int}(r:Rep K H v (dT h w f)):∃a us,v=.ref a/\SqL K H a us/\us.length=h/\∀i u,us[i]?=some u->i<h/\∃b,u=.ref b/\SqL K H b (VI w (f i)):=by
 obtain⟨a,us,e,q,r⟩:=r;have hl:us.length=h:=by have:=r.length;simpa using this
 refine⟨a,us,e,q,hl,fun i u hu=>?_⟩;have hi:i<h:=by have:=(qb2.mp hu).1;omega
 obtain⟨d,hd,rd⟩:=r.getV hu;rw[qb7,qk5 hi]at hd;have e2:d=dL w (f i):=(qd7 hd).symm;subst e2;exact⟨hi,lD rd⟩
structure Rows(H H1:Hp)(D:Addr)(as:List Addr)(w:Nat)(f:Nat->Nat->Int):Prop where
 same:Aj H H1
 free:H D=none
 «at»:H1 D=some (.lst (as.map V.ref))
 row:∀j a,as[j]?=some a->H a=none/\a≠D/\H1 a=some (.lst (VI w (f j)))
theorem Rows.nil{D:Addr}{w:Nat}{f:Nat->Nat->Int}(h:H D=none):Rows H (upd H D (.lst [])) D [] w f:=⟨Aj.new h,h,Ae,fun j a e=>by simp at e⟩
theorem Rows.push{D b:Addr}{as:List Addr}{w:Nat}{f:Nat->Nat->Int}(R:Rows H H1 D as w f)(hb:H1 b=none)(s:Aj H1 H2)(h2:H2 b=some (.lst (VI w (f as.length)))):Rows H (upd H2 D (.lst (as.map V.ref++[.ref b]))) D (as++[b]) w f:=by
 have hne:b≠D:=fun z=>by rw[z,R.at]at hb;cases hb
 refine⟨(R.same.trans s).turn R.free,R.free,by rw[Ae,qc8];rfl,fun j a e=>?_⟩;by_cases hj:j<as.length
 . rw[qj8 hj]at e;obtain⟨h1,h2',h3⟩:=R.row j a e;exact⟨h1,h2',by rw[Bb h2'];exact s _ _ h3⟩
 . have hl:j<(as++[b]).length:=(qb2.mp e).1;have ej:j=as.length:=by simp at hl;omega
   subst ej;have eb:b=a:=by simpa using e
   subst eb;exact⟨R.same.free hb,hne,by rw[Bb hne];exact h2⟩
theorem Rows.rep{D:Addr}{as:List Addr}{h w:Nat}{f:Nat->Nat->Int}(R:Rows H H1 D as w f)(hl:as.length=h):Rep K H1 (.ref D) (dT h w f):=by
 refine⟨D,_,rfl,.of R.at,?_⟩;subst hl
 have go:∀(bs:List Addr) (n:Nat),(∀j a,bs[j]?=some a->H1 a=some (.lst (VI w (f (n+j)))))->Reps K H1 (bs.map V.ref) ((List.range' n bs.length).map fun i=>dL w (f i)):=by
  intro bs
  induction bs with
  | nil=>intro n _;rfl
  | cons b bs ih =>
    intro n hr;refine⟨.ref b,bs.map V.ref,rfl,bW (.of ?_),?_⟩
    . have:=hr 0 b rfl;simpa using this
    . refine ih (n+1) fun j a e=>?_;have:=hr (j+1) a (by simpa using e);rw[show n+1+j=n+(j+1) by omega];exact this
 have:=go as 0 fun j a e=>by rw[Nat.zero_add];exact(R.row j a e).2.2
 rw[List.range_eq_range'];exact this
theorem Rows.later{D:Addr}{as:List Addr}{w:Nat}{f:Nat->Nat->Int}(R:Rows H H1 D as w f)(s:Aj H1 H2):Rows H H2 D as w f :=
 ⟨R.same.trans s,R.free,s _ _ R.at,fun j a e=>⟨(R.row j a e).1,(R.row j a e).2.1,s _ _ (R.row j a e).2.2⟩⟩
theorem Mt{g:TG}{te:TE}{D:Addr}{Q:Hp->Prop}{τ:St}{H:Hp}{K:W.Frag}{a b:Addr}{xs ys:List V}{n:Nat}(hn:n=min xs.length ys.length)(Pv:Nat->List V->St->Hp->Prop)(h0:Pv 0 [] τ H)(hl:∀i zs τ H,i<=n->Pv i zs τ H->SqL K H a xs/\SqL K H b ys)
 (hs:∀i x y zs τ H p,xs[i]?=some x->ys[i]?=some y->Pv i zs τ H->H p=none->g (.ref p) τ (upd H p (.tup [x,y])) fun τ2 H2=>te τ2 H2 fun y H4=>H4 D=some (.lst zs)/\zs.length<sizeLine/\Pv (i+1) (zs++[y]) τ2 (upd H4 D (.lst (zs++[y]))))
 (hd:∀zs τ H,Pv n zs τ H->Q H):Pq (rQ K a b) g CK te D Q τ H:=gZ hn Pv h0 hl (fun i x y zs τ H p e1 e2 pp hp=>hs i x y zs τ H p e1 e2 pp hp) hd
end
noncomputable def spreadV(ns:List Int)(k:Int):Int:=if k<(ns.length:Int) then ns.getD k.toNat 0 else if ns.length=0 then k*k+3*k else ns.getD (k%(ns.length:Int)).toNat 0*(48271+k*k)+k
theorem BQ{ns:List Int}{m:Nat}(h:∀x∈ns,x.natAbs<2 ^ m)(i:Nat):(ns.getD i 0).natAbs<2 ^ m:=by
 by_cases hi:i<ns.length
 . rw[qd5,qb0 hi];exact h _ (qk0 hi)
 . rw[qd5,qf2 (by omega)];exact Nat.pow_pos (by decide)
theorem CM{ns:List Int}(h:∀x∈ns,x.natAbs<2 ^ Ex){k:Int}(h0:0<=k)(h1:k<=100000):(spreadV ns k).natAbs<2 ^ (Ex+65):=by
 have kb:k.natAbs<2 ^ 32:=by have:k.natAbs<=100000:=O9m
                             exact qa4 this (by decide)
 have kk:(k*k).natAbs<2 ^ 64:=Y4 kb kb;unfold spreadV;split
 . exact Pi (BQ h _) (qc4 _ _)
 . split
   . have h3:(3*k).natAbs<2 ^ 64:=by
      have:(3*k).natAbs<=300000:=O9m
      exact qa4 this (by decide)
     exact Pi (AM kk h3) (Nat.le_add_left _ _)
   . have h4:(48271+k*k).natAbs<2 ^ 64:=by
      have h5:k*k<=100000*100000:=qq2 h1 h1 h0 (by decide);have h6:0<=k*k:=qf8 h0 h0;have:(48271+k*k).natAbs<=10000048271:=O9m
      exact qa4 this (by decide)
     exact AM (Y4 (BQ h _) h4) (Pi kb (qa1 (by decide) (Nat.le_add_left 64 Ex)))
noncomputable def JE(H:Hp)(n:Nat)(f:Nat->Int)(Q:V->Hp->Prop):Prop:=∀(D:Addr) (H':Hp),H D=none->Aj H H'->H' D=some (.lst (VI n f))->Q (.ref D) H'
noncomputable def jE(H:Hp)(h w:Nat)(f:Nat->Nat->Int)(Q:V->Hp->Prop):Prop:=∀(D:Addr) (as:List Addr) (H':Hp),as.length=h->Rows H H' D as w f->Q (.ref D) H'
section
variable(K:W.Frag)
noncomputable def Ru:Sp:=fun vs H Q _=>∃(a:Addr) (ns:List Int),vs=[.ref a]/\SqL K H a (ns.map V.int)/\ns.length<=63/\(∀x∈ns,x.natAbs<2 ^ Ex)/\∀H',Q (.bl true) H'
noncomputable def Si:Sp:=fun vs H Q _=>∃(a b:Int) (x y:Addr) (n:Nat) (p q:Nat->Int),vs=[.int a,.ref x,.int b,.ref y]/\SqL K H x (VI n p)/\SqL K H y (VI n q)/\n<=1000/\(∀j,j<n->IntMulOk a (p j)/\IntMulOk b (q j))/\JE H n (fun j=>a*p j+b*q j) Q
noncomputable def V1:Sp:=fun vs H Q _=>∃(v:V) (h w j:Nat) (f:Nat->Nat->Int),vs=[v,.int j]/\Rep K H v (dT h w f)/\h<=1000/\j<w/\JE H h (fun i=>f i j) Q
noncomputable def Kh:Sp:=fun vs H Q _=>∃(v:V) (h w:Nat) (f:Nat->Nat->Int),vs=[v,.int w]/\Rep K H v (dT h w f)/\h<=1000/\w<=1000/\jE H w h (fun i j=>f j i) Q
noncomputable def Sh(_K:W.Frag):Sp:=fun vs H Q _=>∃n i:Nat,vs=[.int n,.int i]/\n<=1000/\JE H n (fun j=>if j=i then 1 else 0) Q
noncomputable def W8(_K:W.Frag):Sp:=fun vs H Q _=>∃n:Nat,vs=[.int n]/\n<=1000/\jE H n n (fun i j=>if j=i then 1 else 0) Q
noncomputable def Ji:Sp:=fun vs H Q _=>∃(v:V) (x:Addr) (h w:Nat) (f:Nat->Nat->Int) (a:Nat->Int),vs=[v,.ref x]/\Rep K H v (dT h w f)/\SqL K H x (VI w a)/\h<=1000/\w<=1000/\(∀i k,i<h->k<w->IntMulOk (f i k) (a k))/\JE H h (fun i=>Aq (fun k=>f i k*a k) w) Q
noncomputable def Ll:Sp:=fun vs H Q _=>∃(a:Addr) (ns:List Int) (k:Int),vs=[.ref a,.int k]/\SqL K H a (ns.map V.int)/\0<=k/\k<=100000/\ns.length<=63/\Q (.int (spreadV ns k)) H
noncomputable def cN:Sp:=fun vs H Q _=>∃(v:V) (h w:Nat) (f:Nat->Nat->Int),vs=[v]/\Rep K H v (dT h w f)/\h<=1000/\jE H h w f Q
end
end Hb
namespace L2
open PySem PySem.Spec PyProof.Rows
section
variable{κ:Type}[DecidableEq κ]
end
noncomputable abbrev KT(H:Hp):List (List Key × V)->List (List Key × Addr × Value)->Prop:=Paired fun p q=>p.1=q.1/\H q.2.1=some (.tup (p.1.map kV))/\RelV p.2 q.2.2
section
variable{P:Program}{w:World}{H:Hp}{h:Heap}{a:Addr}
theorem OR{u:HO}(ok:Nk P w H h)(e:Rd H a u):ObjOk P w H h a u:=e.ok ok
theorem LB{kvs:List (Key × V)}(ok:Nk P w H h)(e:Rd H a (.dK kvs)):kvs.length<=sizeLine/\(a==sysModules)=false/\∃vs,KV kvs vs/\h.DictOf (X1 P w) a vs :=
 show ObjOk P w H h a (.dK kvs) from OR ok e
end
section
variable{X:Cx}{Ab:LAObj}{σ:St}{H:Hp}{s:Shared}{a:Addr}{y v:V}{u r:Value}{o:Option V}{A:Around}{E:Value->Shared->Prop}
theorem Bu.big(I:Bu X Ab σ H s):sysModules<s.heap.objs.size:=by
 have h:mainGlobals<s.heap.objs.size:=(I.mod.glob.keeps I.bk).lt;exact qr9 (by decide) h
end
section
variable{X:Cx}{Ab:LAObj}{σ:St}{H:Hp}{s:Shared}{a:Addr}{kvs:List (Key × V)}{k:Key}{u:Value}{A:Around}{E:Value->Shared->Prop}
end
section
variable{X:Cx}{o i e value:Expr}{pos pos' tpos:Pos}{td ty tv:TE}
end
theorem dk_empty{P:Program}{w:World}{H:Hp}(h:Heap)(hb:sysModules<h.objs.size):ObjOk P w H (h.push { cls:=.type "dict",data:=.dict #[] }) h.objs.size (.dK []) :=
 ⟨qa8 _,qk1.mpr (Ne.symm (qb8 hb)),[],.nil,Heap.DictOf.new h⟩
noncomputable def lR:TE:=fun _ H Q=>∀p,H p=none->Q (.ref p) (upd H p (.dK []))
section
variable{X:Cx}{pos:Pos}
theorem Ti:PE X (.Dict [] [] pos) lR:=fun Ab s σ H Q I h =>
 wpAny_Dict_empty ⟨.ref s.heap.objs.size,_,I.laid (a:=s.heap.objs.size) (o:=.dK []) (t':=s.toks) (fun _ _ q=>qa3 _ q) (qa0 _) (dk_empty s.heap I.big),rfl,h _ (I.hok.fresh (qa0 _))⟩
end
structure M1(X:Cx)(o:Expr)(m:Str)(apos:Pos)(e:Expr)(cpos:Pos):Prop where
 base:attributeBase o m X.env (eval o X.env)=eval o X.env
 few:((backTo cpos (starEach [e] X.env)).all (fun x=>!x.1)&&(backToKw cpos (keywordEach [] X.env)).all (fun x=>x.1.isSome)
  && decide (([e]:List Expr).length+([]:List Keyword).length+(if ([]:List Keyword).isEmpty then 0 else 1)<30))=true
 line:(apos.endLine==cpos.line)=true
 trees:backTo cpos (starEach [e] X.env)=[(false,eval e X.env)]
structure M2(X:Cx)(o:Expr)(m:Str)(apos:Pos)(e f:Expr)(cpos:Pos):Prop where
 base:attributeBase o m X.env (eval o X.env)=eval o X.env
 few:((backTo cpos (starEach [e,f] X.env)).all (fun x=>!x.1)&&(backToKw cpos (keywordEach [] X.env)).all (fun x=>x.1.isSome)
  && decide (([e,f]:List Expr).length+([]:List Keyword).length+(if ([]:List Keyword).isEmpty then 0 else 1)<30))=true
 line:(apos.endLine==cpos.line)=true
 trees:backTo cpos (starEach [e,f] X.env)=[(false,eval e X.env),(false,eval f X.env)]
section
variable{X:Cx}{Ab:LAObj}{σ:St}{H:Hp}{s:Shared}{a:Addr}{y d:V}{u r:Value}{o:Option V}{A:Around}{E:Value->Shared->Prop}
end
section
variable{X:Cx}{o e f:Expr}{apos cpos:Pos}{td ty tx:TE}
end
section
variable{X:Cx}{Ab:LAObj}{σ:St}{H:Hp}{s:Shared}{a:Addr}{kvs:List (Key × V)}{A:Around}{E:Value->Shared->Prop}
end
section
variable{X:Cx}{Ab:LAObj}{σ:St}{H:Hp}{s:Shared}{a:Addr}{y:V}{u:Value}{A:Around}{E:Value->Shared->Prop}
end
section
variable{X:Cx}
end
end L2
namespace L2
open PySem PySem.Spec PyProof.Rows PySem.SeqAt
end L2
namespace L2
open PySem PySem.Spec PyProof.Rows
section
variable{prog:Program}{w:World}{A:Around}{E:Value->Shared->Prop}
variable{KT:Type}[DecidableEq KT]{knd:KeyKind prog w KT}
end
end L2
namespace L2
open PySem PySem.Spec PyProof.Rows PySem.SeqAt
end L2
namespace L2
open PySem PySem.Spec PyProof.Rows
section
variable{X:Cx}{Ab:LAObj}{σ:St}{H:Hp}{s:Shared}{a:Addr}{kvs:List (Key × V)}
end
section
variable{g:TG}{tc:TT}{te:TE}{D:Addr}{Q:Hp->Prop}{τ:St}{H:Hp}
end
end L2
namespace L2
open PySem PySem.Spec PyProof.Rows PySem.SeqAt
section
variable{X:Cx}{Ab:LAObj}{σ:St}{H:Hp}{s:Shared}{a:Addr}{ms:List (Int × Int)}
end
section
variable{X:Cx}{n:Nat}{K:W.Frag}
end
end L2
namespace L2
open PySem PySem.Spec PyProof.Rows
theorem u1{n c:Nat}(h:n+8<c):n+1<c:=O9m
inductive DA where
 | d (d:D) | dic
noncomputable def UK(K:W.Frag)(H:Hp)(v:V):DA->Prop
 | .d d=>Rep K H v d
 | .dic=>∃a kvs,v=.ref a/\Rd H a (.dK kvs)
noncomputable def xG(n:String):DA->Bool
 | .d d=>g7 n d
 | .dic=>n=="dict"
theorem EF{X:Cx}{K:W.Frag}(hK:X.K=K:=by rfl):E7 X (.builtin "isinstance") (fun xs H Q=>∃x n d,xs=[x,.ty n]/\(n="int"\/n="bool"\/n="str"\/n="tuple"\/n="list"\/n="dict")/\UK K H x d/\Q (.bl (xG n d)) H):=by
 subst hK;intro Ab s σ H xs us Q I r h;obtain⟨x,n,d,e,hn,hx,q⟩:=h;cases d with
 | d d=>exact Mf Ab s σ H xs us Q I r ⟨x,n,d,e,hn,hx,q⟩
 | dic =>
   subst e;obtain⟨a,kvs,rfl,hr⟩:=hx;obtain⟨u,v,rfl,rx,rt⟩:=Vv r;cases rt;cases rx;obtain⟨z,hd,vs,rel,o,es,ep,ho,ex,_⟩:=LB I.hok hr;rcases hn with rfl | rfl | rfl | rfl | rfl | rfl
   . exact PySem.IsiPair.dict_int ho ex.1 ⟨.bl false,H,I.tok _,rfl,q⟩
   . exact PySem.IsiPair.dict_bool ho ex.1 ⟨.bl false,H,I.tok _,rfl,q⟩
   . exact PySem.IsiPair.dict_str ho ex.1 ⟨.bl false,H,I.tok _,rfl,q⟩
   . exact PySem.IsiPair.dict_tuple ho ex.1 ⟨.bl false,H,I.tok _,rfl,q⟩
   . exact PySem.IsiPair.dict_list ho ex.1 ⟨.bl false,H,I.tok _,rfl,q⟩
   . exact PySem.IsiPair.dict_dict ho ex.1 ⟨.bl true,H,I,rfl,q⟩
structure Lf(k:Nat)(A:Around):Prop where
 dp:A.depth+3*k+5<recursionLimit
 un:A.units+16*k+200<cLine
theorem Lf.mono{j k:Nat}{A:Around}(r:Lf k A)(h:j<=k):Lf j A:=⟨by have:=r.dp;omega,by have:=r.un;omega⟩
theorem Lf.deeper{k:Nat}{A:Around}(r:Lf (k+1) A)(env:Env):Lf k (A.deeper env) :=
 ⟨by have:=r.dp;show A.depth+1+3*k+5<_;omega,by have:=r.un;show A.units+3+16*k+200<_;omega⟩
theorem Lf.depth{k:Nat}{A:Around}(r:Lf k A):A.depth<recursionLimit:=by have:=r.dp;omega
theorem Eg.n{k:Nat}{A:Around}{v:Option Value}(r:Eg k A):Lf k (A.mark v):=⟨r.dp,r.un⟩
structure CB(P:Program)(w:World)(K:W.Frag)(mg:Str->Option Value)(base:Heap)(k:Nat)(f:Addr)(fd:FuncData)(ps:List Str)(sp:Sp):Prop where
 len:∀vs H Q E,sp vs H Q E->vs.length=ps.length
 run:∀(A:Around) (outer:List Env) (s:Shared) (H:Hp) (args:Args) (us:List Value) (vs:List V) (Q:VK) (E:XK),Lf k A->Vt P w K mg base A outer s H->BindsTo s fd args (ps.zip us)->Cg vs us->sp vs H Q E →
  codeAny (model P w) A (.call (.ref f) args) (CR Fw outer P w H s Q E) s
noncomputable abbrev rO(P:Program)(w:World)(K:W.Frag)(mg:Str->Option Value)(base:Heap)(N:List Str)(qual:Str)(scope:Scope)(f:Addr)(cd:Value)(A:Around)(outer:List Env)(s:Shared)(H:Hp)(E:XK):Cx :=
 { Vi Fw P w K mg base N qual scope f cd A outer s H E with calm:=false,xe:=fun _ _=>False }
section
variable{P:Program}{w:World}{K:W.Frag}{mg:Str->Option Value}{base:Heap}
theorem AB{N ps:List Str}{qual:Str}{scope:Scope}{f:Addr}{cd:Value}{A:Around}{outer:List Env}{s s1:Shared}{H:Hp}{E:XK}{us:List Value}{vs:List V}
 (S:FnScope N ps scope) (e0:Vt P w K mg base A outer s H) (hl:vs.length=ps.length) (r:Cg vs us)
 (x:InCallC s s.heap.objs.size (bindL (envOfC qual scope s.heap.objs.size f cd).kindOf (ps.zip us) fun _=>none) (cellsFrom (s.heap.objs.size+1) scope.names []) (bindC (envOfC qual scope s.heap.objs.size f cd).kindOf (ps.zip us) fun _=>none) s1) :
 Bu (rO P w K mg base N qual scope f cd A outer s H E) [] (start N vs) H s1:=by
 have e1:Vt P w K mg base ({ A with handled:=none }) outer s H:=⟨e0.frames,e0.mod,e0.bs,e0.bsz,e0.funs,e0.frf,e0.hok,e0.bare⟩
 have I:=Wh (CX:=Fw) (E:=E) (A:={ A with handled:=none }) (cd:=cd) (f:=f) (qual:=qual) S rfl e1 hl r x;exact⟨⟨I.ok.mod,I.ok.kind,I.ok.glob,I.ok.blt,I.ok.above,I.ok.inj,I.ok.has,I.ok.cab,fun z=>Bool.noConfusion z,Around.frames_deeper e0.frames,I.ok.stk,I.ok.exf,I.ok.bs,I.ok.bsz,I.ok.noex,I.ok.exfs,I.ok.funs,I.ok.frf⟩,I.os,I.bare,I.base,I.loc,I.cell,I.free,I.freeC,I.pin,I.hok,I.len⟩
theorem Ey.okN{x qual:Str}{st:Stmt}{f:Addr}{fd:FuncData}{N ps:List Str}{k:Nat}{sp:Sp}(F:Ey K x qual st f fd)(S:FnScope N ps (Ar st))(len:∀vs H Q E,sp vs H Q E->vs.length=ps.length)
 (hbody:∀(Dk:Value) (A:Around) (outer:List Env) (s:Shared) (H:Hp) (vs:List V) (Q:VK) (E:XK),Lf k (A.deeper (envOfC qual (Ar st) s.heap.objs.size f Dk))->sp vs H Q E →
   ∃t,Zg (rO P w K mg base N qual (Ar st) f Dk A outer s H E) (E3 st) t/\t { nx:=fun _ H'=>Q .non H',rt:=Q } (start N vs) H):CB P w K mg base (k+1) f fd ps sp:=by
 obtain⟨oc,od,kV,doc,pm,an,Dk,ct,osl,rfl,lk,hcd⟩:=F.ex;refine⟨len,fun A outer s H args us vs Q E hr e0 hb r g8=>?_⟩;have hl:=len _ _ _ _ g8;have KX:K.In s.heap:=e0.mod.kin.keeps fun b o e=>(e0.bs b o e).1;have lim:s.heap.NoLimit:=e0.mod.nolimit.keeps fun b o e=>(e0.bs b o e).1
 have hkind:∀y∈ps.zip us,(Ar st).names.lookup y.1=some .local\/((Ar st).names.lookup y.1=some .cell/\((cellsFrom (s.heap.objs.size+1) (Ar st).names []).lookup y.1).isSome=true):=fun⟨n,v⟩ hy=>by
  rcases S.par n (qp2 hy).1 with q | q
  . exact .inl q
  . exact .inr ⟨q,qo6 _ _ _ (.inl q)⟩
 refine codeAny_call_function hr.depth (KX _ _ lk) rfl S.co S.gen rfl (PySem.W.codeRec_of KX hcd) (hb _ _ _ _ ?_);refine wpAny_newFunctionEnv_cells S.kind hkind fun env he s1 x=>?_;subst he;refine⟨lim.keeps x.toInCall.keep,codeAny_func ?_⟩;obtain⟨t,ht,hq⟩:=hbody Dk A outer s H vs Q E (hr.deeper _) g8;have I:Bu (rO P w K mg base N qual (Ar st) f Dk A outer s H E) [] (start N vs) H s1:=AB S e0 hl r x;refine qg5 (ht [] s1 (start N vs) H _ I hq) (fun fl s' hs=>?_) fun e s' hs=>hs.elim
 have fin:∀{σ':St}{H':Hp}{v:V}{u:Value},Bu (rO P w K mg base N qual (Ar st) f Dk A outer s H E) [] σ' H' s'->RelV v u->Q v H'->CE outer P w H s Q u s' :=
  fun {σ' H' v u} J rv q=>⟨v,H',J.os,J.bare,J.base,J.hok,rv,q⟩
 cases fl with
 | ret u =>
   obtain⟨v,σ',H',J,rv,q⟩:=hs;exact fin J rv q
 | next =>
   obtain⟨σ',H',J,q⟩:=hs;exact fin (v:=V.non) (u:=Value.none) J rfl q
 | brk =>
   obtain⟨_,_,_,q⟩:=hs;exact False.elim q
 | cont =>
   obtain⟨_,_,_,q⟩:=hs;exact False.elim q
end
structure HasN(P:Program)(w:World)(K:W.Frag)(mg:Str->Option Value)(base:Heap)(x:Str)(ps:List Str)(k:Nat)(sp:Sp):Prop where
 ex:∃(f:Addr) (fd:FuncData),mg x=some (.ref f)/\W.keepIn K (.ref f)=true/\Gb K fd ps []/\CB P w K mg base k f fd ps sp
section
variable{X:Cx}{x:Str}{ps:List Str}{j k:Nat}{sp:Sp}{p pos:Pos}{e:Expr}{es:List Expr}{t:TA}
theorem Qv:bootBuiltins "ValueError"=some (.type "ValueError"):=by decide +kernel
theorem FO(h:HasN X.prog X.w X.K X.mg X.base x ps j sp)(hr:Lf k X.A)(hg:Gl X x)(ha:PA X (e::es) t)(hk:j<=k:=by decide)(hdb:(x==("__debug__":Str))=false:=by decide)
 (he:starEach (e::es) X.env=(false,eval e X.env)::starEach es X.env:=by rfl) (hpl:(backTo pos (starEach es X.env)).any (·.1)=false:=by rfl):PE X (.Call (.Name x p) (e::es) [] pos) (tCall sp [] E0 t):=by
 intro Ab s σ H Q I h1;obtain⟨f,fd,hm,hkp,hb,F⟩:=h.ex;refine qi1 (Hn I hg hm ?_ hdb);refine qh9 (h₀:=X.base) I.ok.mod.kin hkp (Ed (ha pos Ab s σ H _ I h1) fun us s1 ⟨vs,H1,I1,r,q⟩=>⟨I1.kIn,?_⟩) he hpl;have q':sp vs H1 Q E0:=by have:sp (vs++[]) H1 Q E0:=q;rwa [qh4]at this
 have hl:us.length=ps.length:=by rw[←r.length];exact F.len _ _ _ _ q'
 have hb1:=hb s1 us I1.kIn (by rw[qh4];exact hl);rw[qh4]at hb1;refine wpAny_call (codeAny_mono (F.run X.A X.stack s1 H1 ⟨us,[]⟩ us vs Q _ (hr.mono hk) I1.env0 hb1 r q') fun q s' hq=>?_);cases q with
 | error u=>exact False.elim hq
 | ok fl =>
   cases fl with
   | ret u=>exact I1.after hq
   | next=>exact False.elim hq
   | brk=>exact False.elim hq
   | cont=>exact False.elim hq
end
mutual
def Sc:D->PyData
 | .non=>.none
 | .bl b=>.bool b
 | .int i=>.int i
 | .str x=>.str x
 | .tup ds=>.tuple (toPDs ds)
 | .lst ds=>.list (toPDs ds)
def toPDs:List D->List PyData
 | []=>[]
 | d::ds=>Sc d::toPDs ds
end
section
variable{X:Cx}{Ab:LAObj}{σ:St}{H:Hp}{s:Shared}
mutual
theorem Z2(I:Bu X Ab σ H s):∀(d:D) {v:V}{u:Value},Rep X.K H v d->RelV v u->∃as,Reads s.heap u (Sc d) as
 | .non,v,u,h,r=>by
   cases (show v=.non from h);obtain rfl:u=.none:=r;exact⟨_,.none⟩
 | .bl b,v,u,h,r=>by
   cases (show v=.bl b from h);obtain rfl:u=.bool b:=r;exact⟨_,.bool b⟩
 | .int i,v,u,h,r=>by
   cases (show v=.int i from h);obtain⟨t,rfl⟩:=r;exact⟨_,.int i t⟩
 | .str x,v,u,h,r=>by
   cases (show v=.str x from h);obtain⟨t,rfl⟩:=r;exact⟨_,.str x t⟩
 | .tup ds,v,u,h,r=>by
   obtain⟨a,vs,rfl,hq,hr⟩:=h;obtain rfl:u=.ref a:=r;obtain⟨its,rv,p,hz⟩:=I.tuple hq;obtain⟨o,ho,hc,n,hd⟩:=(show s.heap.IsTuple a its.toArray from p)
   obtain⟨as,ra⟩:=readsAll_of I ds hr rv;exact⟨as,.tuple ho hc hd (by simpa using ra)⟩
 | .lst ds,v,u,h,r=>by
   obtain⟨a,vs,rfl,hq,hr⟩:=h;obtain rfl:u=.ref a:=r;obtain⟨its,rv,p,hz⟩:=I.list hq;obtain⟨o,ho,hc,n,hd⟩:=p.isList;obtain⟨as,ra⟩:=readsAll_of I ds hr rv;exact⟨a::as,.list ho hc hd (by simpa using ra)⟩
theorem readsAll_of(I:Bu X Ab σ H s):∀(ds:List D) {vs:List V}{us:List Value},Reps X.K H vs ds->Cg vs us->∃as,ReadsAll s.heap us (toPDs ds) as
 | [],vs,us,h,r=>by
   cases (show vs=[] from h);cases r;exact⟨_,.nil⟩
 | d::ds,vs,us,h,r=>by
   obtain⟨v,q,rfl,hv,hq⟩:=h;cases r with
   | cons r1 r2 =>
     obtain⟨as,ra⟩:=Z2 I d hv r1;obtain⟨bs,rb⟩:=readsAll_of I ds hq r2;exact⟨_,.cons ra rb⟩
end
end
mutual
theorem O8:∀d:D,(Sc d).hasDict=false
 | .non=>rfl
 | .bl _=>rfl
 | .int _=>rfl
 | .str _=>rfl
 | .tup ds=>hasDict_toPDs ds
 | .lst ds=>hasDict_toPDs ds
theorem hasDict_toPDs:∀ds:List D,PyData.hasDictAll (toPDs ds)=false
 | []=>rfl
 | d::ds=>by
   show((Sc d).hasDict || PyData.hasDictAll (toPDs ds))=false;rw[O8 d,hasDict_toPDs ds];rfl
end
end L2
namespace L2
open PySem PySem.Spec PyProof.Rows
inductive DE where
 | d (d:D) | nul
inductive TH where
 | one (e:DE) | rows (es:List DE)
noncomputable def Fv(K:W.Frag)(H:Hp)(v:V):DE->Prop
 | .d d=>Rep K H v d
 | .nul=>∃a,v=.ref a/\Rd H a (.dK [])
noncomputable def Du(K:W.Frag)(H:Hp):List V->List DE->Prop
 | [],[]=>True
 | v::vs,e::es=>Fv K H v e/\Du K H vs es
 | _,_=>False
noncomputable def Ke(K:W.Frag)(H:Hp)(v:V):TH->Prop
 | .one e=>Fv K H v e
 | .rows es=>∃a vs,v=.ref a/\SqL K H a vs/\Du K H vs es
noncomputable def X9(n:String):DE->Bool
 | .d d=>g7 n d
 | .nul=>n=="dict"
noncomputable def rE(n:String):TH->Bool
 | .one e=>X9 n e
 | .rows _=>n=="list"
noncomputable def Dx:DE->PyData
 | .d d=>Sc d
 | .nul=>.dict []
noncomputable def Kg:TH->PyData
 | .one e=>Dx e
 | .rows es=>.list (es.map Dx)
theorem Fv.same{K:W.Frag}{H H':Hp}{v:V}{d:DE}(s:Aj H H')(h:Fv K H v d):Fv K H' v d:=by
 cases d with
 | d d=>exact Rep.same s h
 | nul =>
   obtain⟨a,e,hr⟩:=h;refine⟨a,e,?_⟩;rcases hr with hr|⟨o,hr⟩
   . exact .inl (s _ _ hr)
   . exact .inr ⟨o,s _ _ hr⟩
theorem Du.same{K:W.Frag}{H H':Hp}(s:Aj H H'):∀{vs:List V}{es:List DE},Du K H vs es->Du K H' vs es
 | [],[],_=>trivial
 | _::_,_::_,h=>⟨Fv.same s h.1,Du.same s h.2⟩
 | [],_::_,h=>h.elim
 | _::_,[],h=>h.elim
theorem Ke.same{K:W.Frag}{H H':Hp}{v:V}{t:TH}(s:Aj H H')(h:Ke K H v t):Ke K H' v t:=by
 cases t with
 | one e=>exact Fv.same s h
 | rows es =>
   obtain⟨a,vs,e,hq,hr⟩:=h;exact⟨a,vs,e,s.seq hq,Du.same s hr⟩
theorem Du.len{K:W.Frag}{H:Hp}:∀{vs:List V}{es:List DE},Du K H vs es->vs.length=es.length
 | [],[],_=>rfl
 | _::_,_::_,h=>by rw[qc6,qc6,Du.len h.2]
 | [],_::_,h=>h.elim
 | _::_,[],h=>h.elim
theorem Du.get{K:W.Frag}{H:Hp}:∀{vs:List V}{es:List DE},Du K H vs es->∀{i:Nat}{v:V},vs[i]?=some v->∃e,es[i]?=some e/\Fv K H v e
 | [],[],_,i,v,e=>by simp at e
 | _::_,_::_,h,0,v,e=>by
   simp only[List.getElem?_cons_zero,Option.some.injEq]at e;subst e;exact⟨_,rfl,h.1⟩
 | _::_,_::_,h,i+1,v,e=>by
   simp only[List.getElem?_cons_succ]at e;obtain⟨z,h1,h2⟩:=Du.get h.2 e;exact⟨z,by simpa using h1,h2⟩
 | [],_::_,h,_,_,_=>h.elim
 | _::_,[],h,_,_,_=>h.elim
theorem Du.mk{K:W.Frag}{H:Hp}:∀{vs:List V}{es:List DE},vs.length=es.length->(∀(i:Nat) v e,vs[i]?=some v->es[i]?=some e->Fv K H v e)->Du K H vs es
 | [],[],_,_=>trivial
 | v::vs,e::es,hl,h=>⟨h 0 v e rfl rfl,Du.mk (by simpa using hl) fun i v e h1 h2=>h (i+1) v e (by simpa using h1) (by simpa using h2)⟩
 | [],_::_,hl,_=>by simp at hl
 | _::_,[],hl,_=>by simp at hl
theorem Du.put{K:W.Frag}{H:Hp}{v:V}{e:DE}(hv:Fv K H v e):∀{vs:List V}{es:List DE},Du K H vs es->∀i,Du K H (vs.set i v) (es.set i e)
 | [],[],_,i=>by simp[Du]
 | _::_,_::_,h,0=>⟨hv,h.2⟩
 | _::_,_::_,h,i+1=>⟨h.1,Du.put hv h.2 i⟩
 | [],_::_,h,_=>h.elim
 | _::_,[],h,_=>h.elim
theorem Du.of{K:W.Frag}{H:Hp}:∀{vs:List V}{ds:List D},Reps K H vs ds->Du K H vs (ds.map DE.d)
 | vs,[],h=>by cases (show vs=[] from h);trivial
 | vs,d::ds,h=>by
   obtain⟨v,q,rfl,hv,hq⟩:=h;exact⟨hv,Du.of hq⟩
section
variable{X:Cx}{K:W.Frag}
theorem Mu(hK:X.K=K:=by rfl):E7 X (.builtin "isinstance") (fun xs H Q=>∃x n t,xs=[x,.ty n]/\(n="int"\/n="bool"\/n="str"\/n="tuple"\/n="list"\/n="dict")/\Ke K H x t/\Q (.bl (rE n t)) H):=by
 subst hK;intro Ab s σ H xs us Q I r h;obtain⟨x,n,t,e,hn,hx,q⟩:=h
 match t,hx,q with
 | .one (.d d),hx,q=>exact Mf Ab s σ H xs us Q I r ⟨x,n,d,e,hn,hx,q⟩
 | .one .nul,hx,q =>
   obtain⟨a,e2,hr⟩:=hx;exact EF (K:=X.K) rfl Ab s σ H xs us Q I r ⟨x,n,.dic,e,hn,⟨a,[],e2,hr⟩,q⟩
 | .rows es,hx,q =>
   subst e;obtain⟨a,vs,rfl,hq,_⟩:=hx;obtain⟨u,v,rfl,rx,rt⟩:=Vv r;cases rt;cases rx;obtain⟨its,_,⟨o,_,e,c,_⟩,_⟩:=I.list hq;have k:=GF (K:=X.K) (d:=.lst []) hn;exact qj2 PySem.W.kitx_list I.kIn ⟨o,e,c⟩ k (fun z=>nomatch z) fun tk=>⟨.bl (n=="list"),H,I.tok tk,rfl,q⟩
end
section
variable{X:Cx}{Ab:LAObj}{σ:St}{H:Hp}{s:Shared}
theorem Rx(I:Bu X Ab σ H s):∀(d:DE) {v:V}{u:Value},Fv X.K H v d->RelV v u->∃as,Reads s.heap u (Dx d) as/\((Dx d).hasDict=true->sysModules ∉ as)
 | .d d,v,u,h,r=>by
   obtain⟨as,ra⟩:=Z2 I d h r;exact⟨as,ra,fun e=>by rw[show(Dx (.d d)).hasDict=false from O8 d]at e;cases e⟩
 | .nul,v,u,h,r=>by
   obtain⟨a,rfl,hr⟩:=h;obtain rfl:u=.ref a:=r;obtain⟨z,hd,vs,rel,o,es,ep,ho,ex,he,_,hp,_⟩:=LB I.hok hr;cases rel;cases hes:es.toList with
   | cons x l=>rw[hes]at hp;cases hp
   | nil =>
     refine⟨_,.dict (kvs:=[]) ho ex.1 he (by rw[hes];exact .nil) (by rw[hes];exact .nil),fun _ hm=>?_⟩;simp only[qh4,List.mem_singleton]at hm;rw[hm]at hd;simp at hd
theorem Ta(I:Bu X Ab σ H s)(hw:∀d:PyData,d.shown.length<=sizeLine->True):∀{es:List DE}{vs:List V}{us:List Value},Du X.K H vs es->Cg vs us->(∀e∈es,(Dx e).showable=true/\(Dx e).shown.length<=sizeLine) →
 (∃as,ReadsAll s.heap us (es.map Dx) as)/\∃bs,ReadAtMost s.heap (PyData.depthAll (es.map Dx)) bs/\ReprAllK X.prog X.w bs s.heap (PyData.depthAll (es.map Dx)) us (PyData.shownAll (es.map Dx))
 | [],[],_,_,r,_=>by
   cases r;exact⟨⟨_,.nil⟩,[],(fun _ h=>nomatch h),by simp only[List.map_nil,PyData.shownAll];exact .nil⟩
 | e::es,v::vs,us,h,r,hs=>by
   cases r with
   | cons r1 r2 =>
     obtain⟨as,ra,hsm⟩:=Rx I e h.1 r1;obtain⟨⟨bs,rb⟩,b2,hb2,k2⟩:=Ta I hw h.2 r2 fun e he=>hs e (qc1 _ he);obtain⟨b1,hb1,k1⟩:=ReprK.of_reads (prog:=X.prog) (w:=X.w) ra (hs e qe8).1 hsm (hs e qe8).2;refine⟨⟨_,.cons ra rb⟩,b1++b2,?_,?_⟩
     . intro b hm;simp only[qi6,PyData.depthAll];rcases qp4.mp hm with hm | hm
       . obtain⟨d',as',r',hd'⟩:=hb1 b hm;exact⟨d',as',r',qa1 hd' (Nat.le_max_left _ _)⟩
       . obtain⟨d',as',r',hd'⟩:=hb2 b hm;exact⟨d',as',r',qa1 hd' (Nat.le_max_right _ _)⟩
     . simp only[qi6,PyData.depthAll,PyData.shownAll];exact .cons ((k1.more fun b hb=>qp9 _ hb).level_le (Nat.le_max_left _ _)) (k2.more_le (fun b hb=>qd8 _ hb) (Nat.le_max_right _ _))
 | [],_::_,_,h,_,_=>h.elim
 | _::_,[],_,h,_,_=>h.elim
end
structure Fin(B k:Nat)(p:PyData):Prop where
 sh:p.showable=true
 le:p.shown.length<=B
 dp:p.depth<=k
theorem Fin.mono{B B' k k':Nat}{p:PyData}(h:Fin B k p)(hB:B<=B')(hk:k<=k'):Fin B' k' p:=⟨h.sh,qa1 h.le hB,qa1 h.dp hk⟩
theorem Rz{B k:Nat}:∀{ps:List PyData},(∀p∈ps,Fin B k p)->PyData.showableAll ps=true/\((PyData.shownAll ps).map (·.length)).sum<=B*ps.length/\PyData.depthAll ps<=k/\(PyData.shownAll ps).length=ps.length
 | [],_=>⟨rfl,by simp[PyData.shownAll],by simp[PyData.depthAll],rfl⟩
 | p::ps,h=>by
   obtain⟨h1,h2,h3,h4⟩:=Rz (ps:=ps) fun q hq=>h q (qc1 _ hq);have hp:=h p qe8;refine⟨by simp only[PyData.showableAll,hp.sh,h1,Bool.and_self],?_,?_,by simp only[PyData.shownAll,qc6,h4]⟩
   . simp only[PyData.shownAll,qi6,List.sum_cons,qc6,Nat.mul_add,Nat.mul_one];have:=hp.le;omega
   . simp only[PyData.depthAll];exact Nat.max_le.mpr ⟨hp.dp,h3⟩
theorem i8{B k:Nat}{ps:List PyData}(h:∀p∈ps,Fin B k p)(hl:ps.length<=41):Fin (41*(B+2)+3) (k+1) (.list ps):=by
 obtain⟨h1,h2,h3,h4⟩:=Rz h;have h5:=listText_len_le (PyData.shownAll ps);have h6:B*ps.length<=B*41:=qd2 _ hl;refine⟨by simpa only[PyData.showable]using h1,?_,by simp only[PyData.depth];omega⟩;simp only[PyData.shown];omega
theorem Wq{B k:Nat}{ps:List PyData}(h:∀p∈ps,Fin B k p)(hl:ps.length<=41):Fin (41*(B+2)+3) (k+1) (.tuple ps):=by
 obtain⟨h1,h2,h3,h4⟩:=Rz h;have h5:=tupleText_len_le (PyData.shownAll ps);have h6:B*ps.length<=B*41:=qd2 _ hl;refine⟨by simpa only[PyData.showable]using h1,?_,by simp only[PyData.depth];omega⟩;simp only[PyData.shown];omega
theorem jR{i:Int}(h:i.natAbs<2 ^ 200):Fin 201 0 (.int i):=by
 have hl:i.natAbs.log2<200:=by
  by_cases h0:i.natAbs=0
  . rw[h0];decide
  . exact(qq5 h0).mpr h
 refine⟨by simp only[PyData.showable,qr7];omega,?_,by simp[PyData.depth]⟩;show(Str.ofString (toString i)).length<=201;rw[PySem.ofString_length];exact int_text_length_le (by decide) hl
theorem K5{X:Cx}{K:W.Frag}{n:Nat}(hg:X.A.guards=some [])(hu:X.A.units+16<cLine)(hK:X.K=K:=by rfl) :
 E7 X (.builtin "repr") (fun xs H Q=>∃(v:V) (t:TH),xs=[v]/\Ke K H v t/\Fin 1000000 8 (Kg t)/\(∀es,t=.rows es->∀e∈es,Fin 1000000 8 (Dx e))/\Q (.str (Kg t).shown) H):=by
 subst hK;intro Ab s σ H xs us Q I r h;obtain⟨v,t,rfl,hr,hf,hfs,q⟩:=h;obtain⟨u,rfl,ru⟩:=Om r;have hz:(Kg t).shown.length<=sizeLine:=qa1 hf.le (by decide);have fin:∀tk t',EP X Ab σ Q (.str (Kg t).shown t') { s with toks:=tk }:=fun tk t'=>⟨.str (Kg t).shown,H,I.tok tk,⟨t',rfl⟩,q⟩
 match t,hr,hf,hfs,hz,fin,q with
 | .one (.d .non),hr,hf,hfs,hz,fin,q=>cases (show v=.non from hr);cases (show u=Value.none from ru);exact P.repr_of_none (fin _ _)
 | .one (.d (.bl b)),hr,hf,hfs,hz,fin,q=>cases (show v=.bl b from hr);cases (show u=Value.bool b from ru);exact P.repr_of_bool (fin _ _)
 | .one (.d (.int i)),hr,hf,hfs,hz,fin,q=>cases (show v=.int i from hr);obtain⟨t,rfl⟩:=ru;exact P.repr_of_int (by simpa[Kg,Dx,Sc,PyData.showable]using hf.sh) (fin _ _)
 | .one (.d (.str x)),hr,hf,hfs,hz,fin,q=>cases (show v=.str x from hr);obtain⟨t,rfl⟩:=ru;exact P.repr_of_str (fin _ _) hz
 | .one (.d (.tup ds)),hr,hf,hfs,hz,fin,q =>
   obtain⟨as,ra,hsm⟩:=Rx I (.d (.tup ds)) hr ru;obtain⟨a,vs,rfl,_⟩:=hr;cases (show u=.ref a from ru);exact repr_of_reads' (h₀:=s.heap) ra hf.sh hsm hg (by have:=hf.dp;simp only[Kg]at this;omega) (fun _ _ e=>e) (fun h' u tk kp=>⟨.str (Dx (.d (.tup ds))).shown,H,I.kept (t':=tk) kp,⟨u,rfl⟩,q⟩) hz
 | .one (.d (.lst ds)),hr,hf,hfs,hz,fin,q =>
   obtain⟨as,ra,hsm⟩:=Rx I (.d (.lst ds)) hr ru;obtain⟨a,vs,rfl,_⟩:=hr;cases (show u=.ref a from ru);exact repr_of_reads' (h₀:=s.heap) ra hf.sh hsm hg (by have:=hf.dp;simp only[Kg]at this;omega) (fun _ _ e=>e) (fun h' u tk kp=>⟨.str (Dx (.d (.lst ds))).shown,H,I.kept (t':=tk) kp,⟨u,rfl⟩,q⟩) hz
 | .one .nul,hr,hf,hfs,hz,fin,q =>
   obtain⟨as,ra,hsm⟩:=Rx I .nul hr ru;obtain⟨a,rfl,_⟩:=hr;cases (show u=.ref a from ru);exact repr_of_reads' (h₀:=s.heap) ra hf.sh hsm hg (by have:=hf.dp;simp only[Kg]at this;omega) (fun _ _ e=>e) (fun h' u tk kp=>⟨.str (Dx .nul).shown,H,I.kept (t':=tk) kp,⟨u,rfl⟩,q⟩) hz
 | .rows es,hr,hf,hfs,hz,fin,q =>
   obtain⟨a,vs,rfl,hq,hrs⟩:=hr;cases (show u=.ref a from ru);obtain⟨its,rv,p,_⟩:=I.list hq;obtain⟨o,h1,h2,n,h3⟩:=p.isList;obtain⟨⟨as,ra⟩,bs,hb,hk⟩:=Ta I (fun _ _=>trivial) hrs rv fun e he=>⟨(hfs es rfl e he).sh,qa1 (hfs es rfl e he).le (by decide)⟩
   have hz':(listText (PyData.shownAll (es.map Dx))).length<=sizeLine:=by simpa only[Kg,PyData.shown]using hz
   have hna:a ∉ bs:=not_mem_of_deeper (.list h1 h2 h3 (by simpa using ra)) (by simp only[PyData.depth];omega) hb
   have mR:X.A.in1.units+(PyData.depthAll (es.map Dx)+1)<cLine:=by
    have:=hf.dp;simp only[Kg,PyData.depth]at this;show X.A.units+1+_<_;omega
   have last:∀(h':Heap) (u:Tok) (tk:Tok),(∀b o,s.heap.get? b=some o->h'.get? b=some o)->EP X Ab σ Q (.str (listText (PyData.shownAll (es.map Dx))) u) { s with heap:=h',toks:=tk }:=fun h' u tk kp =>
    ⟨.str (Kg (.rows es)).shown,H,I.kept (t':=tk) kp,⟨u,by simp only[Kg,PyData.shown]⟩,q⟩
   refine call_repr_slot O9m ⟨o,h1,h2⟩ F.slot_list_repr.toG ?_;cases its with
   | nil =>
     cases rv;cases es with
     | cons _ _=>exact hrs.elim
     | nil=>exact call_list_repr_empty ⟨o,h1,h2⟩ h1 (by simpa using h3) ⟨_,_,rfl,by simpa only[List.map_nil,PyData.shownAll,listText_nil]using last s.heap _ _ fun _ _ e=>e⟩
   | cons x l =>
     exact call_list_reprK h1 h2 (by simpa using h3) hna (by simpa using hk.length_eq) (fun i y e=>hk.item i y (by simpa using e)) hg (fun b _=>Clear.nil b) mR (fun _ _ e=>e) (fun h' u tk kp=>⟨_,_,rfl,last h' u tk kp⟩) hz'
structure LG(X:Cx)(es:List Expr)(t:TA):Prop where
 h:PA X es t
theorem Mo{X:Cx}:LG X [] iG:=⟨Af⟩
theorem Ce{X:Cx}{e:Expr}{es:List Expr}{te:TE}{t:TA}(ha:PE X e te)(hr:LG X es t)(hs:starEach (e::es) X.env=(false,eval e X.env)::starEach es X.env:=by rfl):LG X (e::es) (fD te t):=⟨Aa ha hr.h hs⟩
theorem Z4{X:Cx}{K:W.Frag}{c sl:Expr}{es:List Expr}{k:Nat}{p q r z:Pos}{rest:List Stmt}{tc:TT}{ta:TA}{OG:TE}{tr:TS}(hc:PT X c tc)(ha:LG X es ta)(hsl:PE X sl OG)(tF:Zf sl)(hr:Zg X rest tr)(hK:X.K=K:=by rfl) :
 Zg X (.If c [.Return (some (.Subscript (.Tuple es k p) sl q)) r] [] z::rest) (fC (Ri tc (OI (lQ (iP K) (lP ta) OG)) kH) tr):=by
 subst hK;exact Ah (Ck hc (Al (Bq (Bv B7 (Ej ha.h) hsl tF))) Cb) hr
structure nG(X:Cx)(e:Expr)(t:TE):Prop where
 h:PE X e t
theorem Xs{X:Cx}{K:W.Frag}{sl:Expr}{es:List Expr}{k:Nat}{p q:Pos}{ta:TA}{OG:TE}(ha:LG X es ta)(hsl:PE X sl OG)(tF:Zf sl)(hK:X.K=K:=by rfl) :
 nG X (.Subscript (.Tuple es k p) sl q) (lQ (iP K) (lP ta) OG):=by
 subst hK;exact⟨Bv B7 (Ej ha.h) hsl tF⟩
end L2
namespace Hb
open PySem L2
noncomputable def iH:DE->Prop
 | .d (.lst ds)=>ds.length<=1000
 | _=>True
noncomputable def Dp(w:Int):DE->Bool
 | .d (.lst ds)=>decide ((ds.length:Int)=w)&&ds.all Di
 | _=>false
noncomputable def rY:TH->Prop
 | .one e=>X9 "list" e=false
 | .rows es=>es.length<=1000/\∀e∈es,iH e
noncomputable def Dm(w:Int):TH->Bool
 | .one _=>false
 | .rows es=>decide (es.length<=40)&&es.all (Dp w)
theorem g6{e:DE}(h:X9 "list" e=true):∃ds,e=.d (.lst ds):=by
 cases e with
 | nul=>simp[X9]at h
 | d d=>cases d<;>simp[X9,g7]at h;exact⟨_,rfl⟩
theorem S9{w:Int}{e:DE}(h:¬X9 "list" e=true):Dp w e=false:=by
 cases e with
 | nul=>rfl
 | d d=>cases d<;>first | rfl | (simp[X9,g7]at h)
theorem Zl{α:Type}{f:α->Bool}{l:List α}{i:Nat}{x:α}(h:l[i]?=some x):((l.take (i+1)).map f)=(l.take i).map f++[f x]:=by
 rw[List.take_add_one,h,qc8];rfl
theorem all_map{α:Type}{f:α->Bool}{l:List α}:(l.map f).all id=l.all f:=by rw[List.all_map];rfl
theorem Vx{α:Type}{f:α->Bool}{l:List α}{i:Nat}{x:α}(h:l[i]?=some x)(h1:(l.take i).all f=true)(h2:f x=true):(l.take (i+1)).all f=true:=by
 rw[List.take_add_one,h,List.all_append,h1];simp[h2]
theorem Y8{α:Type}{f:α->Bool}{l:List α}{i:Nat}{x:α}(h:l[i]?=some x)(h2:f x=false):l.all f=false:=by
 rw[List.all_eq_false];exact⟨x,qe2 h,by rw[h2];exact qb6⟩
theorem Ij:∀ds:List L2.D,toPDs ds=ds.map Sc
 | []=>rfl
 | d::ds=>by
   show Sc d::toPDs ds=_;rw[Ij ds];rfl
noncomputable def Ml(d:L2.D):Prop:=L2.Fin 220 2 (Sc d)/\iH (.d d)
noncomputable def Ps(e:DE):Prop:=(∃ds:List L2.D,(e=.d (.lst ds)\/e=.d (.tup ds))/\ds.length<=41/\∀d∈ds,Ml d)\/(X9 "list" e=false/\L2.Fin 220 2 (Dx e))
structure Nl(t:TH):Prop where
 sz:rY t
 fin:L2.Fin 1000000 8 (Kg t)
 each:∀es,t=.rows es->∀e∈es,L2.Fin 1000000 8 (Dx e)
theorem gM{ds:List L2.D}(hl:ds.length<=41)(h:∀d∈ds,Ml d):L2.Fin 10000 4 (Sc (.lst ds))/\L2.Fin 10000 4 (Sc (.tup ds)):=by
 have hp:∀p∈toPDs ds,L2.Fin 220 2 p:=fun p hp=>by
  rw[Ij]at hp;obtain⟨d,hd,rfl⟩:=qf7.mp hp;exact(h d hd).1
 have hl2:(toPDs ds).length<=41:=by rw[Ij,qa2];exact hl
 exact⟨(i8 hp hl2).mono (by decide) (by decide),(Wq hp hl2).mono (by decide) (by decide)⟩
theorem Ps.fin{e:DE}(h:Ps e):L2.Fin 10000 4 (Dx e):=by
 rcases h with⟨ds,rfl | rfl,hl,hd⟩|⟨_,h⟩
 . exact(gM hl hd).1
 . exact(gM hl hd).2
 . exact h.mono (by decide) (by decide)
theorem Ps.sz{e:DE}(h:Ps e):iH e:=by
 rcases h with⟨ds,rfl | rfl,hl,hd⟩|⟨h,_⟩
 . show ds.length<=1000;omega
 . trivial
 . cases e with
   | nul=>trivial
   | d d=>cases d<;>first | trivial | (simp[X9,g7]at h)
theorem Qs{es:List DE}(hl:es.length<=41)(h:∀e∈es,iH e/\L2.Fin 10000 4 (Dx e)):Nl (.rows es) where
 sz:=⟨O9m,fun e he=>(h e he).1⟩
 fin:=(i8 (B:=10000) (k:=4) (fun p hp=>by obtain⟨e,he,rfl⟩:=qf7.mp hp;exact(h e he).2) (by rw[qa2];exact hl)).mono (by decide) (by decide)
 each:=fun es' e x hx=>by cases e;exact(h x hx).2.mono (by decide) (by decide)
theorem Ps.thing{K:W.Frag}{H:Hp}{v:V}{e:DE}(h:Ps e)(hv:Fv K H v e):∃t,Ke K H v t/\Nl t:=by
 have one:X9 "list" e=false->∃t,Ke K H v t/\Nl t:=fun hn=>⟨.one e,hv,hn,h.fin.mono (by decide) (by decide),fun _ z=>nomatch z⟩
 rcases h with⟨ds,rfl | rfl,hl,hd⟩|⟨hn,_⟩
 . obtain⟨a,vs,rfl,hq,hr⟩:=hv;refine⟨.rows (ds.map DE.d),⟨a,vs,rfl,hq,Du.of hr⟩,Qs (by rw[qa2];exact hl) fun e he=>?_⟩;obtain⟨d,hd1,rfl⟩:=qf7.mp he;exact⟨(hd d hd1).2,(hd d hd1).1.mono (by decide) (by decide)⟩
 . exact one rfl
 . exact one hn
theorem i0{i:Int}(h:i.natAbs<2 ^ 200):Ml (.int i):=⟨(jR h).mono (by decide) (by decide),trivial⟩
theorem Wm{ns:List Int}(h:∀n∈ns,n.natAbs<2 ^ 200):∀d∈Ea ns,Ml d:=fun d hd=>by
 obtain⟨n,hn,rfl⟩:=qf7.mp hd;exact i0 (h n hn)
noncomputable def My(h w:Nat)(f:Nat->Nat->Int):List DE:=(List.range h).map fun i=>DE.d (dL w (f i))
theorem BW{w:Nat}{f:Nat->Int}(hw:w<=40)(h:∀j,(f j).natAbs<2 ^ 200):Ps (.d (dL w f)):=by
 refine .inl ⟨Ea (Ga w f),.inl rfl,by simp[Ea,Iz];omega,Wm fun n hn=>?_⟩;obtain⟨j,_,rfl⟩:=qf7.mp hn;exact h j
theorem W7{K:W.Frag}{H:Hp}{us:List V}{h w:Nat}{f:Nat->Nat->Int}(Mr:us.length=h)(Hq:∀(i:Nat) u,us[i]?=some u->i<h/\∃b,u=.ref b/\SqL K H b (VI w (f i))):Du K H us (My h w f):=by
 refine Du.mk (by simp[My,Mr]) fun i v e h1 h2=>?_;obtain⟨hi,b,rfl,hb⟩:=Hq i v h1
 have:e=.d (dL w (f i)):=by
  unfold My at h2;rw[qb7,qk5 hi]at h2;simpa using h2.symm
 subst this;exact bW hb
theorem Mm{h w:Nat}{f:Nat->Nat->Int}(hw:w<=40)(hf:∀i j,(f i j).natAbs<2 ^ 200):∀e∈My h w f,Ps e:=fun e he=>by
 obtain⟨i,_,rfl⟩:=qf7.mp he;exact BW hw (hf i)
theorem Zn{es:List DE}(hl:es.length<=41)(h:∀e∈es,Ps e):Nl (.rows es):=Qs hl fun e he=>⟨(h e he).sz,(h e he).fin⟩
theorem EZ{h w:Nat}{f:Nat->Nat->Int}(hh:h<=41)(hw:w<=40)(hf:∀i j,(f i j).natAbs<2 ^ 200):Nl (.one (.d (.tup ((List.range h).map fun i=>dL w (f i))))) where
 sz:=rfl
 fin:=by
  show L2.Fin 1000000 8 (.tuple (toPDs _));refine(Wq (B:=10000) (k:=4) (fun p hp=>?_) (by rw[Ij,qa2,qa2,qn9];exact hh)).mono (by decide) (by decide);rw[Ij]at hp;obtain⟨d,hd,rfl⟩:=qf7.mp hp;obtain⟨i,_,rfl⟩:=qf7.mp hd;exact(BW hw (hf i)).fin
 each:=fun _ z=>nomatch z
theorem gY(ns:List Int)(lo hi:Option Int):∃cs:List Int,L2.cutV (ns.map L2.V.int) lo hi=cs.map L2.V.int/\cs.length<=ns.length/\∀n∈cs,n∈ns:=by
 refine⟨(ns.drop (HT.sIx ns.length 0 lo)).take (HT.sIx ns.length ns.length hi-HT.sIx ns.length 0 lo),?_,?_,fun n hn=>List.mem_of_mem_drop (List.mem_of_mem_take hn)⟩
 . unfold L2.cutV;rw[qa2,List.map_take,List.map_drop]
 . rw[qe3,qh7];omega
theorem Xl{K:W.Frag}{H:Hp}:∀{ds:List L2.D}{vs:List V},vs.length=ds.length->(∀(i:Nat) v d,vs[i]?=some v->ds[i]?=some d->Rep K H v d)->Reps K H vs ds
 | [],vs,hl,_=>by
   cases vs with
   | nil=>rfl
   | cons _ _=>simp at hl
 | d::ds,vs,hl,h=>by
   cases vs with
   | nil=>simp at hl
   | cons v vs=>exact⟨v,vs,rfl,h 0 v d rfl rfl,Xl (by simpa using hl) fun i v d h1 h2=>h (i+1) v d (by simpa using h1) (by simpa using h2)⟩
theorem fB{K:W.Frag}{H:Hp}{us:List V}{h w:Nat}{f:Nat->Nat->Int}(Mr:us.length=h)(Hq:∀(i:Nat) u,us[i]?=some u->i<h/\∃b,u=.ref b/\SqL K H b (VI w (f i))):Reps K H us ((List.range h).map fun i=>dL w (f i)):=by
 subst Mr;refine Xl (by simp) fun i v d h1 h2=>?_;obtain⟨hi,b,rfl,hb⟩:=Hq i v h1
 have:d=dL w (f i):=by
  rw[qb7,qk5 hi]at h2;simpa using h2.symm
 subst this;exact bW hb
theorem Z1{K:W.Frag}{H:Hp}{v:V}{d:L2.D}(hv:Rep K H v d):∀{ds:List L2.D}{vs:List V},Reps K H vs ds->∀i,Reps K H (vs.set i v) (ds.set i d)
 | [],vs,h,i=>by
   cases (show vs=[] from h);rfl
 | d'::ds,vs,h,0=>by
   obtain⟨v',q,rfl,h1,h2⟩:=h;exact⟨v,q,rfl,hv,h2⟩
 | d'::ds,vs,h,i+1=>by
   obtain⟨v',q,rfl,h1,h2⟩:=h;exact⟨v',q.set i v,rfl,h1,Z1 hv h2 i⟩
theorem Im{e:DE}(h1:X9 "list" e=false)(h2:L2.Fin 220 2 (Dx e)):Nl (.one e):=⟨h1,h2.mono (by decide) (by decide),fun _ z=>nomatch z⟩
theorem Ym:L2.Fin 220 2 (Dx (.d .non)):=⟨rfl,by decide +kernel,by decide +kernel⟩
theorem i9(b:Bool):L2.Fin 220 2 (Dx (.d (.bl b))):=by cases b<;>exact⟨rfl,by decide +kernel,by decide +kernel⟩
theorem aG{i:Int}(h:i.natAbs<2 ^ 200):L2.Fin 220 2 (Dx (.d (.int i))):=(i0 h).1
theorem bT:L2.Fin 220 2 (Dx (.d (.str (Str.ofString "")))):=⟨rfl,by decide +kernel,by decide +kernel⟩
theorem BS:L2.Fin 220 2 (Dx (.d (.str (Str.ofString "[]")))):=⟨rfl,by decide +kernel,by decide +kernel⟩
theorem jS:L2.Fin 220 2 (Dx (.d (.str (Str.ofString "ab")))):=⟨rfl,by decide +kernel,by decide +kernel⟩
theorem JR:L2.Fin 220 2 (Dx (.d (.str (Str.ofString "1")))):=⟨rfl,by decide +kernel,by decide +kernel⟩
theorem Yl:L2.Fin 220 2 (Dx (.d (.tup []))):=⟨rfl,by decide +kernel,by decide +kernel⟩
theorem AF:L2.Fin 220 2 (Dx .nul):=⟨rfl,by decide +kernel,by decide +kernel⟩
theorem qC:Ml (.lst [.int 1]):=⟨⟨by decide +kernel,by decide +kernel,by decide +kernel⟩,by show 1<=1000;decide⟩
theorem qB:Ml (.tup [.int 2]):=⟨⟨by decide +kernel,by decide +kernel,by decide +kernel⟩,trivial⟩
theorem bR{d:L2.D}(h1:X9 "list" (.d d)=false)(h2:L2.Fin 220 2 (Dx (.d d))):Ml d:=⟨h2,by cases d<;>first | trivial | (simp[X9,g7]at h1)⟩
end Hb
namespace L2
open PySem PySem.Spec PyProof.Rows
structure Iq(P:Program)(w:World)(K:W.Frag)(mg:Str->Option Value)(base:Heap)(C:Addr)(m:Str)(ps:List Str)(k:Nat)(sp:Sp):Prop where
 ex:∃(f:Addr) (fd:FuncData),HK K C m f/\Gb K fd ps []/\Cj P w K mg base Fw k f fd ps sp
structure o9(P:Program)(w:World)(K:W.Frag)(mg:Str->Option Value)(base:Heap)(C:Addr)(ps:List Str)(k:Nat)(sp:Sp):Prop where
 ex:∃(f:Addr) (fd:FuncData),Mk K C f/\Gb K fd ps []/\Cj P w K mg base Fw k f fd ps sp
section
variable{X:Cx}{K:W.Frag}{j k:Nat}{C:Addr}{ps:List Str}{sp:Sp}{x m f:Str}{p pos apos pos':Pos}{e o value:Expr}{es:List Expr}{ta tv:TE}{t:TA}
theorem Dq{pl:Sem Bool}(he:PE X o ta)(c:Cls X.K C)(h:Iq X.prog X.w X.K X.mg X.base C m ps j sp)(hr:Eg k X.A)(ha:PA X (e::es) t)(hk:j<=k:=by decide)
 (hst:starEach (e::es) X.env=(false,eval e X.env)::starEach es X.env:=by rfl) (hpl:(backTo pos (starEach es X.env)).any (·.1)=false:=by rfl)
 (ht:eval (.Call (.Attribute o m apos) (e::es) [] pos) X.env=(do
   let ov ←eval o X.env
   standAt apos.atName
   let (f,first) ←holding [ov] (getMethod ov m pl)
   callWith pos f first (backTo pos (starEach (e::es) X.env)) (backToKw pos (keywordEach [] X.env))):=by rfl) :
 PE X (.Call (.Attribute o m apos) (e::es) [] pos) (bC C m sp [] E0 ta t):=by
 obtain⟨f,fd,h1,h2,h3⟩:=h.ex;exact iX he c h1 h3 (hr.mono hk) h2 .nil Z5 ha hst hpl ht
theorem J7{pl:Sem Bool}(he:PE X o ta)(c:Cls X.K C)(h:Iq X.prog X.w X.K X.mg X.base C m ps j sp)(hr:Eg k X.A)(hk:j<=k:=by decide)
 (ht:eval (.Call (.Attribute o m apos) [] [] pos) X.env=(do
   let ov ←eval o X.env
   standAt apos.atName
   let (f,first) ←holding [ov] (getMethod ov m pl)
   callWith pos f first (backTo pos (starEach [] X.env)) (backToKw pos (keywordEach [] X.env))):=by rfl) :
 PE X (.Call (.Attribute o m apos) [] [] pos) (bC C m sp [] E0 ta iG):=by
 obtain⟨f,fd,h1,h2,h3⟩:=h.ex;exact FN he c h1 h3 (hr.mono hk) h2 .nil Z5 ht
theorem Ih(h:o9 X.prog X.w X.K X.mg X.base C ps j sp)(hr:Eg k X.A)(hg:Gl X x)(hm:X.mg x=some (.ref C))(ha:PA X (e::es) t)(hk:j+1<=k:=by decide)(hdb:(x==("__debug__":Str))=false:=by decide)
 (he:starEach (e::es) X.env=(false,eval e X.env)::starEach es X.env:=by rfl) (hpl:(backTo pos (starEach es X.env)).any (·.1)=false:=by rfl):PE X (.Call (.Name x p) (e::es) [] pos) (KH C sp [] E0 t):=by
 obtain⟨f,fd,h1,h2,h3⟩:=h.ex;exact IX h1 h3 (hr.mono hk) hg hm h2 .nil Z5 ha hdb he hpl
theorem Bl(he:PE X e ta)(hK:X.K=K:=by rfl)(hb:attributeBase e f X.env (eval e X.env)=eval e X.env:=by rfl):PE X (.Attribute e f pos) (tFld K ta f):=by subst hK;exact MA he hb
theorem Dh(ha:PE X o ta)(hv:PE X value tv)(hK:X.K=K:=by rfl)(hs:swapsWith value (some (.Attribute o f pos')) pos.line X.env=pure false:=by rfl):PS X (.Assign [.Attribute o f pos'] value pos) (OO K ta tv f):=by subst hK;exact lY ha hv hs
end
noncomputable abbrev TJ:=St->Hp->(Hp->Prop)->Prop
section
variable{X:Cx}{e v₁ v₂:Expr}{es rest:List Expr}{te:TE}{tj:TJ}{pos:Pos}
end
end L2
namespace Hb
open PySem L2
inductive Tn where
 | mi (i:Nat) | sw (i j:Nat) | ad (i j:Nat) (n:Int)
noncomputable def HY:Tn->L2.D
 | .mi i=>.tup [.str "minus",.int i]
 | .sw i j=>.tup [.str "swap",.int i,.int j]
 | .ad i j n=>.tup [.str "add",.int i,.int j,.int n]
noncomputable def IE:Tn->(Nat->Nat->Int)->Nat->Nat->Int
 | .mi i,f=>fun r c=>if r=i then -(f i c) else f r c
 | .sw i j,f=>fun r c=>if r=j then f i c else if r=i then f j c else f r c
 | .ad i j n,f=>fun r c=>if r=i then 1*f i c+n*f j c else f r c
noncomputable def zH:Tn->Tn
 | .ad i j n=>.ad i j (-n)
 | t=>t
noncomputable def QS:Tn->Tn
 | .ad i j n=>.ad j i (-n)
 | t=>t
noncomputable def tB(B:Nat):Tn->Prop
 | .ad _ _ n=>n.natAbs<2 ^ B
 | _=>True
theorem J6{f:Str}{v:V}:∀{fs:List (Str × V)}{x:V},fs.lookup f=some x->(putF f v fs).length=fs.length
 | [],x,h=>by cases h
 | (g,y)::r,x,h=>by
   unfold putF;by_cases e:g=f
   . rw[if_pos e];rfl
   . rw[if_neg e,qc6,qc6];rw[qm2]at h;have e2:(f==g)=false:=by simpa using fun z=>e z.symm
     rw[e2]at h;rw[J6 h]
theorem Xn{f:Str}{v:V}{fs:List (Str × V)}{n:Nat}(h:fs.length<=n):(putF f v fs).length<=n+1:=qa1 (Ci f v fs) O9m
noncomputable def O7(H:Hp)(Z:Addr->Prop):Hp:=fun a=>@ite _ (Z a) (Classical.propDecidable _) none (H a)
section
variable{K:W.Frag}{H H' H1:Hp}{Z:Addr->Prop}
theorem O6{a:Addr}(h:¬Z a):O7 H Z a=H a:=by unfold O7;rw[if_neg h]
theorem Ub{a:Addr}(h:Z a):O7 H Z a=none:=by unfold O7;rw[if_pos h]
theorem J8:Aj (O7 H Z) H:=fun a o e=>by
 by_cases h:Z a
 . rw[Ub h]at e;cases e
 . rw[O6 h]at e;exact e
theorem Wj(h:∀a o,¬Z a->H a=some o->H' a=some o):Aj (O7 H Z) (O7 H' Z):=fun a o e=>by
 by_cases hz:Z a
 . rw[Ub hz]at e;cases e
 . rw[O6 hz]at e ⊢;exact h a o hz e
theorem FH(s:Aj H H'):Aj (O7 H Z) (O7 H' Z):=Wj fun a o _ e=>s a o e
theorem GX{a:Addr}{us:List V}{h w:Nat}{f:Nat->Nat->Int}(hq:SqL K H a us)(hl:us.length=h)(hr:∀i,i<h->∃b,us[i]?=some (.ref b)/\SqL K H b (VI w (f i))):Rep K H (.ref a) (dT h w f):=by
 refine⟨a,us,rfl,hq,?_⟩;subst hl
 have go:∀(vs:List V) (n:Nat),(∀j,j<vs.length->∃b,vs[j]?=some (.ref b)/\SqL K H b (VI w (f (n+j))))->Reps K H vs ((List.range' n vs.length).map fun i=>dL w (f i)):=by
  intro vs
  induction vs with
  | nil=>intro n _;rfl
  | cons v vs ih =>
    intro n hv;obtain⟨b,e,hb⟩:=hv 0 (by simp);have ev:v=.ref b:=by simpa using e
    subst ev;refine⟨.ref b,vs,rfl,bW (by simpa using hb),?_⟩;refine ih (n+1) fun j hj=>?_;obtain⟨b',e',hb'⟩:=hv (j+1) (by simpa using hj);refine⟨b',by simpa using e',?_⟩;rw[show n+1+j=n+(j+1) by omega];exact hb'
 have:=go us 0 fun j hj=>by rw[Nat.zero_add];exact hr j hj
 rw[List.range_eq_range'];exact this
theorem Rows.hid{D:Addr}{as:List Addr}{h w:Nat}{f:Nat->Nat->Int}(R:Rows H H1 D as w f)(hl:as.length=h)(hz:∀a,Z a->H a≠none):Rep K (O7 H1 Z) (.ref D) (dT h w f):=by
 have nz:∀a,H a=none->¬Z a:=fun a e z=>hz a z e;refine GX (us:=as.map V.ref) (.of ?_) (by rw[qa2];exact hl) fun i hi=>?_
 . rw[O6 (nz D R.free)];exact R.at
 . have hi':i<as.length:=O9m
   obtain⟨h1,_,h3⟩:=R.row i as[i] (qb0 hi');refine⟨as[i],by rw[qb7,qb0 hi'];rfl,.of ?_⟩;rw[O6 (nz _ h1)];exact h3
end
section
variable(K:W.Frag)
noncomputable def V0:Sp:=cN K
noncomputable def V2:Sp:=fun vs H Q _=>∃(u:V) (t:Tn),vs=[u]/\Rep K H u (HY t)/\∀(v:V) (H':Hp),Aj H H'->Rep K H' v (HY (QS t))->Q v H'
variable(CL CT:Addr)
end
section
variable{K:W.Frag}{CL CT:Addr}{H H':Hp}{Z:Addr->Prop}{p L R dn:Addr}{h w B:Nat}{f:Nat->Nat->Int}{ds:List (Bool × Tn)}
noncomputable def Kp(H H':Hp):Prop:=∀a,H a≠none->H' a≠none
theorem Kp.trans{H H1 H2:Hp}(x:Kp H H1)(y:Kp H1 H2):Kp H H2:=fun a e=>y a (x a e)
theorem Kp.of{H H1:Hp}(s:Aj H H1):Kp H H1:=fun a e z=>e (s.free z)
theorem Kp.upd{H:Hp}{p:Addr}{o:HO}:Kp H (upd H p o):=fun a e z=>by
 by_cases hap:a=p
 . rw[hap,Ae]at z;cases z
 . rw[Bb hap]at z;exact e z
theorem Kp.x{H H1:Hp}{p:Addr}{o:HO}(s:SameX p H H1)(hp:H1 p=some o):Kp H H1:=fun a e z=>by
 by_cases hap:a=p
 . rw[hap,hp]at z;cases z
 . cases q:H a with
   | none=>exact e q
   | some o'=>rw[s a o' hap q]at z;cases z
end
section
variable(K:W.Frag)
end
section
variable{K:W.Frag}{CL CT:Addr}{H H':Hp}{Z:Addr->Prop}{p L R dn:Addr}{h w B:Nat}{f:Nat->Nat->Int}{ds:List (Bool × Tn)}
end
end Hb
namespace L2
open PySem PySem.Spec PyProof.Rows PySem.W
section
variable{X:Cx}
noncomputable def Px(_i j:Int):Prop:=j≠0/\j.natAbs.log2<9000
theorem Px.of{i j:Int}(h0:j≠0)(h:j.natAbs<2 ^ 9000):Px i j:=⟨h0,(qq5 O9m).mpr h⟩
theorem Gv:Pr X (binaryOp .FloorDiv) (rI Px fun i j=>.int (i.fdiv j)):=OX fun _ _ _ _ _ _ _ hc q=>floordiv_int hc.1 q (.inl (PyProof.noPylong_of_log2 hc.2))
noncomputable def insAt(k:Nat)(y:α)(xs:List α):List α:=xs.take k++y::xs.drop k
noncomputable def IP:V->List V->Hp->VK->Prop:=fun x vs H Q=>∃(l:Addr) (xs:List V) (k:Nat) (y:V),x=.ref l/\vs=[.int k,y]/\H l=some (.lst xs)/\k<=xs.length/\xs.length<sizeLine/\Q .non (upd H l (.lst (insAt k y xs)))
theorem Qk:UL X "list.insert" IP:=by
 intro Ab s σ H x vs v us Q I rx rv h;obtain⟨l,xs,k,y,rfl,rfl,hH,hk,hz,q⟩:=h;cases rx;obtain⟨u1,u2,rfl,r1,r2⟩:=Vv rv;obtain⟨t,rfl⟩:=r1;obtain⟨z,its,n,r,hl,e⟩:=I.lstM hH
 have hsl:((k:Nat):Int)<2 ^ 63:=by
  have h1:k<=sizeLine:=O9m
  have h2:sizeLine<=2 ^ 62:=by decide +kernel
  have h3:=qa1 h1 h2;omega
 have hfit:¬(!Builtin.List.listFitsIndex (k:Int))=true:=by
  rw[fitsIndex_both (by omega) hsl];exact qb6
 have hsz:its.toArray.size<=sizeLine:=by rw[qb3];omega
 obtain⟨ki,hki⟩:∃ki:Int,ki=(k:Int):=⟨_,rfl⟩
 rw[←hki]at hfit ⊢;have hm:=AutoSeq1.list_insert_list_int_val_1 l its.toArray n ki t u2 hfit hsz;refine call_meets F.slot_list_insert ⟨_,e,rfl⟩ F.entry_list_insert (F.args_list_insert_3 _ _ _) hm ⟨e,?_⟩;refine⟨.non,_,I.lset (its':=insAt k u2 its) hH e ?_ ?_ ?_,rfl,q⟩
 . have xT:k<=its.length:=O9m
   have hkn:ki.toNat=k:=O9m
   simp only[qb3,hkn];rw[if_neg (by omega),Nat.min_eq_left xT];apply Array.ext';simp only[insAt,Array.toList_append,Array.toList_push,Array.toList_extract,List.extract_eq_drop_take,List.drop_zero,qr8];rw[qo1,ql4 (i:=its.length-k) (by rw[qh7];omega)];rfl
 . exact(r.take k).append (.cons r2 (r.drop k))
 . unfold insAt;rw[qe5,qc6,qe3,qh7];omega
structure QN(K:Frag)(D:Addr)(m:Str)(f:Addr):Prop where
 rd:readsIn K D (.type "type")=true
 fc:findCls K (.ref D) (.type "type") m=some (.val (.ref f))
 ga:specialIn K (.ref D) "__getattribute__"=some (some (.builtin "type.__getattribute__"))
 kp:W.keepIn K (.ref f)=true
structure NJ(P:Program)(w:World)(K:Frag)(mg:Str->Option Value)(base:Heap)(C:Addr)(m:Str)(ps:List Str)(k:Nat)(sp:Sp):Prop where
 ex:∃(f:Addr) (fd:FuncData),QN K C m f/\Gb K fd ps []/\Cj P w K mg base Fw k f fd ps sp
theorem iY{j k:Nat}{C:Addr}{ps:List Str}{sp:Sp}{x m:Str}{np apos pos:Pos}{e:Expr}{es:List Expr}{t:TA}{pl:Sem Bool}(h:NJ X.prog X.w X.K X.mg X.base C m ps j sp)(hr:Eg k X.A)(hg:Gl X x)(hm:X.mg x=some (.ref C))(ha:PA X (e::es) t)(hk:j<=k:=by decide)
 (hdb:(x==("__debug__":Str))=false:=by decide) (hst:starEach (e::es) X.env=(false,eval e X.env)::starEach es X.env:=by rfl) (hpl:(backTo pos (starEach es X.env)).any (·.1)=false:=by rfl)
 (ht:eval (.Call (.Attribute (.Name x np) m apos) (e::es) [] pos) X.env=(do
   let ov ←eval (.Name x np) X.env
   standAt apos.atName
   let (f,first) ←holding [ov] (getMethod ov m pl)
   callWith pos f first (backTo pos (starEach (e::es) X.env)) (backToKw pos (keywordEach [] X.env))):=by rfl) :
 PE X (.Call (.Attribute (.Name x np) m apos) (e::es) [] pos) (tCall sp [] E0 t):=by
 obtain⟨f,fd,B,hb,F⟩:=h.ex;intro Ab s σ H Q I h;refine ql8 (pl:=pl) (Hn I hg hm ?_ hdb) ht;refine method_cls I.kIn B.ga (cls_value I.kIn B.rd B.fc rfl ?_);refine qh9 (h₀:=X.base) I.ok.mod.kin B.kp (Ed (ha pos Ab _ σ H _ (I.tok _) h) fun us s1 ⟨vs,H1,I1,r,q⟩=>⟨I1.kIn,?_⟩) hst hpl;exact Xk F (hr.mono hk) hb .nil Z5 I1 r q
end
end L2
namespace L2
open PySem PySem.Spec PyProof.Rows
section
variable{prog:Program}{w:World}{A:Around}{E:Value->Shared->Prop}{s:Shared}
theorem Ld{j t:Addr}{n:Nat}{vs:Array Value}{x:Value}{Q:Value->Shared->Prop}(g:s.heap.IsTupleIter j t n)(gt:s.heap.IsTuple t vs)(gx:vs[n]?=some x)
 (k:∀h',h'.IsTupleIter j t (n+1)->Heap.SameBut j s.heap h'->Q x { s with heap:=h' }):wpAny (model prog w) A (Builtin.SmallTypes.nextOf (.ref j)) Q E s:=by
 obtain⟨o,q1,q2,q3⟩:=id g;obtain⟨p,p1,_,m,p2⟩:=gt;unfold Builtin.SmallTypes.nextOf;refine qa5 (wpAny_callSpecial?_slot (name:=Str.ofString "__next__") g.typeIs qk7 (qq1 qk7 g.typeIs F.entry_tuple_iterator_next ?_ (F.args_tuple_iterator_next_1 _)));show wpAny _ _ (field (.ref j) 0>>=_) _ _ s;refine qa5 (qi3 q1 q3 (x:=.ref t) rfl ?_);show wpAny _ _ (if (Value.ref t==Value.none)=true then _ else _) _ _ s;rw[if_neg (show ¬((Value.ref t==Value.none)=true) from qb6)];show wpAny _ _ (field (.ref j) 1>>=_) _ _ s;refine qa5 (qi3 q1 q3 (x:=.int n 0) rfl ?_);show wpAny _ _ (seqItems? (.ref t)>>=_) _ _ s;refine qa5 (qk8 p1 p2 ?_);simp only[qe4,gx];refine qa5 (wpAny_setField q1 q3 (by simp) (qd3 ⟨x,rfl,qd3 (k _ ?_ (Heap.SameBut.update ..))⟩));exact⟨_,qr3 _ q1 (Obj.isFreed_of_fields (Obj.data_mapFields q3 _)),(Obj.cls_mapFields ..).trans q2,by rw[Obj.data_mapFields q3];simp[rawInt]⟩
theorem Ty{j t:Addr}{n:Nat}{vs:Array Value}{Q:Value->Shared->Prop}(hn:A.handled=none)(g:s.heap.IsTupleIter j t n)(gt:s.heap.IsTuple t vs)(gx:vs[n]?=none)
 (k:∀h' e,Heap.ExtBut j s.heap h'->(∃o,h'.get? e=some o/\o.cls=.type "StopIteration")->E (.ref e) { s with heap:=h' }):wpAny (model prog w) A (Builtin.SmallTypes.nextOf (.ref j)) Q E s:=by
 obtain⟨o,q1,q2,q3⟩:=id g;obtain⟨p,p1,_,m,p2⟩:=gt;unfold Builtin.SmallTypes.nextOf;refine qa5 (wpAny_callSpecial?_slot (name:=Str.ofString "__next__") g.typeIs qk7 (qq1 qk7 g.typeIs F.entry_tuple_iterator_next ?_ (F.args_tuple_iterator_next_1 _)));show wpAny _ _ (field (.ref j) 0>>=_) _ _ s;refine qa5 (qi3 q1 q3 (x:=.ref t) rfl ?_);show wpAny _ _ (if (Value.ref t==Value.none)=true then _ else _) _ _ s;rw[if_neg (show ¬((Value.ref t==Value.none)=true) from qb6)];show wpAny _ _ (field (.ref j) 1>>=_) _ _ s;refine qa5 (qi3 q1 q3 (x:=.int n 0) rfl ?_);show wpAny _ _ (seqItems? (.ref t)>>=_) _ _ s;refine qa5 (qk8 p1 p2 ?_);simp only[qe4,gx];refine qa5 (wpAny_rule (qa5 (wpAny_setField q1 q3 (by simp) ?_)));show wpAny _ _ (newExc (.type "StopIteration") []>>=_) _ _ _;refine qa5 ?_;simp only[newExc,newTuple];refine qa5 (wpAny_newObj_type ?_ (by size_fits));refine qa5 (m:=firstArgMember _ _) (wpAny_of_eq (a:=Value.none) (by first | rfl | (simp only[firstArgMember];rfl)) ?_);refine wpAny_newObj_type ?_ (by size_fits);simp only[raiseNew];refine qa5 (wpAny_handled ?_)
 first | rw[show A.in1.handled=none from hn] | rw[hn]
 refine qa5 (qd3 (wpAny_throw ?_));exact k _ _ (((Heap.SameBut.update ..).extBut.push _).push _) ⟨_,qb5 _ rfl,rfl⟩
theorem CC{z a b i1 i2 t1 t2:Addr}{n m:Nat}{xs ys:Array Value}{x y u v:Value}{Q:Value->Shared->Prop}(D:ZipApart z a b i1 i2 t1 t2)(gz:IsZip s.heap z a b .none)(ga:IsPair s.heap a (.ref i1) (.ref i2))(gb:IsPair s.heap b u v)
 (g1:s.heap.IsTupleIter i1 t1 n) (g2:s.heap.IsTupleIter i2 t2 m) (e1:s.heap.IsTuple t1 xs) (e2:s.heap.IsTuple t2 ys) (gx:xs[n]?=some x) (gy:ys[m]?=some y)
 (k:∀h',IsZip h' z a b (rawInt s.heap.objs.size)->IsPair h' b x y->h'.IsTupleIter i1 t1 (n+1)->h'.IsTupleIter i2 t2 (m+1)->IsPair h' s.heap.objs.size x y->h'.objs.size=s.heap.objs.size+1 →
   (∀c o,c≠z->c≠b->c≠i1->c≠i2->s.heap.get? c=some o->h'.get? c=some o)->Q (.ref s.heap.objs.size) { s with heap:=h' }) :
 wpAny (model prog w) A (Builtin.«zip.__next__» ⟨[.ref z],[]⟩) (fun fin s'=>∃r,fin=.done (.ret r)/\Q r s') E s:=by
 show wpAny _ _ (field (.ref z) 2>>=_) _ _ _;refine qa5 (qi3 gz rfl (x:=.bool false) rfl ?_);show wpAny _ _ (field (.ref z) 3>>=_) _ _ _;refine qa5 (qi3 gz rfl (x:=.ref a) rfl ?_);refine qa5 (qk8 ga rfl ?_);show wpAny _ _ (Builtin.SmallTypes.ownedTupleIsFree (.ref z)>>=_) _ _ _;refine qa5 ?_;unfold Builtin.SmallTypes.ownedTupleIsFree;refine qa5 (qi3 gz rfl (x:=.none) rfl (qd3 ?_));simp only[if_true];refine qa5 (wpAny_rule ?_);refine qa5 (qi3 gz rfl (x:=.ref b) rfl ?_);refine qa5 (ql7 gz (by simp) fun k1 MW w1=>?_)
 replace MW:IsZip k1 z a b .ellipsis:=MW
 refine qa5 ?_;simp only[List.zipIdx_cons,List.zipIdx_nil,List.forIn_cons,List.forIn_nil];refine qa5 (qa5 (wpAny_onRaise ?_));show wpAny _ _ (Builtin.SmallTypes.nextOf (.ref i1)>>=_) _ _ _;refine qa5 (Ld (g1.extBut w1.extBut D.i1z) (e1.extBut w1.extBut D.l1z) gx fun k2 f1 w2=>qd3 ?_);have vX:IsPair k2 b u v:=w2.extBut _ _ D.TOi1 (w1.extBut _ _ D.TOz gb);refine qa5 (qk8 vX rfl ?_);refine qa5 (wpAny_updateSeq_pair vX fun k3 TY w3=>?_)
 replace TY:IsPair k3 b x v:=TY
 refine qa5 (wpAny_letGo (qd3 ?_));refine qa5 (qa5 (wpAny_onRaise ?_));show wpAny _ _ (Builtin.SmallTypes.nextOf (.ref i2)>>=_) _ _ _;refine qa5 (Ld (((g2.extBut w1.extBut D.i2z).extBut w2.extBut D.i12.symm).extBut w3.extBut D.TOi2.symm) (((e2.extBut w1.extBut D.l2z).extBut w2.extBut D.l2i1).extBut w3.extBut D.l2TO) gy fun k4 f2 w4=>qd3 ?_);have VW:IsPair k4 b x v:=w4.extBut _ _ D.TOi2 TY;refine qa5 (qk8 VW rfl ?_);refine qa5 (wpAny_updateSeq_pair VW fun k5 RK w5=>?_)
 replace RK:IsPair k5 b x y:=RK
 refine qa5 (wpAny_letGo (qd3 (qd3 ?_)));refine qa5 (qk8 RK rfl ?_);refine qa5 (wpAny_newTuple ?_);have sz:k5.objs.size=s.heap.objs.size:=by rw[w5.1,w4.1,w3.1,w2.1,w1.1]
 have VV:IsZip k5 z a b .ellipsis:=w5.extBut _ _ D.TOz.symm (w4.extBut _ _ D.i2z.symm (w3.extBut _ _ D.TOz.symm (w2.extBut _ _ D.i1z.symm MW)));have kp:∀c o,c≠z->c≠b->c≠i1->c≠i2->s.heap.get? c=some o->k5.get? c=some o:=fun c o c1 c2 c3 c4 e=>w5.extBut _ _ c2 (w4.extBut _ _ c4 (w3.extBut _ _ c2 (w2.extBut _ _ c3 (w1.extBut _ _ c1 e))));have yP:k5.IsTupleIter i1 t1 (n+1):=((f1.extBut w3.extBut D.TOi1.symm).extBut w4.extBut D.i12).extBut w5.extBut D.TOi1.symm;have yO:k5.IsTupleIter i2 t2 (m+1):=f2.extBut w5.extBut D.TOi2.symm;have lz:z<k5.objs.size:=qa7 VV;show wpAny _ _ (Builtin.SmallTypes.ownedTupleHandOut (.ref z) (.ref k5.objs.size)>>=_) _ _ _;refine qa5 ?_;unfold Builtin.SmallTypes.ownedTupleHandOut;have yL:IsZip (k5.push { cls:=.type "tuple",data:=.seq #[x,y] }) z a b .ellipsis:=qa3 _ VV;refine qa5 (ql7 yL (by simp) fun k7 tY w7=>?_)
 replace tY:IsZip k7 z a b (rawInt k5.objs.size):=tY
 refine ql7 tY (by simp) fun k8 rK w8=>?_
 replace rK:IsZip k8 z a b (rawInt k5.objs.size):=rK
 have up:∀c o,c≠z->k5.get? c=some o->k8.get? c=some o:=fun c o c1 e=>w8.extBut _ _ c1 (w7.extBut _ _ c1 (qa3 _ e));have gt:IsPair k8 k5.objs.size x y:=w8.extBut _ _ (qm9 lz) (w7.extBut _ _ (qm9 lz) (qb5 _ rfl));have s8:k8.objs.size=k5.objs.size+1:=by rw[w8.1,w7.1,qh6]
 rw[sz]at rK gt s8;refine qd3 ⟨_,rfl,?_⟩;show Q (.ref k5.objs.size) _;rw[sz];exact k k8 rK (up _ _ D.TOz RK) (yP.at fun o e=>up _ o D.i1z e) (yO.at fun o e=>up _ o D.i2z e) gt s8 fun c o c1 c2 c3 c4 e=>up c o c1 (kp c o c1 c2 c3 c4 e)
theorem eX{z a b i1 i2 t1 t2:Addr}{n m:Nat}{xs ys:Array Value}{u v:Value}{Q:PySem.Fin->Shared->Prop}(hn:A.handled=none)(D:ZipApart z a b i1 i2 t1 t2)(gz:IsZip s.heap z a b .none)(ga:IsPair s.heap a (.ref i1) (.ref i2))(gb:IsPair s.heap b u v)
 (g1:s.heap.IsTupleIter i1 t1 n) (g2:s.heap.IsTupleIter i2 t2 m) (e1:s.heap.IsTuple t1 xs) (e2:s.heap.IsTuple t2 ys) (gx:xs[n]?=none)
 (k:∀h' e,(∀c o,c≠z->c≠b->c≠i1->c≠i2->s.heap.get? c=some o->h'.get? c=some o)->(∃o,h'.get? e=some o/\o.cls=.type "StopIteration")->E (.ref e) { s with heap:=h' }) :
 wpAny (model prog w) A (Builtin.«zip.__next__» ⟨[.ref z],[]⟩) Q E s:=by
 show wpAny _ _ (field (.ref z) 2>>=_) _ _ _;refine qa5 (qi3 gz rfl (x:=.bool false) rfl ?_);show wpAny _ _ (field (.ref z) 3>>=_) _ _ _;refine qa5 (qi3 gz rfl (x:=.ref a) rfl ?_);refine qa5 (qk8 ga rfl ?_);show wpAny _ _ (Builtin.SmallTypes.ownedTupleIsFree (.ref z)>>=_) _ _ _;refine qa5 ?_;unfold Builtin.SmallTypes.ownedTupleIsFree;refine qa5 (qi3 gz rfl (x:=.none) rfl (qd3 ?_));simp only[if_true];refine qa5 (wpAny_rule ?_);refine qa5 (qi3 gz rfl (x:=.ref b) rfl ?_);refine qa5 (ql7 gz (by simp) fun k1 MW w1=>?_)
 replace MW:IsZip k1 z a b .ellipsis:=MW
 refine qa5 ?_;simp only[List.zipIdx_cons,List.zipIdx_nil,List.forIn_cons,List.forIn_nil];refine qa5 (qa5 (wpAny_onRaise ?_));show wpAny _ _ (Builtin.SmallTypes.nextOf (.ref i1)>>=_) _ _ _;refine qa5 (Ty hn (g1.extBut w1.extBut D.i1z) (e1.extBut w1.extBut D.l1z) gx fun k2 e w2 he=>?_);obtain⟨oe,ge,ce⟩:=he;have vW:IsZip k2 z a b .ellipsis:=w2 _ _ D.i1z.symm MW;have ne:e≠z:=fun q=>by subst q;rw[vW]at ge;cases ge;simp at ce
 refine ql7 vW (by simp) fun k3 _ w3=>k k3 e (fun c o c1 _ c3 _ q=>w3.extBut _ _ c1 (w2 _ _ c3 (w1.extBut _ _ c1 q))) ⟨oe,w3.extBut _ _ ne ge,ce⟩
theorem Tx{z a b i1 i2 t1 t2:Addr}{n m:Nat}{xs ys:Array Value}{x y u v:Value}{Q:Option Value->Shared->Prop}(D:ZipApart z a b i1 i2 t1 t2)(gz:IsZip s.heap z a b .none)(ga:IsPair s.heap a (.ref i1) (.ref i2))(gb:IsPair s.heap b u v)
 (g1:s.heap.IsTupleIter i1 t1 n) (g2:s.heap.IsTupleIter i2 t2 m) (e1:s.heap.IsTuple t1 xs) (e2:s.heap.IsTuple t2 ys) (gx:xs[n]?=some x) (gy:ys[m]?=some y)
 (k:∀h',IsZip h' z a b (rawInt s.heap.objs.size)->IsPair h' b x y->h'.IsTupleIter i1 t1 (n+1)->h'.IsTupleIter i2 t2 (m+1)->IsPair h' s.heap.objs.size x y->h'.objs.size=s.heap.objs.size+1 →
   (∀c o,c≠z->c≠b->c≠i1->c≠i2->s.heap.get? c=some o->h'.get? c=some o)->Q (some (.ref s.heap.objs.size)) { s with heap:=h' }):wpAny (model prog w) A (pyNext (.ref z)) Q E s:=by
 have ht:s.TypeIs (.ref z) "zip":=⟨_,gz,rfl⟩
 unfold pyNext;exact qa5 (wpAny_attempt (wpAny_callSpecial?_slot (name:=Str.ofString "__next__") ht qr5 (qq1 qr5 ht F.entry_zip_next (CC D gz ga gb g1 g2 e1 e2 gx gy fun h' a1 a2 a3 a4 a5 a6 a7=>qd3 (k h' a1 a2 a3 a4 a5 a6 a7)) (F.args_zip_next_1 _))))
theorem U7{z a b i1 i2 t1 t2:Addr}{n m:Nat}{xs ys:Array Value}{u v:Value}{Q:Option Value->Shared->Prop}(hn:A.handled=none)(D:ZipApart z a b i1 i2 t1 t2)(gz:IsZip s.heap z a b .none)(ga:IsPair s.heap a (.ref i1) (.ref i2))(gb:IsPair s.heap b u v)
 (g1:s.heap.IsTupleIter i1 t1 n) (g2:s.heap.IsTupleIter i2 t2 m) (e1:s.heap.IsTuple t1 xs) (e2:s.heap.IsTuple t2 ys) (gx:xs[n]?=none)
 (k:∀h',(∀c o,c≠z->c≠b->c≠i1->c≠i2->s.heap.get? c=some o->h'.get? c=some o)->Q none { s with heap:=h' }):wpAny (model prog w) A (pyNext (.ref z)) Q E s:=by
 have ht:s.TypeIs (.ref z) "zip":=⟨_,gz,rfl⟩
 unfold pyNext;refine qa5 (wpAny_attempt (wpAny_callSpecial?_slot (name:=Str.ofString "__next__") ht qr5 (qq1 qr5 ht F.entry_zip_next (eX hn D gz ga gb g1 g2 e1 e2 gx fun h' e kp he=>?_) (F.args_zip_next_1 _))));obtain⟨o,q1,q2⟩:=he;exact qa5 (wpAny_isInstance (T:="StopIteration") (b:=true) ⟨o,q1,q2⟩ isSubtype_stop (qd3 (k _ kp)))
end
noncomputable abbrev zt1(h:Heap)(a:Addr):Heap:=h.push { cls:=.type "tuple_iterator",data:=.fields #[.ref a,.int 0 0] }
noncomputable abbrev qP(h:Heap)(a b:Addr):Heap:=(zt1 h a).push { cls:=.type "tuple_iterator",data:=.fields #[.ref b,.int 0 0] }
noncomputable abbrev QO(h:Heap)(a b:Addr):Heap:=(qP h a b).push { cls:=.type "tuple",data:=.seq #[.ref h.objs.size,.ref (zt1 h a).objs.size] }
noncomputable abbrev qO(h:Heap)(a b:Addr):Heap:=(QO h a b).push { cls:=.type "tuple",data:=.seq #[.none,.none] }
noncomputable abbrev LI(h:Heap)(a b:Addr):Heap:=(qO h a b).push { cls:=.type "zip",data:=.fields #[.none,.bool false,.bool false,.ref (qP h a b).objs.size,.ref (QO h a b).objs.size] }
theorem EW(a b:Addr)(xs ys:Array Value):Meets (Builtin.«zip.__new__» ⟨[.type "zip",.ref a,.ref b],[]⟩) (fun _ R s=>s.heap.IsTuple a xs/\s.heap.IsTuple b ys/\R (.ok (.ret (.ref (qO s.heap a b).objs.size))) { s with heap:=LI s.heap a b }) :=
 .of_wp fun prog w A R s h=>by
  obtain⟨hp,g,d,tk,os⟩:=s;obtain⟨h1,h2,h⟩:=h;have hsub:=sub_zip;have g1:Heap.IsTuple (Shared.heap ⟨hp,g,d,tk,os⟩) a xs:=h1;have g2:Heap.IsTuple (Shared.heap ⟨hp.push { cls:=.type "tuple_iterator",data:=.fields #[.ref a,.int 0 0] },g,d,tk,os⟩) b ys:=Heap.IsTuple.push h2 _
  wp_walk using wpAny_pyIter_tuple g1,wpAny_pyIter_tuple g2
  exact⟨_,rfl,h⟩
section
variable{prog:Program}{w:World}{A:Around}{E:Value->Shared->Prop}{s:Shared}
theorem eE{a b:Addr}{xs ys:Array Value}{Q:Value->Shared->Prop}(h1:s.heap.IsTuple a xs)(h2:s.heap.IsTuple b ys)
 (k:∀h',IsZip h' (s.heap.objs.size+4) (s.heap.objs.size+2) (s.heap.objs.size+3) .none->IsPair h' (s.heap.objs.size+2) (.ref s.heap.objs.size) (.ref (s.heap.objs.size+1)) →
   IsPair h' (s.heap.objs.size+3) .none .none->h'.IsTupleIter s.heap.objs.size a 0->h'.IsTupleIter (s.heap.objs.size+1) b 0->h'.objs.size=s.heap.objs.size+5 →
   (∀c o,s.heap.get? c=some o->h'.get? c=some o)->Q (.ref (s.heap.objs.size+4)) { s with heap:=h' }):wpAny (model prog w) A (call (.type "zip") [.ref a,.ref b]) Q E s:=by
 refine callType_new F.called_zip (by decide) (F.typeCall_zip_2 _ _) (F.newCall_zip_2 _ _) (fun obj=>F.args_object_init_3 obj _ _) F.entry_zip_new (EW a b xs ys) ⟨h1,h2,?_⟩;have z1:(zt1 s.heap a).objs.size=s.heap.objs.size+1:=qh6 ..;have z2:(qP s.heap a b).objs.size=s.heap.objs.size+2:=by rw[qh6,z1]
 have z3:(QO s.heap a b).objs.size=s.heap.objs.size+3:=by rw[qh6,z2]
 have z4:(qO s.heap a b).objs.size=s.heap.objs.size+4:=by rw[qh6,z3]
 have z5:(LI s.heap a b).objs.size=s.heap.objs.size+5:=by rw[qh6,z4]
 have q5:(LI s.heap a b).get? (qO s.heap a b).objs.size=some _:=qb5 _ rfl;have q4:(LI s.heap a b).get? (QO s.heap a b).objs.size=some _:=qa3 _ (qb5 _ rfl);have q3:(LI s.heap a b).get? (qP s.heap a b).objs.size=some _:=qa3 _ (qa3 _ (qb5 _ rfl));have q2:(LI s.heap a b).get? (zt1 s.heap a).objs.size=some _:=qa3 _ (qa3 _ (qa3 _ (qb5 _ rfl)));have q1:(LI s.heap a b).get? s.heap.objs.size=some _:=qa3 _ (qa3 _ (qa3 _ (qa3 _ (qb5 _ rfl))));show _/\_;rw[z2,z3,z4]at q5;rw[z1,z2]at q3;rw[z3]at q4;rw[z1]at q2;rw[z4];exact⟨⟨_,q5,rfl⟩,k _ q5 q3 q4 ⟨_,q1,rfl,rfl⟩ ⟨_,q2,rfl,rfl⟩ z5 fun c o x=>qa3 _ (qa3 _ (qa3 _ (qa3 _ (qa3 _ x))))⟩
end
noncomputable def Ityp(K:W.Frag)(a b:Addr):It :=
 ⟨fun i H=>∃xs ys x y,Fe K H a xs/\Fe K H b ys/\xs[i]?=some x/\ys[i]?=some y,
  fun i H v H'=>∃p x y,H p=none/\v=.ref p/\H'=upd H p (.tup [x,y])/\(∀xs,Fe K H a xs->xs[i]?=some x)/\∀ys,Fe K H b ys->ys[i]?=some y,
  fun i H=>∃xs ys,Fe K H a xs/\Fe K H b ys/\xs.length<=i⟩
theorem CF{P:Program}{w:World}{K:W.Frag}{es:List Expr}{x1:Nat}{tpos:Pos}(a b z TI TO i1 i2:Addr)(D:ZipApart z TI TO i1 i2 a b) :
 Vq P w K (.Tuple es x1 tpos) (Ityp K a b) [z,TI,TO,i1,i2] z (fun i h=>IsZip h z TI TO .none/\IsPair h TI (.ref i1) (.ref i2)/\(∃c d,IsPair h TO c d)/\h.IsTupleIter i1 a i/\h.IsTupleIter i2 b i) where
 mem:=by simp
 obj:=fun i h st c hc=>by
  obtain⟨hz,hTI,⟨u,v,hTO⟩,⟨o1,h1,c1,d1⟩,⟨o2,h2,c2,d2⟩⟩:=st;simp only[qb9,qg3,or_false]at hc;rcases hc with rfl | rfl | rfl | rfl | rfl
  . exact⟨_,hz,fun v q=>by cases (show Data.fields _=Data.cell v from q)⟩
  . exact⟨_,hTI,fun v q=>by cases (show Data.seq _ _=Data.cell v from q)⟩
  . exact⟨_,hTO,fun v q=>by cases (show Data.seq _ _=Data.cell v from q)⟩
  . exact⟨o1,h1,fun v q=>by rw[d1]at q;cases q⟩
  . exact⟨o2,h2,fun v q=>by rw[d2]at q;cases q⟩
 keep:=fun i h h' st k=>by
  obtain⟨hz,hTI,⟨u,v,hTO⟩,h1,h2⟩:=st;exact⟨k z (by simp) _ hz,k TI (by simp) _ hTI,⟨u,v,k TO (by simp) _ hTO⟩,h1.at fun o q=>k i1 (by simp) o q,h2.at fun o q=>k i2 (by simp) o q⟩
 item:=by
  intro X hP hw hK hc i Ab s σ H E I hf st hg;subst hP hw hK;obtain⟨hz,hTI,⟨u0,v0,hTO⟩,h1,h2⟩:=st;obtain⟨xs,ys,x,y,g9,DN,hx,hy⟩:=hg;obtain⟨ia,ra,pa,_⟩:=I.tuple g9;obtain⟨ib,rb,pb,_⟩:=I.tuple DN;obtain⟨u,hu,ru⟩:=ra.get hx;obtain⟨v,hv,rv⟩:=rb.get hy;have hfresh:H s.heap.objs.size=none:=I.hok.fresh (qa0 _);have pK:=qa7 hz;refine Tx D hz hTI hTO h1 h2 (show s.heap.IsTuple a ia.toArray from pa) (show s.heap.IsTuple b ib.toArray from pb) (x:=u) (y:=v) (by simpa using hu) (by simpa using hv) fun h' hz' MU KY h2' htup hsz hk=>?_;refine⟨_,rfl,wpAny_letOwnedTupleGo_zip hz' fun h3 sU Qo=>?_⟩
  replace Qo:Heap.SameBut z h' h3:=Qo
  have kk:∀c o,c ∉ [z,TI,TO,i1,i2]->s.heap.get? c=some o->h3.get? c=some o:=fun c o hc e=>by
   simp only[qb9,qg3,or_false,not_or]at hc;obtain⟨n1,n2,n3,n4,n5⟩:=hc;exact(Qo.2 c n1).trans (hk c o n1 n3 n4 n5 e)
  have pS:h3.get? s.heap.objs.size=some { cls:=.type "tuple",data:=.seq #[u,v] }:=(Qo.2 _ (qm9 pK)).trans htup;have hi1:h3.IsTupleIter i1 a (i+1):=KY.at fun o e=>(Qo.2 i1 D.i1z).trans e;have hi2:h3.IsTupleIter i2 b (i+1):=h2'.at fun o e=>(Qo.2 i2 D.i2z).trans e;have mV:IsPair h3 TI (.ref i1) (.ref i2):=(Qo.2 TI D.TIz).trans (hk _ _ D.TIz D.TITO D.TIi1 D.TIi2 hTI);have mU:IsPair h3 TO u v:=(Qo.2 TO D.TOz).trans MU;have dF:∀c o,H c=some o->c ∉ [z,TI,TO,i1,i2]:=fun c o e hm=>by rw[(hf c hm).1]at e;cases e
  have c0:∀c o,H c=some o->c≠s.heap.objs.size:=fun c o e=>Bj e hfresh;refine⟨.ref s.heap.objs.size,upd H s.heap.objs.size (.tup [x,y]),?_,rfl,⟨s.heap.objs.size,x,y,hfresh,rfl,rfl,fun zs q=>by rw[I.tuple_inj q g9];exact hx,fun zs q=>by rw[I.tuple_inj q DN];exact hy⟩,⟨sU,mV,⟨_,_,mU⟩,hi1,hi2⟩,fun c hc=>?_⟩
  . refine Bu.step (s:=s) (h':=h3) (t':=s.toks) (H':=upd H s.heap.objs.size (.tup [x,y])) I (g':=s.gens) (d':=s.drawn) (ch:=[z,TI,TO,i1,i2]) (fun c hc=>?_) (fun c o _ _ hc e _=>kk c o hc e) (fun c o _ _ hc e _=>⟨o.slots,kk c o hc e⟩) (fun c o hc e n=>?_) (fun c o hc e=>⟨o,kk c o hc e⟩)
     (fun c zs e=>by rw[Bb (c0 c _ e)];exact e) (fun c o w' e=>by rw[Bb (c0 c _ e)];exact e) (fun c ps e=>⟨#[],by rw[Bb (c0 c _ e),e];simp⟩) (fun m hm=>?_) (fun c w' e=>?_) I.bare
    . have f:=hf c hc;exact⟨f.2.2.2.1,f.2.1,f.2.2.2.2.1,f.2.2.2.2.2⟩
    . rw[Bb (qb8 (qa7 e))];exact n
    . obtain⟨o,es',ep,ho,r⟩:=hm;exact⟨o,es',ep,kk _ o (fun q=>(hf _ q).2.1 rfl) ho,r⟩
    . by_cases hcs:c=s.heap.objs.size
      . subst hcs;rw[Ae]at e;cases e;exact⟨(by show(2:Nat)<=sizeLine;decide),[u,v],.cons ru (.cons rv .nil),⟨_,pS,rfl,rfl,_,rfl⟩⟩
      . rw[Bb hcs]at e;refine(I.hok c w' e).stay (fun c' y' hc' q=>?_) (fun c' q=>by rw[Bb (c0 c' _ q)];exact q) fun c' zs q=>by rw[Bb (c0 c' _ q)];exact q
        rcases hc' with rfl | hc'
        . exact kk _ _ (dF _ _ e) q
        . exact kk _ _ (dF _ _ hc') q
  . have lb:c<s.heap.objs.size:=by
     simp only[qb9,qg3,or_false]at hc;obtain⟨o1,q1,_⟩:=h1;obtain⟨o2,q2,_⟩:=h2;rcases hc with rfl | rfl | rfl | rfl | rfl
     . exact pK
     . exact qa7 hTI
     . exact qa7 hTO
     . exact qa7 q1
     . exact qa7 q2
    rw[Bb (qb8 lb)];exact(hf c hc).1
 done:=by
  intro X hP hw hK hc i Ab s σ H E I hf st hg;subst hP hw hK;obtain⟨hz,hTI,⟨u0,v0,hTO⟩,h1,h2⟩:=st;obtain⟨xs,ys,g9,DN,hx⟩:=hg;obtain⟨ia,ra,pa,_⟩:=I.tuple g9;obtain⟨ib,rb,pb,_⟩:=I.tuple DN;have la:=ra.length;have lb:=rb.length;refine U7 (I.ok.hd hc) D hz hTI hTO h1 h2 (show s.heap.IsTuple a ia.toArray from pa) (show s.heap.IsTuple b ib.toArray from pb) ?_ fun h' hk=>⟨rfl,I.turnedN (t':=s.toks) (fp:=[z,TI,TO,i1,i2]) (fun c o hc e=>?_) hf⟩
  . simp;omega
  . simp only[qb9,qg3,or_false,not_or]at hc;obtain⟨n1,n2,n3,n4,n5⟩:=hc;exact hk c o n1 n3 n4 n5 e
 self:=fun _ _ _ _ _ st h=>qq0 st.1 h
noncomputable def PN(K:W.Frag)(ta:TA):TI:=fun σ H R=>ta σ H fun vs H1=>∃a b,vs=[.ref a,.ref b]/\(∃xs,Fe K H1 a xs)/\(∃ys,Fe K H1 b ys)/\R (Ityp K a b) H1
theorem AL:bootBuiltins "zip"=some (.type "zip"):=by decide +kernel
theorem iT{X:Cx}{K:W.Frag}{es:List Expr}{x1:Nat}{tpos:Pos}{a b:Expr}{ta:TA}{p pos:Pos}(hg:Gl X "zip")(hm:X.mg "zip"=none)(ha:PA X [a,b] ta)(hK:X.K=K:=by rfl)(hs:starEach [a,b] X.env=[(false,eval a X.env),(false,eval b X.env)]:=by rfl)(hs2:starEach [b] X.env=[(false,eval b X.env)]:=by rfl) :
 PI X (.Tuple es x1 tpos) (.Call (.Name "zip" p) [a,b] [] pos) (PN K ta):=by
 subst hK;intro Ab s σ H R I h;refine Call_ (Kv I hg hm AL (qf1 (Ed (ha pos Ab s σ H _ I h) fun us s1 ⟨vs,H1,I1,r1,q1⟩=>?_) (by rw[hs,hs2]) (by rw[hs2];rfl)));obtain⟨la,lb,e,⟨xs,g9⟩,⟨ys,DN⟩,q⟩:=q1;subst e;cases r1 with
 | cons ra rr =>
   cases rr with
   | cons rb rr =>
     cases rr;cases ra;cases rb;obtain⟨ia,_,pa,_⟩:=I1.tuple g9;obtain⟨ib,_,pb,_⟩:=I1.tuple DN;have a1:la<s1.heap.objs.size:=by obtain⟨_,e,_⟩:=pa;exact qa7 e
     have a2:lb<s1.heap.objs.size:=by obtain⟨_,e,_⟩:=pb;exact qa7 e
     refine eE (show s1.heap.IsTuple la ia.toArray from pa) (show s1.heap.IsTuple lb ib.toArray from pb) fun h' hz hTI hTO hi1 hi2 hsz hk=>?_;refine qq0 hz ⟨s1.heap.objs.size+4,[s1.heap.objs.size+4,s1.heap.objs.size+2,s1.heap.objs.size+3,s1.heap.objs.size,s1.heap.objs.size+1],_,_,H1,rfl,I1.kept (t':=s1.toks) hk,CF la lb _ _ _ _ _ (zipApart_new a1 a2),⟨hz,hTI,⟨_,_,hTO⟩,hi1,hi2⟩,fun c hc=>?_,q⟩
     have lc:s1.heap.objs.size<=c:=by
      simp only[qb9,qg3,or_false]at hc;rcases hc with rfl | rfl | rfl | rfl | rfl
      . exact qc4 _ _
      . exact qc4 _ _
      . exact qc4 _ _
      . exact qa0 _
      . exact qc4 _ _
     exact I1.fpOk lc (I1.hok.fresh lc)
section
variable{g:TG}{tc:TT}{te:TE}{D:Addr}{Q:Hp->Prop}{τ:St}{H:Hp}
theorem dZ{K:W.Frag}{a b:Addr}{xs ys:List V}{n:Nat}(hn:xs.length=n/\ys.length=n)(Pv:Nat->List V->St->Hp->Prop)(h0:Pv 0 [] τ H)(hl:∀i zs τ H,i<=n->Pv i zs τ H->Fe K H a xs/\Fe K H b ys)
 (hs:∀i x y zs τ H p,xs[i]?=some x->ys[i]?=some y->Pv i zs τ H->H p=none->g (.ref p) τ (upd H p (.tup [x,y])) fun τ2 H2=>tc τ2 H2 fun b H3=>if b=true then te τ2 H3 fun y H4=>H4 D=some (.lst zs)/\zs.length<sizeLine/\Pv (i+1) (zs++[y]) τ2 (upd H4 D (.lst (zs++[y]))) else Pv (i+1) zs τ2 H3)
 (hd:∀zs τ H,Pv n zs τ H->Q H):Pq (Ityp K a b) g tc te D Q τ H:=by
 refine⟨fun i m zs τ H=>m=n-i/\i<=n/\Pv i zs τ H,⟨n,by simp,qa8 _,h0⟩,?_⟩;rintro i m zs τ H ⟨rfl,hi,pp⟩;obtain⟨qa,qb⟩:=hl i zs τ H hi pp;by_cases hlt:i<n
 . refine .inr ⟨⟨xs,ys,xs[i],ys[i],qa,qb,by simp<;>omega,by simp<;>omega⟩,Pv (i+1),fun ys' τ' H' p'=>⟨n-(i+1),O9m,rfl,hlt,p'⟩,fun x H' y=>?_⟩;obtain⟨p,u,v,hp,rfl,rfl,y1,y2⟩:=y;exact hs i u v zs τ _ p (y1 xs qa) (y2 ys qb) pp hp
 . have e:i=n:=O9m
   subst e;exact .inl ⟨⟨xs,ys,qa,qb,O9m⟩,hd zs τ H pp⟩
end
noncomputable def QM(hi:Int)(n:Nat):It:=⟨fun i _=>i<n,fun i H x H'=>H'=H/\x=.int (hi-i),fun i _=>n<=i⟩
theorem Lv(a b:Int):Builtin.Range.rangeSize a b (-1)=if b<a then a-b else 0:=by
 unfold Builtin.Range.rangeSize;rw[if_neg (by decide)];split
 . show(a-b-1) / 1+1=a-b;rw[Int.ediv_one];omega
 . rfl
theorem u6{a b:Int}(ha:-(2 ^ 61)<=a)(ha':a<2 ^ 61)(hb:-(2 ^ 61)<=b)(hb':b<2 ^ 61):Builtin.Range.small a b (-1)=true:=by
 unfold Builtin.Range.small;rw[Lv];simp only[Builtin.Range.rangeFitsLong,qc5,Bool.or_eq_true,qr7,qn3];split<;>simp<;>omega
theorem cH{P:Program}{w:World}{K:W.Frag}{tg:Expr}(it:Addr)(hi:Int)(n:Nat):Vq P w K tg (QM hi n) [it] it (fun i h=>IsRangeIter h it (hi+(i:Nat)*(-1)) ((n:Int)-(i:Nat)) (-1)) where
 mem:=by simp
 obj:=fun i h st b hb=>by
  have e:b=it:=by simpa using hb
  subst e
  exact⟨_,st,fun v z=>by
   have z':Data.fields _=Data.cell v:=z;cases z'⟩
 keep:=fun i h h' st k=>k it (by simp) _ st
 item:=by
  intro X hP hw hK hc i Ab s σ H E I hf st hg;subst hP hw hK;obtain⟨f0,f1,f2,f3,f4,f5⟩:=hf it (by simp);have W:=Walks.range (prog:=X.prog) (w:=X.w) (I.ok.hd hc) it hi (-1) n;refine W.item i s _ _ hg st fun v h' tk hv st' kk=>?_;obtain⟨t,rfl⟩:=hv;have I1:Bu X Ab σ H { s with heap:=h',toks:=tk }:=I.turned (fun b o hb e=>kk b o (by simpa using hb) e) f0 f1 f3 f4 f5;refine⟨_,rfl,bQ (s:={ s with heap:=h',toks:=tk }) (n:="range_iterator") st' rfl rfl (by decide) ⟨.int (hi-i),H,I1,⟨t,?_⟩,⟨rfl,rfl⟩,st',fun b hb=>(hf b hb).1⟩⟩;rw[show hi+(i:Int)*(-1)=hi-i by omega]
 done:=by
  intro X hP hw hK hc i Ab s σ H E I hf st hg;subst hP hw hK;obtain⟨f0,f1,f2,f3,f4,f5⟩:=hf it (by simp);exact wpAny_pyNext_range_end (I.ok.hd hc) st (by have:n<=i:=hg;omega) fun h' eb=>⟨rfl,I.turned (t':=s.toks) (fun b o hb e=>eb b o hb e) f0 f1 f3 f4 f5⟩
 self:=fun _ _ _ _ _ st h=>wpAny_pyIter_rangeiter st h
noncomputable def PR(ta:TA):TI:=fun σ H R=>ta σ H fun vs H1=>∃(n:Nat),vs=[.int ((n:Int)-1),.int (-1),.int (-1)]/\n<=1000000/\R (QM ((n:Int)-1) n) H1
theorem iU{X:Cx}{tg:Expr}{a b c:Expr}{ta:TA}{p pos:Pos}(hg:Gl X "range")(hm:X.mg "range"=none)(ha:PA X [a,b,c] ta)(hs:starEach [a,b,c] X.env=[(false,eval a X.env),(false,eval b X.env),(false,eval c X.env)]:=by rfl)(hs2:starEach [b,c] X.env=[(false,eval b X.env),(false,eval c X.env)]:=by rfl) :
 PI X tg (.Call (.Name "range" p) [a,b,c] [] pos) (PR ta):=by
 intro Ab s σ H R I h;refine Call_ (Kv I hg hm boot_range (qf1 (Ed (ha pos Ab s σ H _ I h) fun us s1 ⟨vs,H1,I1,r1,q1⟩=>?_) (by rw[hs,hs2]) (by rw[hs2];rfl)));obtain⟨n,e,hn,q⟩:=q1;subst e;cases r1 with
 | cons r rr =>
   cases rr with
   | cons r' rr =>
     cases rr with
     | cons r'' rr =>
     cases rr;obtain⟨t,rfl⟩:=r;obtain⟨t',rfl⟩:=r';obtain⟨t'',rfl⟩:=r'';refine call_range_3 (by decide) ?_ (Or.inl (PyProof.noPylong_small O9m));refine wpAny_pyIter_range (IsRange.new ..) (u6 O9m O9m O9m O9m) ?_;have I2:Bu X Ab σ H1 { s1 with heap:=s1.heap.push { cls:=.type "range",data:=.fields #[.int ((n:Int)-1) t,.int (-1) t',.int (-1) t''] },toks:=s1.toks }:=I1.kept fun b o e=>qa3 _ e
     refine⟨(s1.heap.push { cls:=.type "range",data:=.fields #[.int ((n:Int)-1) t,.int (-1) t',.int (-1) t''] }).objs.size,[_],_,_,H1,rfl,
      I2.kept (t':=s1.toks) fun b o e=>qa3 _ e,cH _ ((n:Int)-1) n,?_,fun b hb=>?_,q⟩
     . have e1:((n:Int)-1)+((0:Nat):Int)*(-1)=(n:Int)-1:=by simp
       have e2:(n:Int)-((0:Nat):Int)=Builtin.Range.rangeSize ((n:Int)-1) (-1) (-1):=by rw[Lv];split<;>omega
       show IsRangeIter _ _ (((n:Int)-1)+((0:Nat):Int)*(-1)) ((n:Int)-((0:Nat):Int)) (-1);rw[e1,e2];exact qb5 _ rfl
     . have e:b=(s1.heap.push { cls:=.type "range",data:=.fields #[.int ((n:Int)-1) t,.int (-1) t',.int (-1) t''] }).objs.size:=by simpa using hb
       subst e;exact I2.fpOk (qa0 _) (I2.hok.fresh (qa0 _))
theorem GK{hi:Int}{n:Nat}{g:TG}{tb:TS}{D:Ends}{σ:St}{H:Hp}(Pv:Nat->St->Hp->Prop)(h0:Pv 0 σ H)
 (hs:∀i σ H,i<n->Pv i σ H->g (.int (hi-i)) σ H fun σ2 H2=>tb { D with nx:=Pv (i+1),ct:=Pv (i+1),bk:=D.nx } σ2 H2) (hd:∀σ H,Pv n σ H->D.nx σ H) :
 ∃W:Nat->Nat->St->Hp->Prop,(∃m,W 0 m σ H)/\∀i m σ H,W i m σ H →
   ((QM hi n).stop i H/\D.nx σ H)\/((QM hi n).go i H/\∃N:St->Hp->Prop,(∀σ' H',N σ' H'->∃m',m'<m/\W (i+1) m' σ' H')/\∀x H',(QM hi n).yld i H x H'->g x σ H' fun σ2 H2=>tb { D with nx:=N,ct:=N,bk:=D.nx } σ2 H2):=by
 refine⟨fun i m σ H=>m=n-i/\i<=n/\Pv i σ H,⟨n,by simp,qa8 _,h0⟩,?_⟩;rintro i m σ H ⟨hm,hi',hp⟩;by_cases hlt:i<n
 . refine .inr ⟨hlt,Pv (i+1),fun σ' H' h=>⟨n-(i+1),O9m,rfl,O9m,h⟩,?_⟩;rintro x H' ⟨rfl,rfl⟩;exact hs i σ _ hlt hp
 . refine .inl ⟨by show n<=i;omega,hd σ H (by have:i=n:=O9m
                                              subst this;exact hp)⟩
end L2
namespace Lat
open Hb
noncomputable abbrev Mat:=Nat->Nat->Int
theorem B6{f:Nat->Int}{n:Nat}(h:∀k,k<n->f k=0):Aq f n=0:=by rw[Az h,P0]
theorem Ch{f:Nat->Int}:∀{n j:Nat},j<n->(∀k,k<n->k≠j->f k=0)->Aq f n=f j
 | n+1,j,hj,h=>by
   show Aq f n+f n=f j;by_cases e:j=n
   . subst e;rw[B6 fun k hk=>h k (by omega) (by omega)];omega
   . rw[Ch (n:=n) (j:=j) (by omega) fun k hk=>h k (by omega),h n (by omega) (fun z=>e z.symm)];omega
noncomputable def In(w n:Nat)(R:Mat)(v:Nat->Int):Prop:=∃x:Nat->Int,∀c,c<w->v c=Aq (fun k=>x k*R k c) n
theorem In.row{w n:Nat}{R:Mat}{j:Nat}(hj:j<n):In w n R (R j):=⟨fun k=>if k=j then 1 else 0,fun c _=>by
 rw[Dv (fun k=>R k c) j n,if_pos hj]⟩
theorem In.zero(w n:Nat)(R:Mat):In w n R (fun _=>0):=⟨fun _=>0,fun c _=>by rw[B6];intro k _;simp⟩
theorem In.mix{w n:Nat}{R:Mat}{u v:Nat->Int}(hu:In w n R u)(hv:In w n R v)(a b:Int):In w n R (fun c=>a*u c+b*v c):=by
 obtain⟨x,hx⟩:=hu;obtain⟨y,hy⟩:=hv;refine⟨fun k=>a*x k+b*y k,fun c hc=>?_⟩;show a*u c+b*v c=_;rw[hx c hc,hy c hc,←B9,←B9,←Dn];refine Az fun k _=>?_;rw[Int.add_mul,qe9,qe9]
theorem In.congr{w n:Nat}{R:Mat}{u v:Nat->Int}(hu:In w n R u)(h:∀c,c<w->u c=v c):In w n R v:=by
 obtain⟨x,hx⟩:=hu;exact⟨x,fun c hc=>by rw[←h c hc];exact hx c hc⟩
structure Em(w r:Nat)(R:Mat)(t:Nat->Nat):Prop where
 lt:∀j,j<r->t j<w
 inc:∀j k,j<k->k<r->t j<t k
 zero:∀j c,j<r->c<t j->R j c=0
 pos:∀j,j<r->0<R j (t j)
 red:∀k j,k<j->j<r->0<=R k (t j)/\R k (t j)<R j (t j)
theorem Em.mono{w r:Nat}{R:Mat}{t:Nat->Nat}(h:Em w r R t):∀j k,j<=k->k<r->t j<=t k:=fun j k h1 h2=>by
 rcases qf5 j k with z | z
 . exact qc3 (h.inc j k z h2)
 . rw[show j=k by omega];exact qa0 _
theorem Em.ge{w r:Nat}{R:Mat}{t:Nat->Nat}(h:Em w r R t):∀j,j<r->j<=t j
 | 0,_=>qa8 _
 | j+1,hj=>by
   have:=h.ge j O9m;have:=h.inc j (j+1) O9m hj;omega
theorem Em.lead{w r:Nat}{R:Mat}{t:Nat->Nat}(h:Em w r R t){v x:Nat->Int}(hx:∀c,c<w->v c=Aq (fun k=>x k*R k c) r) :
 ∀j,j<=r->(∀k,k<j->v (t k)=0)->(∀k,k<j->x k=0)/\(j<r->v (t j)=x j*R j (t j)):=by
 intro j
 induction j with
 | zero =>
   intro _ _;refine⟨fun k hk=>O9m,fun hr=>?_⟩;rw[hx _ (h.lt 0 hr),Ch hr fun k hk hne=>?_];rw[h.zero k _ hk (h.inc 0 k (by omega) hk)];simp
 | succ j ih =>
   intro hj hv;obtain⟨h1,h2⟩:=ih O9m fun k hk=>hv k O9m
   have XI:x j=0:=by
    have e:=h2 O9m;rw[hv j (by omega)]at e;rcases qp6.mp e.symm with z | z
    . exact z
    . have:=h.pos j O9m;omega
   have hall:∀k,k<j+1->x k=0:=fun k hk=>by
    by_cases e:k=j
    . rw[e];exact XI
    . exact h1 k O9m
   refine⟨hall,fun hr=>?_⟩;rw[hx _ (h.lt _ hr),Ch hr fun k hk hne=>?_];by_cases e:k<j+1
   . rw[hall k e];simp
   . rw[h.zero k _ hk (h.inc (j+1) k (by omega) hk)];simp
theorem Em.only{w r:Nat}{R:Mat}{t:Nat->Nat}(h:Em w r R t){v:Nat->Int}(hv:In w r R v){j:Nat}(hj:j<r)(h0:∀k,k<j->v (t k)=0)(h1:v (t j)=R j (t j))(h2:∀k,j<k->k<r->v (t k)=0):∀c,c<w->v c=R j c:=by
 obtain⟨x,hx⟩:=hv;obtain⟨a1,a2⟩:=h.lead hx j O9m h0
 have xj:x j=1:=by
  have e:=a2 hj;rw[h1]at e;have p:=h.pos j hj;have:(x j-1)*R j (t j)=0:=by rw[Int.sub_mul];omega
  rcases qp6.mp this with z | z<;>omega
 have rest:∀m,m<=r->∀k,j<k->k<m->x k=0:=by
  intro m
  induction m with
  | zero=>intro _ k _ hk;omega
  | succ m ih =>
    intro hm k hjk hk;by_cases e:k<m
    . exact ih O9m k hjk e
    have ek:k=m:=O9m
    subst ek;have hv2:=h2 k hjk O9m
    have e2:v (t k)=R j (t k)+x k*R k (t k):=by
     rw[hx _ (h.lt k (by omega))]
     have:Aq (fun i=>x i*R i (t k)) r=Aq (fun i=>((if i=j then 1 else 0)*R i (t k))+((if i=k then 1 else 0)*(x k*R k (t k)))) r:=by
      refine Az fun i hi=>?_;by_cases e1:i=j
      . subst e1;rw[xj,if_pos rfl,if_neg (by omega)];simp
      . rw[if_neg e1];by_cases e3:i=k
        . subst e3;rw[if_pos rfl];simp
        . rw[if_neg e3];by_cases e4:i<j
          . rw[a1 i e4];simp
          . by_cases e5:i<k
            . rw[ih (by omega) i (by omega) e5];simp
            . rw[h.zero i _ hi (h.inc k i (by omega) hi)];simp
     rw[this,Dn,Dv (fun i=>R i (t k)) j r,if_pos hj,Dv (fun _=>x k*R k (t k)) k r,if_pos (by omega)]
    rw[hv2]at e2;obtain⟨r0,r1⟩:=h.red j k hjk O9m;have p:=h.pos k O9m;rcases Int.lt_trichotomy (x k) 0 with z | z | z
    . have:x k*R k (t k)<=-1*R k (t k):=qg8 O9m O9m;omega
    . exact z
    . have:1*R k (t k)<=x k*R k (t k):=qg8 O9m O9m;omega
 intro c hc;rw[hx c hc,Ch hj fun k hk hne=>?_,xj,qc0];by_cases e:k<j
 . rw[a1 k e];simp
 . rw[rest r (qa0 _) k (by omega) hk];simp
structure Dt(n w:Nat)(T T':Mat):Prop where
 fwd:∀i,i<n->In w n T (T' i)
 bwd:∀i,i<n->In w n T' (T i)
 st:∃r t,r<=n/\Em w r T' t/\∀i c,r<=i->i<n->c<w->T' i c=0
theorem In.sub{w n r:Nat}{R:Mat}{v:Nat->Int}(h:In w n R v)(hr:r<=n)(hz:∀i c,r<=i->i<n->c<w->R i c=0):In w r R v:=by
 obtain⟨x,hx⟩:=h;refine⟨x,fun c hc=>?_⟩;rw[hx c hc]
 have:∀m,r<=m->m<=n->Aq (fun k=>x k*R k c) m=Aq (fun k=>x k*R k c) r:=by
  intro m
  induction m with
  | zero=>intro h1 _;rw[show r=0 by omega]
  | succ m ih =>
    intro h1 h2;by_cases e:r=m+1
    . rw[e]
    . show Aq _ m+x m*R m c=_;rw[ih (by omega) (by omega),hz m c (by omega) (by omega) hc];simp
 exact this n hr (qa0 _)
noncomputable def Kf(n w k:Nat)(T:Mat):Prop:=k<=n/\k<=w/\(∀j,j<k->0<T j j)/\(∀j c,j<k->c<w->c≠j->T j c=0)/\(∀i j,i<n->j<k->i≠j->T i j=0)
theorem Kf.flip{n w k:Nat}{T:Mat}(h:Kf n w k T):Kf w n k (fun i j=>T j i):=⟨h.2.1,h.1,h.2.2.1,fun j c hj hc hne=>h.2.2.2.2 c j hc hj hne,fun i j hi hj hne=>h.2.2.2.1 j i hj hi hne⟩
noncomputable def cB(n w k:Nat)(T:Mat):Prop:=Kf n w k T/\k<n/\k<w/\0<T k k/\∀c,c<w->c≠k->T k c=0
theorem Dt.keep{n w:Nat}{T T':Mat}(s:Dt n w T T'):∀{k:Nat},Kf n w k T->Kf n w k T'/\(∀j c,j<k->c<w->T' j c=T j c)/\∀r t,r<=n->Em w r T' t->(∀i c,r<=i->i<n->c<w->T' i c=0)->k<=r/\∀j,j<k->t j=j:=by
 intro k
 induction k with
 | zero =>
   intro h;exact⟨⟨qa8 _,qa8 _,fun j hj=>O9m,fun j c hj=>O9m,fun i j _ hj=>O9m⟩,fun j c hj=>O9m,fun r t _ _ _=>⟨qa8 _,fun j hj=>O9m⟩⟩
 | succ k ih =>
   intro h;obtain⟨hn,hw,hp,hr,hc⟩:=h;obtain⟨c1,c2,c3⟩:=ih ⟨O9m,O9m,fun j hj=>hp j O9m,fun j c hj=>hr j c O9m,fun i j hi hj=>hc i j hi O9m⟩
   have key:∀r t,r<=n->Em w r T' t->(∀i c,r<=i->i<n->c<w->T' i c=0)->k<r/\t k=k/\(∀c,c<w->T' k c=T k c):=by
    intro r t AD hst hz;obtain⟨kr,ht⟩:=c3 r t AD hst hz;have hin:=(s.bwd k O9m).sub AD hz;obtain⟨x,hx⟩:=id hin;have v0:∀l,l<k->T k (t l)=0:=fun l hl=>by rw[ht l hl];exact hc k l O9m O9m O9m
    obtain⟨x0,_⟩:=hst.lead hx k kr v0;have hpk:=hp k O9m
    have hlt:k<r:=by
     refine qh1 fun z=>?_
     have:T k k=0:=by
      rw[hx k (by omega)];exact B6 fun l hl=>by rw[x0 l (by omega)];simp
     omega
    have htk:t k=k:=by
     have g:=hst.ge k hlt;refine qh2 (qf3 fun z=>?_) g
     have:T k k=0:=by
      rw[hx k (by omega)];refine B6 fun l hl=>?_;by_cases e:l<k
      . rw[x0 l e];simp
      . rw[hst.zero l k hl (qa6 z (hst.mono k l (by omega) hl))];simp
     omega
    obtain⟨_,a2⟩:=hst.lead hx k kr v0;have e1:=a2 hlt;rw[htk]at e1;have pk:=hst.pos k hlt;rw[htk]at pk;obtain⟨y,hy⟩:=s.fwd k O9m
    have e2:T' k k=y k*T k k:=by
     rw[hy k (by omega)];exact Ch O9m fun l hl hne=>by rw[hc l k hl (by omega) hne];simp
    have same:T k k=T' k k:=by
     have d1:T' k k∣T k k:=⟨x k,by rw[e1,qe7]⟩
     have d2:T k k∣T' k k:=⟨y k,by rw[e2,qe7]⟩
     exact Int.le_antisymm (qj4 pk d2) (qj4 hpk d1)
    refine⟨hlt,htk,fun c hcw=>?_⟩;exact(hst.only hin hlt v0 (by rw[htk];exact same) (fun l hl1 hl2=>hr k (t l) O9m (hst.lt l hl2) (by have:=hst.inc k l hl1 hl2;omega)) c hcw).symm
   obtain⟨r,t,AD,hst,hz⟩:=s.st;obtain⟨k1,k2,k3⟩:=key r t AD hst hz;refine⟨⟨hn,hw,fun j hj=>?_,fun j c hj hcw hne=>?_,fun i j hi hj hne=>?_⟩,fun j c hj hcw=>?_,fun r t AD hst hz=>?_⟩
   . by_cases e:j=k
     . subst e;rw[k3 j (by omega)];exact hp j O9m
     . exact c1.2.2.1 j O9m
   . by_cases e:j=k
     . subst e;rw[k3 c hcw];exact hr j c O9m hcw hne
     . exact c1.2.2.2.1 j c O9m hcw hne
   . by_cases e:j=k
     . subst e;by_cases e2:i<j
       . exact c1.2.2.2.1 i j e2 O9m O9m
       . by_cases e3:i<r
         . exact hst.zero i j e3 (by have:=hst.inc j i O9m e3;omega)
         . exact hz i j O9m hi O9m
     . exact c1.2.2.2.2 i j hi O9m hne
   . by_cases e:j=k
     . subst e;exact k3 c hcw
     . exact c2 j c O9m hcw
   . obtain⟨a,b,_⟩:=key r t AD hst hz;obtain⟨_,ht⟩:=c3 r t AD hst hz;refine⟨a,fun j hj=>?_⟩;by_cases e:j=k
     . rw[e];exact b
     . exact ht j O9m
noncomputable def Qz(n w:Nat)(T Kd:Mat):Prop:=∃T',Dt n w T T'/\Dt w n (fun i j=>T' j i) (fun i j=>Kd j i)
noncomputable def Straight(n w:Nat)(T:Mat):Prop:=∀i j,i<n->j<w->i≠j->T i j=0
theorem Qz.next{n w k:Nat}{T Kd:Mat}(s:Qz n w T Kd)(h:Kf n w k T):Kf n w k Kd/\(Straight n w Kd\/cB n w k Kd):=by
 obtain⟨T',s1,s2⟩:=s;obtain⟨h1,_,h3⟩:=s1.keep h;obtain⟨g1,_,g3⟩:=s2.keep h1.flip;have hc:Kf n w k Kd:=g1.flip;refine⟨hc,?_⟩;obtain⟨r,t,AD,hst,hz⟩:=s1.st;obtain⟨q,u,PU,Va,GG⟩:=s2.st;obtain⟨kr,ht⟩:=h3 r t AD hst hz;obtain⟨kq,hu⟩:=g3 q u PU Va GG;by_cases e:k<r
 . right;have p:=hst.pos k e;have tw:=hst.lt k e;have tk:k<=t k:=hst.ge k e;have hin:=(s2.bwd (t k) tw).sub PU GG;obtain⟨x,hx⟩:=id hin
   have v0:∀l,l<k->(fun j=>T' j (t k)) (u l)=0:=fun l hl=>by
    show T' (u l) (t k)=0;rw[hu l hl];exact h1.2.2.2.1 l (t k) hl tw O9m
   obtain⟨x0,_⟩:=Va.lead hx k kq v0;have hkn:k<n:=O9m
   have NO:k<q:=by
    refine qh1 fun z=>?_
    have:T' k (t k)=0:=by
     show(fun j=>T' j (t k)) k=0;rw[hx k hkn];exact B6 fun l hl=>by rw[x0 l (by omega)];simp
    omega
   have rF:u k=k:=by
    refine qh2 (qf3 fun z=>?_) (Va.ge k NO)
    have:T' k (t k)=0:=by
     show(fun j=>T' j (t k)) k=0;rw[hx k hkn];refine B6 fun l hl=>?_;by_cases e2:l<k
     . rw[x0 l e2];simp
     . show x l*Kd k l=0;rw[show Kd k l=0 from Va.zero l k hl (qa6 z (Va.mono k l (by omega) hl))];simp
    omega
   have p2:=Va.pos k NO;rw[rF]at p2;refine⟨hc,hkn,O9m,p2,fun c hcw hne=>?_⟩;rcases qf5 c k with z | z
   . exact hc.2.2.2.2 k c hkn z O9m
   . by_cases e3:c<q
     . exact Va.zero c k e3 (by have:=Va.inc k c O9m e3;omega)
     . exact GG c k O9m hcw hkn
 . left;have zB:∀i c,k<=i->i<n->c<w->T' i c=0:=fun i c hi hin hcw=>hz i c O9m hin hcw;intro i j hi hj hne;rcases qf5 i k with z | z
   . exact hc.2.2.2.1 i j z hj (fun w=>hne w.symm)
   . obtain⟨y,hy⟩:=s2.fwd j hj;have:Kd i j=Aq (fun l=>y l*T' i l) w:=hy i hi;rw[this];exact B6 fun l hl=>by rw[zB i l z hi hl];simp
theorem Qz.less{n w k:Nat}{T Kd:Mat}(s:Qz n w T Kd)(h:cB n w k T):Kf n w (k+1) Kd\/(cB n w k Kd/\Kd k k∣T k k/\Kd k k<T k k):=by
 obtain⟨hcl,hn,hw,hp,hr⟩:=h;have s0:=s;obtain⟨T',s1,s2⟩:=s;obtain⟨h1,_,h3⟩:=s1.keep hcl;obtain⟨r,t,AD,hst,hz⟩:=s1.st;obtain⟨kr,ht⟩:=h3 r t AD hst hz;have hin:=(s1.bwd k hn).sub AD hz;obtain⟨x,hx⟩:=id hin;have v0:∀l,l<k->T k (t l)=0:=fun l hl=>by rw[ht l hl];exact hr l O9m O9m
 obtain⟨x0,a2⟩:=hst.lead hx k kr v0
 have hlt:k<r:=by
  refine qh1 fun z=>?_
  have:T k k=0:=by
   rw[hx k hw];exact B6 fun l hl=>by rw[x0 l (by omega)];simp
  omega
 have htk:t k=k:=by
  refine qh2 (qf3 fun z=>?_) (hst.ge k hlt)
  have:T k k=0:=by
   rw[hx k hw];refine B6 fun l hl=>?_;by_cases e:l<k
   . rw[x0 l e];simp
   . rw[hst.zero l k hl (qa6 z (hst.mono k l (by omega) hl))];simp
  omega
 have e1:=a2 hlt;rw[htk]at e1;have pk:=hst.pos k hlt;rw[htk]at pk;have d1:T' k k∣T k k:=⟨x k,by rw[e1,qe7]⟩
 have zJ:=qj4 hp d1
 have below:∀i,i<n->i≠k->T' i k=0:=fun i hi hne=>by
  rcases qf5 i k with z | z
  . exact h1.2.2.2.1 i k z hw O9m
  . by_cases e3:i<r
    . exact hst.zero i k e3 (by have:=hst.inc k i O9m e3;omega)
    . exact hz i k O9m hi hw
 by_cases same:T' k k=T k k
 . left;have row:∀c,c<w->T k c=T' k c:=hst.only hin hlt v0 (by rw[htk];exact same.symm) (fun l hl1 hl2=>hr (t l) (hst.lt l hl2) (by have:=hst.inc k l hl1 hl2;omega))
   have zA:Kf n w (k+1) T':=by
    refine⟨O9m,O9m,fun j hj=>?_,fun j c hj hcw hne=>?_,fun i j hi hj hne=>?_⟩
    . by_cases e:j=k
      . subst e;exact pk
      . exact h1.2.2.1 j O9m
    . by_cases e:j=k
      . subst e;rw[←row c hcw];exact hr c hcw hne
      . exact h1.2.2.2.1 j c O9m hcw hne
    . by_cases e:j=k
      . subst e;exact below i hi hne
      . exact h1.2.2.2.2 i j hi O9m hne
   exact(s2.keep zA.flip).1.flip
 . right;have PK:T' k k<T k k:=O9m
   obtain⟨hc2,q2⟩:=s0.next hcl;obtain⟨g1,_,g3⟩:=s2.keep h1.flip;obtain⟨q,u,PU,Va,GG⟩:=s2.st;obtain⟨kq,hu⟩:=g3 q u PU Va GG;have tN:=(s2.bwd k hw).sub PU GG;obtain⟨y,hy⟩:=id tN
   have w0:∀l,l<k->(fun j=>T' j k) (u l)=0:=fun l hl=>by
    show T' (u l) k=0;rw[hu l hl];exact h1.2.2.2.1 l k hl hw O9m
   obtain⟨y0,b2⟩:=Va.lead hy k kq w0;have vK:T' k k=Aq (fun l=>y l*Kd k l) q:=hy k hn
   have NO:k<q:=by
    refine qh1 fun z=>?_
    have:T' k k=0:=by
     rw[vK];exact B6 fun l hl=>by rw[y0 l (by omega)];simp
    omega
   have rF:u k=k:=by
    refine qh2 (qf3 fun z=>?_) (Va.ge k NO)
    have:T' k k=0:=by
     rw[vK];refine B6 fun l hl=>?_;by_cases e2:l<k
     . rw[y0 l e2];simp
     . rw[show Kd k l=0 from Va.zero l k hl (qa6 z (Va.mono k l (by omega) hl))];simp
    omega
   have e3:T' (u k) k=y k*Kd (u k) k:=b2 NO;rw[rF]at e3;have p2:0<Kd (u k) k:=Va.pos k NO;rw[rF]at p2;have d2:Kd k k∣T' k k:=⟨y k,by rw[e3,qe7]⟩
   have ZI:=qj4 pk d2;refine⟨⟨hc2,hn,hw,p2,fun c hcw hne=>?_⟩,qr2 d2 d1,O9m⟩;rcases qf5 c k with z | z
   . exact hc2.2.2.2.2 k c hn z O9m
   . by_cases e4:c<q
     . exact Va.zero c k e4 (by have:=Va.inc k c O9m e4;omega)
     . exact GG c k O9m hcw hn
noncomputable def sgi(i:Nat):Int:=if i%2=0 then 1 else -1
theorem Sw(i:Nat):sgi (i+1)=- sgi i:=by
 unfold sgi;by_cases h:i%2=0
 . rw[if_neg (by omega),if_pos h]
 . rw[if_pos (by omega),if_neg h];rfl
theorem Rw(i:Nat):(sgi i).natAbs=1:=by unfold sgi;split<;>rfl
noncomputable def Fh(A:Mat)(i:Nat):Mat:=fun r c=>A (if r<i then r else r+1) (c+1)
noncomputable def det:Nat->Mat->Int
 | 0,_=>1
 | n+1,A=>Aq (fun i=>sgi i*A i 0*det n (Fh A i)) (n+1)
theorem Dc:∀{n:Nat}{A B:Mat},(∀r c,r<n->c<n->A r c=B r c)->det n A=det n B
 | 0,_,_,_=>rfl
 | n+1,A,B,h=>by
   refine Az fun i hi=>?_;rw[h i 0 hi (by omega),Dc (n:=n) (A:=Fh A i) (B:=Fh B i)];intro r c hr hc;exact h _ _ (by split<;>omega) O9m
noncomputable def Cd(A:Mat)(p:Nat)(u:Nat->Int):Mat:=fun r c=>if r=p then u c else A r c
theorem Bw(A:Mat)(p:Nat)(u:Nat->Int)(c:Nat):Cd A p u p c=u c:=if_pos rfl
theorem Ca{A:Mat}{p r:Nat}{u:Nat->Int}(h:r≠p)(c:Nat):Cd A p u r c=A r c:=if_neg h
theorem Ow{A:Mat}{p i:Nat}{u:Nat->Int}(h:i≠p):Fh (Cd A p u) i=Cd (Fh A i) (if p<i then p else p-1) (fun c=>u (c+1)):=by
 funext r c
 show(if (if r<i then r else r+1)=p then u (c+1) else A (if r<i then r else r+1) (c+1))=if r=(if p<i then p else p-1) then u (c+1) else A (if r<i then r else r+1) (c+1)
 have e:((if r<i then r else r+1)=p)↔(r=(if p<i then p else p-1)):=by
  split<;>split<;>omega
 by_cases z:r=(if p<i then p else p-1)
 . rw[if_pos z,if_pos (e.mpr z)]
 . rw[if_neg z,if_neg fun w=>z (e.mp w)]
theorem Gm{A:Mat}{p:Nat}{u:Nat->Int}:Fh (Cd A p u) p=Fh A p:=by
 funext r c
 show(if (if r<p then r else r+1)=p then u (c+1) else A (if r<p then r else r+1) (c+1))=A (if r<p then r else r+1) (c+1);rw[if_neg (by split<;>omega)]
theorem Ef:∀{n p:Nat} (A:Mat) (u v:Nat->Int) (a b:Int),p<n->det n (Cd A p fun c=>a*u c+b*v c)=a*det n (Cd A p u)+b*det n (Cd A p v)
 | n+1,p,A,u,v,a,b,hp=>by
   show Aq _ (n+1)=a*Aq _ (n+1)+b*Aq _ (n+1);rw[←B9,←B9,←Dn];refine Az fun i hi=>?_;by_cases e:i=p
   . subst e;rw[Bw,Bw,Bw,Gm,Gm,Gm]
     grind
   . rw[Ca e,Ca e,Ca e,Ow e,Ow e,Ow e];rw[Ef (Fh A i) (fun c=>u (c+1)) (fun c=>v (c+1)) a b (by split<;>omega)]
     grind
theorem F0(A:Mat)(p:Nat):Cd A p (A p)=A:=by
 funext r c
 unfold Cd;split
 . rename_i h;rw[h]
 . rfl
theorem Co{A:Mat}{p q:Nat}(h:p≠q)(u v:Nat->Int):Cd (Cd A p u) q v=Cd (Cd A q v) p u:=by
 funext r c
 unfold Cd;by_cases e:r=q
 . rw[if_pos e,if_neg (by omega),if_pos e]
 . rw[if_neg e,if_neg e]
theorem Yr:∀{n p:Nat}{A:Mat},p+1<n->(∀c,c<n->A p c=A (p+1) c)->det n A=0
 | n+1,p,A,hp,h=>by
   show Aq (fun i=>sgi i*A i 0*det n (Fh A i)) (n+1)=0
   have same:det n (Fh A p)=det n (Fh A (p+1)):=Dc fun r c hr hc=>by
    show A (if r<p then r else r+1) (c+1)=A (if r<p+1 then r else r+1) (c+1);by_cases e:r=p
    . subst e;rw[if_neg (by omega),if_pos (by omega)];exact(h _ O9m).symm
    . by_cases e2:r<p
      . rw[if_pos e2,if_pos (by omega)]
      . rw[if_neg e2,if_neg (by omega)]
   have two:Aq (fun i=>sgi i*A i 0*det n (Fh A i)) (n+1)=Aq (fun i=>((if i=p then 1 else 0)*(sgi p*A p 0*det n (Fh A p)))+((if i=p+1 then 1 else 0)*(sgi (p+1)*A (p+1) 0*det n (Fh A (p+1))))) (n+1):=by
    refine Az fun i hi=>?_;by_cases e1:i=p
    . subst e1;rw[if_pos rfl,if_neg (by omega)];simp
    . by_cases e2:i=p+1
      . subst e2;rw[if_neg (by omega),if_pos rfl];simp
      . rw[if_neg e1,if_neg e2]
        have z:det n (Fh A i)=0:=by
         refine Yr (p:=if p<i then p else p-1) (by split<;>omega) fun c hc=>?_;show A (if (if p<i then p else p-1)<i then(if p<i then p else p-1) else(if p<i then p else p-1)+1) (c+1)=A (if (if p<i then p else p-1)+1<i then(if p<i then p else p-1)+1 else(if p<i then p else p-1)+1+1) (c+1);by_cases e3:p<i
         . rw[if_pos e3,if_pos e3,if_pos (by omega)];exact h _ O9m
         . rw[if_neg e3,if_neg (by omega),if_neg (by omega),show p-1+1=p by omega];exact h _ O9m
        rw[z];simp
   rw[two,Dn,Dv (fun _=>sgi p*A p 0*det n (Fh A p)) p (n+1),if_pos (by omega),Dv (fun _=>sgi (p+1)*A (p+1) 0*det n (Fh A (p+1))) (p+1) (n+1),if_pos (by omega)];rw[Sw,←same,←h 0 (by omega)]
   grind
theorem Wt{n p:Nat}{A:Mat}(hp:p+1<n)(u v:Nat->Int):det n (Cd (Cd A p u) (p+1) v)=- det n (Cd (Cd A p v) (p+1) u):=by
 have ne:p≠p+1:=O9m
 have z:∀w:Nat->Int,det n (Cd (Cd A p w) (p+1) w)=0:=fun w=>Yr hp fun c _=>by rw[Ca ne,Bw,Bw]
 have e0:=z fun c=>1*u c+1*v c;rw[Ef (Cd A p _) u v 1 1 hp,Co ne,Co ne,Ef (Cd A (p+1) u) u v 1 1 (by omega),Ef (Cd A (p+1) v) u v 1 1 (by omega)]at e0;rw[←Co ne,←Co ne,←Co ne,←Co ne,z u,z v]at e0;omega
theorem Yp:∀(d:Nat) {n p:Nat}{A:Mat},p+d+1<n->(∀c,c<n->A p c=A (p+d+1) c)->det n A=0
 | 0,n,p,A,hp,h=>Yr hp h
 | d+1,n,p,A,hp,h=>by
   have e:A=Cd (Cd A (p+d+1) (A (p+d+1))) (p+d+1+1) (A (p+d+1+1)):=by rw[F0,F0]
   rw[e,Wt (by omega)];rw[Yp d (p:=p) (by omega) fun c hc=>?_]
   . rfl
   . rw[Ca (by omega),Ca (by omega),Ca (by omega),Bw];exact h c hc
theorem det_alike{n p q:Nat}{A:Mat}(hp:p<n)(hq:q<n)(hne:p≠q)(h:∀c,c<n->A p c=A q c):det n A=0:=by
 rcases qf5 p q with z | z
 . exact Yp (q-p-1) (p:=p) O9m (by rw[show p+(q-p-1)+1=q by omega];exact h)
 . exact Yp (p-q-1) (p:=q) O9m (by rw[show q+(p-q-1)+1=p by omega];exact fun c hc=>(h c hc).symm)
theorem JT{n p q:Nat}(A:Mat)(hp:p<n)(hq:q<n)(hne:p≠q)(k:Int):det n (Cd A p fun c=>A p c+k*A q c)=det n A:=by
 have:=Ef A (A p) (A q) 1 k hp;rw[F0,det_alike (A:=Cd A p (A q)) hp hq hne fun c _=>by rw[Bw,Ca (fun z=>hne z.symm)]]at this;rw[←show(fun c=>1*A p c+k*A q c)=fun c=>A p c+k*A q c from funext fun c=>by rw[qc0],this];omega
theorem j3{n p q:Nat}{A:Mat}(hp:p<n)(hq:q<n)(ne:p≠q)(u v:Nat->Int):det n (Cd (Cd A p u) q v)=- det n (Cd (Cd A p v) q u):=by
 have z:∀w:Nat->Int,det n (Cd (Cd A p w) q w)=0:=fun w=>det_alike hp hq ne fun c _=>by rw[Ca ne,Bw,Bw]
 have e0:=z fun c=>1*u c+1*v c;rw[Ef (Cd A p _) u v 1 1 hq,Co ne,Co ne,Ef (Cd A q u) u v 1 1 hp,Ef (Cd A q v) u v 1 1 hp]at e0;rw[←Co ne,←Co ne,←Co ne,←Co ne,z u,z v]at e0;omega
theorem jT{n p:Nat}(A:Mat)(hp:p<n):det n (Cd A p fun c=>- A p c)=- det n A:=by
 have:=Ef A (A p) (A p) (-1) 0 hp;rw[F0]at this;rw[show(fun c=>- A p c)=fun c=>-1*A p c+0*A p c from funext fun c=>by omega,this];omega
theorem DV{n p q:Nat}(A:Mat)(hp:p<n)(hq:q<n)(ne:p≠q)(a b c d:Int)(h:a*d-b*c=1) :
 det n (Cd (Cd A p fun k=>a*A p k+b*A q k) q fun k=>c*A p k+d*A q k)=det n A:=by
 have z:∀w:Nat->Int,det n (Cd (Cd A p w) q w)=0:=fun w=>det_alike hp hq ne fun c _=>by rw[Ca ne,Bw,Bw]
 have e:det n (Cd (Cd A p (A p)) q (A q))=det n A:=by rw[F0,F0]
 have e2:=j3 (A:=A) hp hq ne (A p) (A q);rw[Ef _ (A p) (A q) c d hq,Co ne,Co ne,Ef (Cd A q (A p)) (A p) (A q) a b hp,Ef (Cd A q (A q)) (A p) (A q) a b hp];rw[←Co ne,←Co ne,←Co ne,←Co ne,z (A p),z (A q)];rw[e]at e2 ⊢;have e3:det n (Cd (Cd A p (A q)) q (A p))=- det n A:=O9m
 rw[e3]
 grind
noncomputable def prodN(f:Nat->Int):Nat->Int
 | 0=>1
 | n+1=>prodN f n*f n
theorem Q8(f:Nat->Int):∀n,prodN f (n+1)=f 0*prodN (fun k=>f (k+1)) n
 | 0=>by simp[prodN]
 | n+1=>by
   show prodN f (n+1)*f (n+1)=f 0*(prodN (fun k=>f (k+1)) n*f (n+1));rw[Q8 f n,qe9]
theorem R5:∀{n:Nat}{A:Mat},(∀r c,r<n->c<r->A r c=0)->det n A=prodN (fun j=>A j j) n
 | 0,_,_=>rfl
 | n+1,A,h=>by
   show Aq (fun i=>sgi i*A i 0*det n (Fh A i)) (n+1)=_;rw[Ch (j:=0) (by omega) fun k hk hne=>by rw[h k 0 hk (by omega)];simp,Q8]
   rw[R5 (n:=n) (A:=Fh A 0) fun r c hr hc=>by
    show A (if r<0 then r else r+1) (c+1)=0;rw[if_neg (by omega)];exact h _ _ (by omega) (by omega)]
   show 1*A 0 0*prodN (fun j=>A (if j<0 then j else j+1) (j+1)) n=_;rw[qc0];rfl
noncomputable def HV:Nat->Nat
 | 0=>1
 | n+1=>(n+1)*HV n
theorem Se{f:Nat->Int}{M:Nat}:∀{n:Nat},(∀k,k<n->(f k).natAbs<=M)->(Aq f n).natAbs<=n*M
 | 0,_=>by simp[Aq]
 | n+1,h=>by
   have a:=Se (n:=n) fun k hk=>h k O9m;have b:=h n O9m;have c:=qd0 (Aq f n) (f n);show(Aq f n+f n).natAbs<=(n+1)*M;rw[qd4,qd1];omega
theorem GR:∀{n:Nat}{A:Mat}{B:Nat},(∀r c,r<n->c<n->(A r c).natAbs<=B)->(det n A).natAbs<=HV n*B ^ n
 | 0,_,_,_=>by simp[det,HV]
 | n+1,A,B,h=>by
   show(Aq _ (n+1)).natAbs<=(n+1)*HV n*B ^ (n+1)
   have:(Aq (fun i=>sgi i*A i 0*det n (Fh A i)) (n+1)).natAbs<=(n+1)*(B*(HV n*B ^ n)):=by
    refine Se fun i hi=>?_;rw[qa9,qa9,Rw,qd1];exact qd9 (h i 0 hi O9m) (GR fun r c hr hc=>h _ _ (by split<;>omega) O9m)
   refine qa1 this (qs0 ?_);rw[qg7]
   grind
structure Gi(i:Nat)(R:Mat)(t:Nat->Nat):Prop where
 inc:∀j k,j<k->k<i->t j<t k
 zero:∀j c,j<i->c<t j->R j c=0
 pos:∀j,j<i->0<R j (t j)
theorem Em.s0{w r:Nat}{R:Mat}{t:Nat->Nat}(h:Em w r R t):Gi r R t:=⟨h.inc,h.zero,h.pos⟩
theorem Gi.low{i:Nat}{R:Mat}{t:Nat->Nat}(h:Gi i R t){j l:Nat}(hj:j<i)(hl:l<j):R j (t l)=0:=h.zero j _ hj (h.inc l j hl hj)
theorem Pf:∀{n p:Nat}{A:Mat},p<n->(∀c,c<n->A p c=0)->det n A=0:=fun {n p A} hp h=>by
 have:=Ef A (A p) (A p) 0 0 hp;rw[show(fun c=>0*A p c+0*A p c)=fun _=>(0:Int) from funext fun c=>by omega]at this
 rw[show det n A=det n (Cd A p fun _=>0) from Dc fun r c hr hc=>by
  unfold Cd;split
  . rename_i e;rw[e];exact h c hc
  . rfl,this]
 omega
theorem Cy{f:Nat->Int}:∀{n:Nat},(∀k,k<n->0<f k)->0<prodN f n
 | 0,_=>by show(0:Int)<1;decide
 | n+1,h=>Int.mul_pos (Cy fun k hk=>h k O9m) (h n O9m)
noncomputable def pb(R:Mat)(t:Nat->Nat)(k:Nat):Nat->Int
 | 0=>1
 | m+1=>R (k+1+m) (t (k+1+m))*pb R t k m
noncomputable def Ni(R:Mat)(t:Nat->Nat)(k:Nat):Nat->(Nat->Int)
 | 0=>R k
 | m+1=>fun c=>R (k+1+m) (t (k+1+m))*Ni R t k m c+(-(Ni R t k m (t (k+1+m))))*R (k+1+m) c
section
variable{i:Nat}{R:Mat}{t:Nat->Nat}(h:Gi i R t)
include h
theorem fP{k:Nat}:∀{m:Nat},k+m<i->0<pb R t k m
 | 0,_=>by show(0:Int)<1;decide
 | m+1,hm=>Int.mul_pos (h.pos _ O9m) (fP O9m)
theorem Y0{k l:Nat}(hl:l<k):∀{m:Nat},k+m<i->Ni R t k m (t l)=0
 | 0,hm=>h.low hm hl
 | m+1,hm=>by
   show R (k+1+m) (t (k+1+m))*Ni R t k m (t l)+(-(Ni R t k m (t (k+1+m))))*R (k+1+m) (t l)=0;rw[Y0 hl (by omega),h.low (j:=k+1+m) (l:=l) (by omega) (by omega)];simp
theorem l8{k:Nat}:∀{m:Nat},k+m<i->Ni R t k m (t k)=pb R t k m*R k (t k)
 | 0,_=>by show R k (t k)=1*R k (t k);omega
 | m+1,hm=>by
   show R (k+1+m) (t (k+1+m))*Ni R t k m (t k)+(-(Ni R t k m (t (k+1+m))))*R (k+1+m) (t k)=R (k+1+m) (t (k+1+m))*pb R t k m*R k (t k);rw[l8 (by omega),h.low (j:=k+1+m) (l:=k) (by omega) (by omega),qe9];simp
theorem Yz{k:Nat}:∀{m l:Nat},k+m<i->k<l->l<=k+m->Ni R t k m (t l)=0
 | 0,l,_,h1,h2=>O9m
 | m+1,l,hm,h1,h2=>by
   show R (k+1+m) (t (k+1+m))*Ni R t k m (t l)+(-(Ni R t k m (t (k+1+m))))*R (k+1+m) (t l)=0;by_cases e:l=k+1+m
   . subst e;rw[qe7,ql6];omega
   . rw[Yz (by omega) h1 (by omega),h.low (j:=k+1+m) (l:=l) (by omega) (by omega)];simp
theorem HB{W:Nat}{k:Nat}:∀{m:Nat},k+m<i->In W i R (Ni R t k m)
 | 0,hm=>In.row hm
 | m+1,hm=>(HB O9m).mix (In.row O9m) _ _
theorem bX{k:Nat}(s:Nat->Nat):∀{m:Nat},k+m<i->det i (Cd (fun r c=>R r (s c)) k fun c=>Ni R t k m (s c))=pb R t k m*det i (fun r c=>R r (s c))
 | 0,hm=>by
   show det i (Cd (fun r c=>R r (s c)) k ((fun r c=>R r (s c)) k))=1*_;rw[F0];omega
 | m+1,hm=>by
   show det i (Cd (fun r c=>R r (s c)) k fun c=>R (k+1+m) (t (k+1+m))*Ni R t k m (s c)+(-(Ni R t k m (t (k+1+m))))*R (k+1+m) (s c))=_;rw[Ef (fun r c=>R r (s c)) (fun c=>Ni R t k m (s c)) (fun c=>R (k+1+m) (s c)) _ _ (by omega),bX s (by omega)];rw[det_alike (p:=k) (q:=k+1+m) (A:=Cd (fun r c=>R r (s c)) k fun c=>R (k+1+m) (s c)) (by omega) (by omega) (by omega) fun c _=>by rw[Bw,Ca (by omega)]];show _=R (k+1+m) (t (k+1+m))*pb R t k m*_;rw[qe9];omega
end
theorem skip_prod{f:Nat->Int}{k:Nat}:∀(n:Nat),k<=n->prodN (fun l=>f (if l<k then l else l+1)) n=prodN f k*prodN (fun l=>f (k+1+l)) (n-k)
 | 0,h=>by
   have:k=0:=O9m
   subst this;simp[prodN]
 | n+1,h=>by
   by_cases e:k=n+1
   . subst e;rw[show n+1-(n+1)=0 by omega];show prodN _ (n+1)=prodN f (n+1)*1
     have:∀m,m<=n+1->prodN (fun l=>f (if l<n+1 then l else l+1)) m=prodN f m:=by
      intro m
      induction m with
      | zero=>intro _;rfl
      | succ m ih =>
        intro hm;show prodN _ m*f (if m<n+1 then m else m+1)=prodN f m*f m;rw[ih (by omega),if_pos (by omega)]
     rw[this _ (qa0 _)];omega
   . show prodN _ n*f (if n<k then n else n+1)=_;rw[skip_prod n (by omega),if_neg (by omega),show n+1-k=(n-k)+1 by omega];show _=prodN f k*(prodN (fun l=>f (k+1+l)) (n-k)*f (k+1+(n-k)));rw[show k+1+(n-k)=n+1 by omega,qe9]
theorem Xt(R:Mat)(t:Nat->Nat)(k:Nat):∀m,pb R t k m=prodN (fun l=>R (k+1+l) (t (k+1+l))) m
 | 0=>rfl
 | m+1=>by
   show R (k+1+m) (t (k+1+m))*pb R t k m=prodN _ m*R (k+1+m) (t (k+1+m));rw[Xt R t k m,qe7]
noncomputable def V8(t:Nat->Nat)(k c:Nat):Nat->Nat
 | 0=>c
 | l+1=>t (if l<k then l else l+1)
theorem nC{i:Nat}{R:Mat}{t:Nat->Nat}(h:Gi i R t){k c:Nat}(hk:k<i){D:Nat}(hD:(det i fun r l=>R r (V8 t k c l)).natAbs<=D):(Ni R t k (i-1-k) c).natAbs<=D:=by
 have hm:k+(i-1-k)<i:=O9m
 have e1:=bX h (k:=k) (V8 t k c) hm
 have xN:∀l,l<i->l≠k->Ni R t k (i-1-k) (t l)=0:=fun l hl hne=>by
  rcases qf5 l k with z | z
  . exact Y0 h z hm
  . exact Yz h hm O9m O9m
 obtain⟨n,rfl⟩:∃n,i=n+1:=⟨i-1,O9m⟩
 have e2:det (n+1) (Cd (fun r l=>R r (V8 t k c l)) k fun l=>Ni R t k (n+1-1-k) (V8 t k c l))=sgi k*Ni R t k (n+1-1-k) c*prodN (fun l=>R (if l<k then l else l+1) (t (if l<k then l else l+1))) n:=by
  show Aq (fun j=>sgi j*Cd _ k _ j 0*det n (Fh (Cd _ k _) j)) (n+1)=_;rw[Ch (j:=k) hk fun j hj hne=>?_]
  . rw[Bw,Gm]
    congr 1
    refine R5 fun r l hr hl=>?_;show R (if r<k then r else r+1) (t (if l<k then l else l+1))=0;refine h.low (by split<;>omega) ?_;split<;>split<;>omega
  . rw[Ow hne,Pf (p:=if k<j then k else k-1) (by split<;>omega) fun l hl=>?_]
    . simp
    . rw[Bw];show Ni R t k (n+1-1-k) (t (if l<k then l else l+1))=0;exact xN _ (by split<;>omega) (by split<;>omega)
 rw[e1]at e2;rw[skip_prod (f:=fun l=>R l (t l)) n (by omega),←Xt,show n+1-1-k=n-k by omega]at e2;rw[show n+1-1-k=n-k by omega];have pp:=fP h (k:=k) (m:=n-k) O9m;have qp:0<prodN (fun l=>R l (t l)) k:=Cy fun j hj=>h.pos j O9m;have e3:=congrArg Int.natAbs e2;rw[qa9,qa9,qa9,qa9,Rw,qd1]at e3;have p1:0<(pb R t k (n-k)).natAbs:=O9m
 have q1:1<=(prodN (fun l=>R l (t l)) k).natAbs:=O9m
 have:(pb R t k (n-k)).natAbs*(Ni R t k (n-k) c).natAbs<=(pb R t k (n-k)).natAbs*D:=by
  calc (pb R t k (n-k)).natAbs*(Ni R t k (n-k) c).natAbs<=(Ni R t k (n-k) c).natAbs*((prodN (fun l=>R l (t l)) k).natAbs*(pb R t k (n-k)).natAbs):=by
        rw[Nat.mul_comm (pb R t k (n-k)).natAbs];exact qd2 _ (qo7 _ q1)
   _=(pb R t k (n-k)).natAbs*(det (n+1) fun r l=>R r (V8 t k c l)).natAbs:=e3.symm
   _<=_:=qd2 _ hD
 exact Nat.le_of_mul_le_mul_left this p1
theorem Wl{i:Nat}{R:Mat}{t:Nat->Nat}(h:Gi i R t):det i (fun r l=>R r (t l))=prodN (fun l=>R l (t l)) i:=R5 fun r c hr hc=>h.low hr hc
theorem Td{f:Nat->Int}:∀{n j:Nat},(∀k,k<n->0<f k)->j<n->f j<=prodN f n
 | n+1,j,h,hj=>by
   have p:=Cy (n:=n) fun k hk=>h k O9m;have q:=h n O9m;show f j<=prodN f n*f n;by_cases e:j=n
   . subst e;have:1*f j<=prodN f j*f j:=qg8 O9m O9m;omega
   . have ih:=Td (n:=n) (j:=j) (fun k hk=>h k O9m) O9m;have:prodN f n*1<=prodN f n*f n:=qj0 O9m O9m;omega
theorem jO{i:Nat}{R:Mat}{t:Nat->Nat}(h:Gi i R t){D:Nat}(hD:(det i fun r l=>R r (t l)).natAbs<=D){j:Nat}(hj:j<i):R j (t j)<=D:=by
 rw[Wl h]at hD;have a:=Td (f:=fun l=>R l (t l)) (fun k hk=>h.pos k hk) hj;have b:=Cy (f:=fun l=>R l (t l)) (n:=i) (fun k hk=>h.pos k hk);omega
theorem Gi.none{W i:Nat}{R:Mat}{t:Nat->Nat}(h:Gi i R t)(ht:∀j,j<i->t j<W){v:Nat->Int}(hv:In W i R v)(h0:∀j,j<i->v (t j)=0):∀c,c<W->v c=0:=by
 obtain⟨x,hx⟩:=hv
 have x0:∀m,m<=i->∀j,j<m->x j=0:=by
  intro m
  induction m with
  | zero=>intro _ j hj;omega
  | succ m ih =>
    intro hm j hj;by_cases e:j<m
    . exact ih O9m j e
    have ej:j=m:=O9m
    subst ej;have e1:=hx (t j) (ht j O9m);rw[h0 j (by omega),Ch (j:=j) (by omega) fun k hk hne=>?_]at e1
    . rcases qp6.mp e1.symm with z | z
      . exact z
      . have:=h.pos j O9m;omega
    . by_cases e2:k<j
      . rw[ih (by omega) k e2];simp
      . rw[h.low hk (by omega)];simp
 intro c hc;rw[hx c hc];exact B6 fun k hk=>by rw[x0 i (qa0 _) k hk];simp
theorem In.sum{W i:Nat}{R:Mat}{a:Nat->Int}{U:Mat}:∀{m:Nat},(∀j,j<m->In W i R (U j))->In W i R (fun c=>Aq (fun j=>a j*U j c) m)
 | 0,_=>In.zero W i R
 | m+1,h=>by
   have:=(In.sum (a:=a) (U:=U) (m:=m) fun j hj=>h j O9m).mix (h m O9m) 1 (a m)
   exact this.congr fun c _=>by
    show 1*Aq (fun j=>a j*U j c) m+a m*U m c=Aq (fun j=>a j*U j c) m+a m*U m c;omega
theorem N1(f:Nat->Int):∀(n k:Nat),k<n->prodN f n=prodN f k*(prodN (fun l=>f (k+1+l)) (n-1-k)*f k)
 | n+1,k,h=>by
   by_cases e:k=n
   . subst e;rw[show k+1-1-k=0 by omega];show prodN f k*f k=prodN f k*(1*f k);rw[qc0]
   . show prodN f n*f n=_;rw[N1 f n k (by omega),show n+1-1-k=(n-1-k)+1 by omega];show _=prodN f k*(prodN _ (n-1-k)*f (k+1+(n-1-k))*f k);rw[show k+1+(n-1-k)=n by omega]
     grind
theorem pL{f:Nat->Int}:∀{n k:Nat},(∀l,l<n->0<f l)->k<n->prodN f k*f k<=prodN f n:=fun {n k} h hk=>by
 rw[N1 f n k hk];have a:=Cy (n:=k) fun l hl=>h l O9m;have b:0<prodN (fun l=>f (k+1+l)) (n-1-k):=Cy fun l hl=>h _ O9m;have c:=h k hk;have d:1*f k<=prodN (fun l=>f (k+1+l)) (n-1-k)*f k:=qg8 O9m O9m;rw[qc0]at d;exact qj0 d O9m
theorem iI{W i:Nat}{R:Mat}{t:Nat->Nat}(h:Gi i R t)(ht:∀j,j<i->t j<W){v:Nat->Int}(hv:In W i R v){κ D c:Nat}(hc:c<W)(hκ:∀j,j<i->(v (t j)).natAbs<=κ*(R j (t j)).natAbs)
 (hD:∀k,k<i->(det i fun r l=>R r (V8 t k c l)).natAbs<=D):(v c).natAbs<=i*(κ*D):=by
 have hp:∀l,l<i->0<(fun l=>R l (t l)) l:=fun l hl=>h.pos l hl;have EP:=Cy (n:=i) hp
 have key:prodN (fun l=>R l (t l)) i*v c=Aq (fun j=>(v (t j)*prodN (fun l=>R l (t l)) j)*Ni R t j (i-1-j) c) i:=by
  have hin:In W i R (fun c=>prodN (fun l=>R l (t l)) i*v c+(-1)*Aq (fun j=>(v (t j)*prodN (fun l=>R l (t l)) j)*Ni R t j (i-1-j) c) i) :=
   hv.mix (In.sum (a:=fun j=>v (t j)*prodN (fun l=>R l (t l)) j) (U:=fun j=>Ni R t j (i-1-j)) fun j hj=>HB h O9m) _ _
  have:=h.none ht hin (fun m hm=>?_) c hc
  . show _=_;have t:prodN (fun l=>R l (t l)) i*v c+(-1)*Aq (fun j=>(v (t j)*prodN (fun l=>R l (t l)) j)*Ni R t j (i-1-j) c) i=0:=this;omega
  . show prodN (fun l=>R l (t l)) i*v (t m)+(-1)*Aq (fun j=>(v (t j)*prodN (fun l=>R l (t l)) j)*Ni R t j (i-1-j) (t m)) i=0;rw[Ch (j:=m) hm fun j hj hne=>?_]
    . rw[l8 h (by omega),Xt,N1 (fun l=>R l (t l)) i m hm]
      grind
    . have:Ni R t j (i-1-j) (t m)=0:=by
       rcases qf5 m j with z | z
       . exact Y0 h z O9m
       . exact Yz h O9m O9m O9m
      rw[this];simp
 have e:=congrArg Int.natAbs key;rw[qa9]at e
 have le:(Aq (fun j=>(v (t j)*prodN (fun l=>R l (t l)) j)*Ni R t j (i-1-j) c) i).natAbs<=i*((prodN (fun l=>R l (t l)) i).natAbs*(κ*D)):=by
  refine Se fun j hj=>?_;rw[qa9,qa9];have a1:=hκ j hj;have a2:=nC h hj (hD j hj);have a3:=pL hp hj;have a4:=Cy (n:=j) fun l hl=>hp l O9m;have a5:=hp j hj
  have a6:(prodN (fun l=>R l (t l)) j).natAbs*(R j (t j)).natAbs<=(prodN (fun l=>R l (t l)) i).natAbs:=by
   rw[←qa9];have:0<prodN (fun l=>R l (t l)) j*R j (t j):=Int.mul_pos a4 a5;omega
  calc (v (t j)).natAbs*(prodN (fun l=>R l (t l)) j).natAbs*(Ni R t j (i-1-j) c).natAbs
   ≤ κ*(R j (t j)).natAbs*(prodN (fun l=>R l (t l)) j).natAbs*D:=qd9 (qb1 _ a1) a2
   _=(prodN (fun l=>R l (t l)) j).natAbs*(R j (t j)).natAbs*(κ*D):=by grind
   _<=_:=qb1 _ a6
 rw[←e]at le;have E1:0<(prodN (fun l=>R l (t l)) i).natAbs:=O9m
 refine Nat.le_of_mul_le_mul_left (qa1 le (qs0 ?_)) E1
 grind
theorem In.trans{W n m:Nat}{R R':Mat}{v:Nat->Int}(hv:In W n R v)(h:∀j,j<n->In W m R' (R j)):In W m R' v:=by
 obtain⟨x,hx⟩:=hv;exact(In.sum (a:=x) (U:=R) h).congr fun c hc=>(hx c hc).symm
noncomputable def EV(W n:Nat)(R R':Mat):Prop:=(∀j,j<n->In W n R (R' j))/\(∀j,j<n->In W n R' (R j))
theorem EV.refl(W n:Nat)(R:Mat):EV W n R R:=⟨fun j hj=>In.row hj,fun j hj=>In.row hj⟩
theorem EV.trans{W n:Nat}{R S T:Mat}(h1:EV W n R S)(h2:EV W n S T):EV W n R T:=⟨fun j hj=>(h2.1 j hj).trans h1.1,fun j hj=>(h1.2 j hj).trans h2.2⟩
noncomputable def En(n:Nat)(R R':Mat):Prop:=∀s:Nat->Nat,(det n fun r l=>R' r (s l)).natAbs=(det n fun r l=>R r (s l)).natAbs
theorem En.refl(n:Nat)(R:Mat):En n R R:=fun _=>rfl
theorem En.trans{n:Nat}{R S T:Mat}(h1:En n R S)(h2:En n S T):En n R T:=fun s=>(h2 s).trans (h1 s)
theorem J3(R:Mat)(p:Nat)(u:Nat->Int)(s:Nat->Nat):(fun r l=>Cd R p u r (s l))=Cd (fun r l=>R r (s l)) p (fun l=>u (s l)):=by
 funext r l
 unfold Cd;split<;>rfl
noncomputable def addR(R:Mat)(p q:Nat)(k:Int):Mat:=Cd R p fun c=>1*R p c+k*R q c
theorem Cp(R:Mat)(p q:Nat)(k:Int)(c:Nat):addR R p q k p c=1*R p c+k*R q c:=Bw ..
theorem C3{R:Mat}{p q r:Nat}{k:Int}(h:r≠p)(c:Nat):addR R p q k r c=R r c:=Ca h c
theorem jY{n p q:Nat}(R:Mat)(hp:p<n)(hq:q<n)(ne:p≠q)(k:Int):En n R (addR R p q k):=fun s=>by
 unfold addR;rw[J3];have:=JT (fun r l=>R r (s l)) hp hq ne k;rw[show(fun l=>1*R p (s l)+k*R q (s l))=fun l=>R p (s l)+k*R q (s l) from funext fun l=>by rw[qc0],this]
theorem JX{W n p q:Nat}(R:Mat)(hp:p<n)(hq:q<n)(ne:p≠q)(k:Int):EV W n R (addR R p q k):=by
 refine⟨fun j hj=>?_,fun j hj=>?_⟩
 . by_cases e:j=p
   . subst e;exact((In.row hj).mix (In.row hq) 1 k).congr fun c _=>(Cp R j q k c).symm
   . exact(In.row hj).congr fun c _=>(C3 e c).symm
 . by_cases e:j=p
   . subst e;refine((In.row (R:=addR R j q k) hj).mix (In.row (R:=addR R j q k) hq) 1 (-k)).congr fun c _=>?_;rw[Cp,C3 (fun z=>ne z.symm)];show 1*(1*R j c+k*R q c)+-k*R q c=R j c;rw[ql6];omega
   . exact(In.row (R:=addR R p q k) hj).congr fun c _=>C3 e c
noncomputable def Fo(R:Mat)(p:Nat):Mat:=Cd R p fun c=>- R p c
theorem jG{n p:Nat}(R:Mat)(hp:p<n):En n R (Fo R p):=fun s=>by
 unfold Fo;rw[J3,jT (fun r l=>R r (s l)) hp,qb4]
theorem jF{W n p:Nat}(R:Mat)(hp:p<n):EV W n R (Fo R p):=by
 refine⟨fun j hj=>?_,fun j hj=>?_⟩
 . by_cases e:j=p
   . subst e;exact((In.row hj).mix (In.row hj) (-1) 0).congr fun c _=>by unfold Fo;rw[Bw];omega
   . exact(In.row hj).congr fun c _=>(Ca e c).symm
 . by_cases e:j=p
   . subst e;exact((In.row (R:=Fo R j) hj).mix (In.row (R:=Fo R j) hj) (-1) 0).congr fun c _=>by unfold Fo;rw[Bw];omega
   . exact(In.row (R:=Fo R p) hj).congr fun c _=>Ca e c
noncomputable def blendR(R:Mat)(p q:Nat)(a b c d:Int):Mat:=Cd (Cd R p fun k=>a*R p k+b*R q k) q fun k=>c*R p k+d*R q k
theorem Fm{R:Mat}{p q:Nat}(ne:p≠q)(a b c d:Int)(k:Nat):blendR R p q a b c d p k=a*R p k+b*R q k:=by unfold blendR;rw[Ca ne,Bw]
theorem Go(R:Mat)(p q:Nat)(a b c d:Int)(k:Nat):blendR R p q a b c d q k=c*R p k+d*R q k:=by unfold blendR;rw[Bw]
theorem Df{R:Mat}{p q r:Nat}(h1:r≠p)(h2:r≠q)(a b c d:Int)(k:Nat):blendR R p q a b c d r k=R r k:=by unfold blendR;rw[Ca h2,Ca h1]
theorem EK{n p q:Nat}(R:Mat)(hp:p<n)(hq:q<n)(ne:p≠q){a b c d:Int}(h:a*d-b*c=1):En n R (blendR R p q a b c d):=fun s=>by
 unfold blendR;rw[J3,J3];rw[DV (fun r l=>R r (s l)) hp hq ne a b c d h]
theorem eK{W n p q:Nat}(R:Mat)(hp:p<n)(hq:q<n)(ne:p≠q){a b c d:Int}(h:a*d-b*c=1):EV W n R (blendR R p q a b c d):=by
 refine⟨fun j hj=>?_,fun j hj=>?_⟩
 . by_cases e:j=p
   . subst e;exact((In.row hj).mix (In.row hq) a b).congr fun k _=>(Fm ne a b c d k).symm
   . by_cases e2:j=q
     . subst e2;exact((In.row hp).mix (In.row hj) c d).congr fun k _=>(Go R p j a b c d k).symm
     . exact(In.row hj).congr fun k _=>(Df e e2 a b c d k).symm
 . by_cases e:j=p
   . subst e;refine((In.row (R:=blendR R j q a b c d) hj).mix (In.row (R:=blendR R j q a b c d) hq) d (-b)).congr fun k _=>?_;rw[Fm ne,Go];have:R j k=(a*d-b*c)*R j k:=by rw[h,qc0]
     grind
   . by_cases e2:j=q
     . subst e2;refine((In.row (R:=blendR R p j a b c d) hp).mix (In.row (R:=blendR R p j a b c d) hj) (-c) a).congr fun k _=>?_;rw[Fm ne,Go];have:R j k=(a*d-b*c)*R j k:=by rw[h,qc0]
       grind
     . exact(In.row (R:=blendR R p q a b c d) hj).congr fun k _=>Df e e2 a b c d k
noncomputable def moveR(R:Mat)(i s:Nat):Mat:=fun r c=>if r<s then R r c else if r=s then R i c else if r<=i then R (r-1) c else R r c
theorem c8{n:Nat}:∀(d:Nat) (R:Mat) {i s:Nat},i<n->i=s+d->En n R (moveR R i s)
 | 0,R,i,s,hi,e=>by
   have:moveR R i s=R:=by
    funext r c
    unfold moveR;by_cases e1:r<s
    . rw[if_pos e1]
    . rw[if_neg e1];by_cases e2:r=s
      . rw[if_pos e2,e2,show i=s by omega]
      . rw[if_neg e2,if_neg (by omega)]
   rw[this];exact En.refl n R
 | d+1,R,i,s,hi,e=>by
   obtain⟨j,rfl⟩:∃j,i=j+1:=⟨i-1,O9m⟩
   have h1:En n R (Cd (Cd R j (R (j+1))) (j+1) (R j)):=fun t=>by
    rw[J3,J3,Wt (by omega),qb4]
    rw[show Cd (Cd (fun r l=>R r (t l)) j fun l=>R j (t l)) (j+1) (fun l=>R (j+1) (t l))=fun r l=>R r (t l) from by
     have:=F0 (fun r l=>R r (t l)) j;rw[show(fun l=>R j (t l))=(fun r l=>R r (t l)) j from rfl,this];exact F0 (fun r l=>R r (t l)) (j+1)]
   have h2:=c8 (n:=n) d (Cd (Cd R j (R (j+1))) (j+1) (R j)) (i:=j) (s:=s) O9m O9m
   have e3:moveR (Cd (Cd R j (R (j+1))) (j+1) (R j)) j s=moveR R (j+1) s:=by
    funext r c
    unfold moveR;by_cases e1:r<s
    . rw[if_pos e1,if_pos e1,Ca (by omega),Ca (by omega)]
    . rw[if_neg e1,if_neg e1];by_cases e2:r=s
      . rw[if_pos e2,if_pos e2,Ca (show j≠j+1 by omega),Bw]
      . rw[if_neg e2,if_neg e2];by_cases e4:r<=j
        . rw[if_pos e4,if_pos (show r<=j+1 by omega),Ca (show r-1≠j+1 by omega),Ca (show r-1≠j by omega)]
        . rw[if_neg e4];by_cases e5:r=j+1
          . subst e5;rw[Bw,if_pos (by omega)];rfl
          . rw[if_neg (show ¬r<=j+1 by omega),Ca e5,Ca (show r≠j by omega)]
   rw[e3]at h2;exact h1.trans h2
theorem gB{W n:Nat}(R:Mat){i s:Nat}(hi:i<n)(hs:s<=i):EV W n R (moveR R i s):=by
 refine⟨fun j hj=>?_,fun j hj=>?_⟩
 . by_cases e1:j<s
   . exact(In.row hj).congr fun c _=>by unfold moveR;rw[if_pos e1]
   . by_cases e2:j=s
     . exact(In.row hi).congr fun c _=>by unfold moveR;rw[if_neg e1,if_pos e2]
     . by_cases e3:j<=i
       . exact(In.row (R:=R) (j:=j-1) O9m).congr fun c _=>by unfold moveR;rw[if_neg e1,if_neg e2,if_pos e3]
       . exact(In.row hj).congr fun c _=>by unfold moveR;rw[if_neg e1,if_neg e2,if_neg e3]
 . by_cases e1:j<s
   . exact(In.row (R:=moveR R i s) hj).congr fun c _=>by unfold moveR;rw[if_pos e1]
   . by_cases e2:j=i
     . exact(In.row (R:=moveR R i s) (j:=s) O9m).congr fun c _=>by unfold moveR;rw[if_neg (by omega),if_pos rfl,e2]
     . by_cases e3:j<i
       . exact(In.row (R:=moveR R i s) (j:=j+1) O9m).congr fun c _=>by unfold moveR;rw[if_neg (by omega),if_neg (by omega),if_pos (by omega)];rfl
       . exact(In.row (R:=moveR R i s) hj).congr fun c _=>by unfold moveR;rw[if_neg (by omega),if_neg (by omega),if_neg (by omega)]
theorem P1{f g:Nat->Int}{n p q:Nat}(hp:p<n)(hq:q<n)(ne:p≠q)(h:∀k,k<n->k≠p->k≠q->f k=g k)(e:f p+f q=g p+g q):Aq f n=Aq g n:=by
 have z:Aq (fun k=>f k+-1*g k) n=(f p-g p)+(f q-g q):=by
  have e1:Aq (fun k=>f k+-1*g k) n=Aq (fun k=>(if k=p then 1 else 0)*(f p-g p)+(if k=q then 1 else 0)*(f q-g q)) n:=by
   refine Az fun k hk=>?_;by_cases e1:k=p
   . subst e1;rw[if_pos rfl,if_neg ne];omega
   . rw[if_neg e1];by_cases e2:k=q
     . subst e2;rw[if_pos rfl];omega
     . rw[if_neg e2,h k hk e1 e2];omega
  rw[e1,Dn,Dv (fun _=>f p-g p) p n,if_pos hp,Dv (fun _=>f q-g q) q n,if_pos hq]
 rw[Dn,B9]at z;omega
noncomputable def pT(n:Nat)(B R:Mat)(a b:Nat):Int:=Aq (fun k=>B k a*R k b) n
theorem v9{n p q:Nat}(B R:Mat)(hp:p<n)(hq:q<n)(ne:p≠q)(k:Int)(a b:Nat):pT n (addR B q p (-k)) (addR R p q k) a b=pT n B R a b:=by
 refine P1 hp hq ne (fun j _ h1 h2=>by rw[C3 h2,C3 h1]) ?_;rw[C3 (r:=p) (p:=q) ne,Cp R p q k,Cp B q p (-k),C3 (fun z=>ne z.symm)]
 grind
theorem MB{n p:Nat}(B R:Mat)(a b:Nat):pT n (Fo B p) (Fo R p) a b=pT n B R a b:=by
 refine Az fun k _=>?_;by_cases e:k=p
 . subst e;unfold Fo;rw[Bw,Bw,Int.neg_mul_neg]
 . unfold Fo;rw[Ca e,Ca e]
theorem Z7{n p q:Nat}(B R:Mat)(hp:p<n)(hq:q<n)(ne:p≠q){a b c d:Int}(h:a*d-b*c=1)(x y:Nat):pT n (blendR B p q d (-c) (-b) a) (blendR R p q a b c d) x y=pT n B R x y:=by
 refine P1 hp hq ne (fun j _ h1 h2=>by rw[Df h1 h2,Df h1 h2]) ?_;rw[Fm ne,Fm ne,Go,Go];have e1:B p x*R p y=(a*d-b*c)*(B p x*R p y):=by rw[h,qc0]
 have e2:B q x*R q y=(a*d-b*c)*(B q x*R q y):=by rw[h,qc0]
 grind
theorem Vy(f:Nat->Int):∀(d:Nat) {n i s:Nat},i<n->i=s+d->Aq (fun r=>if r<s then f r else if r=s then f i else if r<=i then f (r-1) else f r) n=Aq f n
 | 0,n,i,s,hi,e=>Az fun r _=>by
   by_cases e1:r<s
   . rw[if_pos e1]
   . rw[if_neg e1];by_cases e2:r=s
     . rw[if_pos e2,e2,show i=s by omega]
     . rw[if_neg e2,if_neg (by omega)]
 | d+1,n,i,s,hi,e=>by
   rw[←Vy f d (n:=n) (i:=i) (s:=s+1) hi (by omega)];refine P1 (p:=s) (q:=s+1) O9m O9m O9m (fun r _ h1 h2=>?_) ?_
   . by_cases e1:r<s
     . rw[if_pos e1,if_pos (by omega)]
     . rw[if_neg e1,if_neg h1,if_neg (show ¬r<s+1 by omega),if_neg h2]
   . rw[if_neg (by omega),if_pos rfl,if_neg (by omega),if_neg (by omega),if_pos (by omega),if_pos (by omega),if_neg (by omega),if_pos rfl];show f i+f (s+1-1)=f s+f i;rw[show s+1-1=s by omega];omega
theorem iZ{n:Nat}(B R:Mat){i s:Nat}(hi:i<n)(hs:s<=i)(a b:Nat):pT n (moveR B i s) (moveR R i s) a b=pT n B R a b:=by
 show Aq (fun k=>moveR B i s k a*moveR R i s k b) n=Aq (fun k=>B k a*R k b) n;rw[←Vy (fun k=>B k a*R k b) (i-s) (n:=n) (i:=i) (s:=s) hi (by omega)];refine Az fun r _=>?_;unfold moveR;split
 . rfl
 . split
   . rfl
   . split<;>rfl
noncomputable def pD(n w:Nat)(R B:Mat)(i j:Nat):Int:=Aq (fun c=>R i (w+c)*B j c) n
noncomputable def E4(n w:Nat)(R B:Mat):Prop:=∀i j,i<n->j<n->pD n w R B i j=if i=j then 1 else 0
noncomputable def dot(n w:Nat)(u v:Nat->Int):Int:=Aq (fun c=>u (w+c)*v c) n
theorem De(n w:Nat)(u v x:Nat->Int)(a b:Int):dot n w (fun c=>a*u c+b*v c) x=a*dot n w u x+b*dot n w v x:=by
 unfold dot;rw[←B9,←B9,←Dn];exact Az fun c _=>by rw[Int.add_mul,qe9,qe9]
theorem Fk(n w:Nat)(u x y:Nat->Int)(a b:Int):dot n w u (fun c=>a*x c+b*y c)=a*dot n w u x+b*dot n w u y:=by
 unfold dot;rw[←B9,←B9,←Dn];exact Az fun c _=>by grind
theorem Tj(n w:Nat)(R B:Mat)(i j:Nat):pD n w R B i j=dot n w (R i) (B j):=rfl
theorem Kc(R:Mat)(p q:Nat)(k:Int):addR R p q k p=fun c=>1*R p c+k*R q c:=funext fun c=>Cp ..
theorem addR_row_ne{R:Mat}{p q r:Nat}{k:Int}(h:r≠p):addR R p q k r=R r:=funext fun c=>C3 h c
theorem blend_row_p{R:Mat}{p q:Nat}(ne:p≠q)(a b c d:Int):blendR R p q a b c d p=fun k=>a*R p k+b*R q k:=funext fun k=>Fm ne a b c d k
theorem blend_row_q(R:Mat)(p q:Nat)(a b c d:Int):blendR R p q a b c d q=fun k=>c*R p k+d*R q k:=funext fun k=>Go R p q a b c d k
theorem blend_row_ne{R:Mat}{p q r:Nat}(h1:r≠p)(h2:r≠q)(a b c d:Int):blendR R p q a b c d r=R r:=funext fun k=>Df h1 h2 a b c d k
theorem E4.add{n w p q:Nat}{R B:Mat}(h:E4 n w R B)(hp:p<n)(hq:q<n)(ne:p≠q)(k:Int):E4 n w (addR R p q k) (addR B q p (-k)):=fun i j hi hj=>by
 have D:∀i j,i<n->j<n->dot n w (R i) (B j)=if i=j then 1 else 0:=h
 rw[Tj];by_cases e1:i=p
 . subst e1;rw[Kc];by_cases e2:j=q
   . subst e2;rw[Kc,Fk,De,De,D i j hi hj,D j j hj hj,D i i hi hi,D j i hj hi];rw[if_neg ne,if_pos rfl,if_pos rfl,if_neg (fun z=>ne z.symm)];omega
   . rw[addR_row_ne e2,De,D i j hi hj,D q j hq hj,show(if q=j then(1:Int) else 0)=0 from if_neg (fun z=>e2 z.symm)];omega
 . rw[addR_row_ne e1];by_cases e2:j=q
   . subst e2;rw[Kc,Fk,D i j hi hj,D i p hi hp,show(if i=p then(1:Int) else 0)=0 from if_neg e1];omega
   . rw[addR_row_ne e2];exact D i j hi hj
theorem E4.neg{n w p:Nat}{R B:Mat}(h:E4 n w R B)(hp:p<n):E4 n w (Fo R p) (Fo B p):=fun i j hi hj=>by
 have D:∀i j,i<n->j<n->dot n w (R i) (B j)=if i=j then 1 else 0:=h
 have s1:∀(R:Mat),Fo R p p=fun c=>-1*R p c+0*R p c:=fun R=>funext fun c=>by unfold Fo;rw[Bw];omega
 have s2:∀(R:Mat) {r:Nat},r≠p->Fo R p r=R r:=fun R r hr=>funext fun c=>Ca hr c;rw[Tj];by_cases e1:i=p
 . subst e1;by_cases e2:j=i
   . subst e2;rw[s1,s1,Fk,De,D j j hi hi];rw[if_pos rfl];omega
   . rw[s1,s2 B e2,De,D i j hi hj,if_neg (fun z=>e2 z.symm)];omega
 . by_cases e2:j=p
   . subst e2;rw[s1,s2 R e1,Fk,D i j hi hj,if_neg e1];omega
   . rw[s2 R e1,s2 B e2];exact D i j hi hj
theorem E4.blend{n w p q:Nat}{R B:Mat}(h:E4 n w R B)(hp:p<n)(hq:q<n)(ne:p≠q){a b c d:Int}(h1:a*d-b*c=1):E4 n w (blendR R p q a b c d) (blendR B p q d (-c) (-b) a):=fun i j hi hj=>by
 have D:∀i j,i<n->j<n->dot n w (R i) (B j)=if i=j then 1 else 0:=h
 have ne':q≠p:=fun z=>ne z.symm;rw[Tj];by_cases e1:i=p
 . subst e1;rw[blend_row_p ne];by_cases e2:j=i
   . subst e2;rw[blend_row_p ne,Fk,De,De,D j j hi hi,D q j hq hi,D j q hi hq,D q q hq hq]
     repeat (first | rw[if_pos rfl] | rw[if_neg ne] | rw[if_neg ne'])
     grind
   . by_cases e3:j=q
     . subst e3;rw[blend_row_q,Fk,De,De,D i i hi hi,D j i hq hi,D i j hi hq,D j j hq hq]
       repeat (first | rw[if_pos rfl] | rw[if_neg ne] | rw[if_neg ne'])
       grind
     . rw[blend_row_ne e2 e3,De,D i j hi hj,D q j hq hj,show(if i=j then(1:Int) else 0)=0 from if_neg (fun z=>e2 z.symm),show(if q=j then(1:Int) else 0)=0 from if_neg (fun z=>e3 z.symm)];omega
 . by_cases e4:i=q
   . subst e4;rw[blend_row_q];by_cases e2:j=p
     . subst e2;rw[blend_row_p ne,Fk,De,De,D j j hj hj,D i j hi hj,D j i hj hi,D i i hi hi]
       repeat (first | rw[if_pos rfl] | rw[if_neg ne] | rw[if_neg ne'])
       grind
     . by_cases e3:j=i
       . subst e3;rw[blend_row_q,Fk,De,De,D p p hp hp,D j p hi hp,D p j hp hi,D j j hi hi]
         repeat (first | rw[if_pos rfl] | rw[if_neg ne] | rw[if_neg ne'])
         grind
       . rw[blend_row_ne e2 e3,De,D p j hp hj,D i j hi hj,show(if p=j then(1:Int) else 0)=0 from if_neg (fun z=>e2 z.symm),show(if i=j then(1:Int) else 0)=0 from if_neg (fun z=>e3 z.symm)];omega
   . rw[blend_row_ne e1 e4];by_cases e2:j=p
     . subst e2;rw[blend_row_p ne,Fk,D i j hi hj,D i q hi hq,show(if i=j then(1:Int) else 0)=0 from if_neg e1,show(if i=q then(1:Int) else 0)=0 from if_neg e4];omega
     . by_cases e3:j=q
       . subst e3;rw[blend_row_q,Fk,D i p hi hp,D i j hi hj,show(if i=p then(1:Int) else 0)=0 from if_neg e1,show(if i=j then(1:Int) else 0)=0 from if_neg e4];omega
       . rw[blend_row_ne e2 e3];exact D i j hi hj
noncomputable def mvI(i s r:Nat):Nat:=if r<s then r else if r=s then i else if r<=i then r-1 else r
theorem move_row(R:Mat)(i s r:Nat):moveR R i s r=R (mvI i s r):=by
 funext c
 unfold moveR mvI;split
 . rfl
 . split
   . rfl
   . split<;>rfl
theorem E4.move{n w i s:Nat}{R B:Mat}(h:E4 n w R B)(hi:i<n)(hs:s<=i):E4 n w (moveR R i s) (moveR B i s):=fun x y hx hy=>by
 rw[Tj,move_row,move_row];have l:∀r,r<n->mvI i s r<n:=fun r hr=>by unfold mvI;split;omega;split;omega;split<;>omega
 have:=h _ _ (l x hx) (l y hy);rw[Tj]at this;rw[this]
 have inj:(mvI i s x=mvI i s y)↔x=y:=by
  constructor
  . intro e;unfold mvI at e;by_cases a1:x<s<;>by_cases a2:x=s<;>by_cases a3:x<=i<;>by_cases b1:y<s<;>by_cases b2:y=s<;>by_cases b3:y<=i<;>simp only[a1,a2,a3,b1,b2,b3,if_true,if_false]at e<;>first | omega | (subst_vars;simp_all;try omega)
  . intro e;rw[e]
 by_cases e:x=y
 . rw[if_pos e,if_pos (inj.mpr e)]
 . rw[if_neg e,if_neg fun z=>e (inj.mp z)]
structure Good(n W w lo:Nat)(R B R' B':Mat):Prop where
 eqv:∀m,lo<=m->EV W m R R'
 det:∀m,lo<=m->En m R R'
 pt:∀a b,pT n B' R' a b=pT n B R a b
 dual:E4 n w R B->E4 n w R' B'
 rest:∀r c,lo<=r->R' r c=R r c
 restB:∀r c,lo<=r->B' r c=B r c
theorem Good.refl(n W w lo:Nat)(R B:Mat):Good n W w lo R B R B:=⟨fun m _=>EV.refl W m R,fun m _=>En.refl m R,fun _ _=>rfl,id,fun _ _ _=>rfl,fun _ _ _=>rfl⟩
theorem Good.trans{n W w lo:Nat}{R B R' B' S C:Mat}(h1:Good n W w lo R B R' B')(h2:Good n W w lo R' B' S C):Good n W w lo R B S C :=
 ⟨fun m hm=>(h1.eqv m hm).trans (h2.eqv m hm),fun m hm=>(h1.det m hm).trans (h2.det m hm),fun a b=>(h2.pt a b).trans (h1.pt a b),fun d=>h2.dual (h1.dual d),fun r c hr=>(h2.rest r c hr).trans (h1.rest r c hr),fun r c hr=>(h2.restB r c hr).trans (h1.restB r c hr)⟩
theorem Good.mono{n W w lo lo':Nat}{R B R' B':Mat}(h:Good n W w lo R B R' B')(hl:lo<=lo'):Good n W w lo' R B R' B':=⟨fun m hm=>h.eqv m O9m,fun m hm=>h.det m O9m,h.pt,h.dual,fun r c hr=>h.rest r c O9m,fun r c hr=>h.restB r c O9m⟩
theorem Good.add{n W w lo p q:Nat}(R B:Mat)(hp:p<lo)(hq:q<lo)(hn:lo<=n)(ne:p≠q)(k:Int):Good n W w lo R B (addR R p q k) (addR B q p (-k)) :=
 ⟨fun m hm=>JX R O9m O9m ne k,fun m hm=>jY R O9m O9m ne k,fun a b=>v9 B R O9m O9m ne k a b,fun d=>d.add O9m O9m ne k,fun r c hr=>C3 O9m c,fun r c hr=>C3 O9m c⟩
theorem Good.neg{n W w lo p:Nat}(R B:Mat)(hp:p<lo)(hn:lo<=n):Good n W w lo R B (Fo R p) (Fo B p) :=
 ⟨fun m hm=>jF R O9m,fun m hm=>jG R O9m,fun a b=>MB B R a b,fun d=>d.neg O9m,fun r c hr=>Ca O9m c,fun r c hr=>Ca O9m c⟩
theorem Good.blend{n W w lo p q:Nat}(R B:Mat)(hp:p<lo)(hq:q<lo)(hn:lo<=n)(ne:p≠q){a b c d:Int}(h:a*d-b*c=1):Good n W w lo R B (blendR R p q a b c d) (blendR B p q d (-c) (-b) a) :=
 ⟨fun m hm=>eK R O9m O9m ne h,fun m hm=>EK R O9m O9m ne h,fun x y=>Z7 B R O9m O9m ne h x y,fun e=>e.blend O9m O9m ne h,fun r c hr=>Df O9m O9m _ _ _ _ c,fun r c hr=>Df O9m O9m _ _ _ _ c⟩
theorem Good.move{n W w lo i s:Nat}(R B:Mat)(hi:i<lo)(hs:s<=i)(hn:lo<=n):Good n W w lo R B (moveR R i s) (moveR B i s) :=
 ⟨fun m hm=>gB R O9m hs,fun m hm=>c8 (i-s) R O9m O9m,fun a b=>iZ B R O9m hs a b,fun d=>d.move O9m hs,fun r c hr=>by
  rw[move_row];unfold mvI;rw[if_neg (by omega),if_neg (by omega),if_neg (by omega)],fun r c hr=>by
  rw[move_row];unfold mvI;rw[if_neg (by omega),if_neg (by omega),if_neg (by omega)]⟩
theorem E4.row{n w i:Nat}{R B:Mat}(h:E4 n w R B)(hi:i<n):∃c,c<n/\R i (w+c)≠0:=by
 refine qe6 fun z=>?_;have e:=h i i hi hi;rw[if_pos rfl]at e;unfold pD at e;rw[B6 fun c hc=>?_]at e
 . cases e
 . have:R i (w+c)=0:=qe6 fun y=>z ⟨c,hc,y⟩;rw[this];simp
theorem bS{x h:Int}{K:Nat}(hh:0<h)(hx:x.natAbs<=K*h.natAbs):(x / h).natAbs<=K:=by
 have e:(h.natAbs:Int)=h:=O9m
 have hx':(x.natAbs:Int)<=(K:Int)*h:=by rw[←e];exact_mod_cast hx
 have u1:x / h<=(K:Int):=by
  have:x<=(K:Int)*h:=O9m
  exact Int.ediv_le_of_le_mul hh this
 have u2:-(K:Int)<=x / h:=by
  refine(Int.le_ediv_iff_mul_le hh).mpr ?_;rw[ql6];omega
 omega
structure Ol(R:Mat)(t:Nat->Nat)(f m:Nat):Prop where
 inc:∀j k,f<=j->j<k->k<m->t j<t k
 zero:∀j c,f<=j->j<m->c<t j->R j c=0
 pos:∀j,f<=j->j<m->0<R j (t j)
 red:∀k j,f<=k->k<j->j<m->0<=R k (t j)/\R k (t j)<R j (t j)
structure eV(n W w lo:Nat)(R B:Mat)(t:Nat->Nat)(p f m j μ:Nat)(R' B':Mat):Prop where
 good:Good n W w lo R B R' B'
 same:∀r c,r≠p->R' r c=R r c
 left:∀c,(∀l,f<=l->l<m->c<t l)->R' p c=R p c
 red:∀l,f<=l->l<j->0<=R' p (t l)/\R' p (t l)<R l (t l)
 rel:∀l,j<=l->l<m->(R' p (t l)).natAbs<=2 ^ (j-f)*μ*(R l (t l)).natAbs
 ins:∀W',∃v:Nat->Int,In W' lo R v/\∀c,R' p c=R p c+v c
theorem eV.start{n W w lo:Nat}{R B:Mat}{t:Nat->Nat}{p f m μ:Nat}(h:∀l,f<=l->l<m->(R p (t l)).natAbs<=μ*(R l (t l)).natAbs):eV n W w lo R B t p f m f μ R B :=
 ⟨Good.refl ..,fun _ _ _=>rfl,fun _ _=>rfl,fun l h1 h2=>O9m,fun l h1 h2=>by rw[ql9,Nat.pow_zero,qd1];exact h l h1 h2,fun W'=>⟨fun _=>0,In.zero W' lo R,fun c=>by show R p c=R p c+0;omega⟩⟩
theorem W0(R:Mat)(p q:Nat):addR R p q 0=R:=by
 funext r c
 by_cases e:r=p
 . subst e;rw[Cp];omega
 . exact C3 e c
theorem eV.step{n W w lo:Nat}{R B R' B':Mat}{t:Nat->Nat}{p f m j μ:Nat}(h:eV n W w lo R B t p f m j μ R' B')(P:Ol R t f m)(hf:f<=j)(hj:j<m)(hp:p<lo)(hm:m<=lo)(hn:lo<=n)(hpf:p<f\/m<=p) :
 (R' p (t j) / R j (t j)).natAbs<=2 ^ (j-f)*μ/\eV n W w lo R B t p f m (j+1) μ (addR R' p j (-(R' p (t j) / R j (t j)))) (addR B' j p (R' p (t j) / R j (t j))):=by
 have hh:=P.pos j hf hj;have ne:p≠j:=O9m
 have q1:=bS hh (h.rel j (qa0 _) hj);refine⟨q1,?_⟩;generalize hq:R' p (t j) / R j (t j)=q at q1;have rj:∀c,R' j c=R j c:=fun c=>h.same j c (fun z=>ne z.symm);refine⟨h.good.trans ?_,fun r c hr=>?_,fun c hc=>?_,fun l h1 h2=>?_,fun l h1 h2=>?_,fun W'=>?_⟩
 . have:=Good.add (n:=n) (W:=W) (w:=w) (lo:=lo) R' B' hp (show j<lo by omega) hn ne (-q);rw[qk6]at this;exact this
 . rw[C3 hr];exact h.same r c hr
 . rw[Cp,h.left c hc,rj,P.zero j c hf hj (hc j hf hj)];simp
 . rw[Cp,rj];by_cases e:l=j
   . subst e;have d1:=ql0 (R' p (t l)) (show R l (t l)≠0 by omega);have d2:=qn0 (R' p (t l)) hh;have d3:=Int.mul_ediv_add_emod (R' p (t l)) (R l (t l));rw[hq]at d3;have d4:R l (t l)*q=q*R l (t l):=qe7 ..;rw[ql6];omega
   . have z:R j (t l)=0:=P.zero j _ hf hj (P.inc l j h1 O9m hj);rw[z,qi0,Int.add_zero,qc0];exact h.red l h1 O9m
 . rw[Cp,rj];have a:=h.rel l O9m h2;obtain⟨b1,b2⟩:=P.red j l hf O9m h2;have b:(R j (t l)).natAbs<=(R l (t l)).natAbs:=O9m
   have c:=qd0 (1*R' p (t l)) (-q*R j (t l));rw[qc0]at c;rw[qc0]
   have d:(-q*R j (t l)).natAbs<=2 ^ (j-f)*μ*(R l (t l)).natAbs:=by
    rw[qa9,qb4];exact qd9 q1 b
   rw[show j+1-f=(j-f)+1 by omega,qg7];have e:2 ^ (j-f)*2*μ*(R l (t l)).natAbs=2 ^ (j-f)*μ*(R l (t l)).natAbs+2 ^ (j-f)*μ*(R l (t l)).natAbs:=by grind
   omega
 . obtain⟨v,hv,hc⟩:=h.ins W';refine⟨fun c=>1*v c+(-q)*R j c,hv.mix (In.row O9m) 1 (-q),fun c=>?_⟩;rw[Cp,hc c,rj]
   grind
noncomputable def Bits(n W b:Nat)(R:Mat):Prop:=∀r c,r<n->c<W->(R r c).natAbs<2 ^ b
theorem n0{x y a k:Int}{b c:Nat}(hx:x.natAbs<2 ^ b)(hy:y.natAbs<2 ^ b)(ha:a.natAbs<2 ^ c)(hk:k.natAbs<2 ^ c):(a*x+k*y).natAbs<2 ^ (b+c+1):=by
 have e:=qd0 (a*x) (k*y);rw[qa9,qa9]at e;have u:a.natAbs*x.natAbs<2 ^ (c+b):=by rw[qc7];exact qm0 ha hx
 have v:k.natAbs*y.natAbs<2 ^ (c+b):=by rw[qc7];exact qm0 hk hy
 rw[show b+c+1=(c+b)+1 by omega,qg7];omega
theorem Bits.mono{n W b b':Nat}{R:Mat}(h:Bits n W b R)(hb:b<=b'):Bits n W b' R:=fun r c hr hc=>qa6 (h r c hr hc) (qe1 (by decide) hb)
theorem Bits.add{n W b c p q:Nat}{R:Mat}(h:Bits n W b R)(hp:p<n)(hq:q<n){k:Int}(hk:k.natAbs<2 ^ c):Bits n W (b+c+1) (addR R p q k):=fun r x hr hx=>by
 by_cases e:r=p
 . subst e;rw[Cp]
   have h1:(1:Int).natAbs<2 ^ (c+1):=by
    have:1<=2 ^ c:=qg9;rw[qg7];show 1<_;omega
   have e1:=qd0 (1*R r x) (k*R q x);rw[qc0,qa9]at e1;rw[qc0];have u:k.natAbs*(R q x).natAbs<2 ^ (c+b):=by rw[qc7];exact qm0 hk (h q x hq hx)
   have v:(R r x).natAbs<2 ^ (c+b):=qa6 (h r x hr hx) (qe1 (by decide) O9m);rw[show b+c+1=(c+b)+1 by omega,qg7];omega
 . rw[C3 e];exact qa6 (h r x hr hx) (qe1 (by decide) O9m)
theorem Bits.blend{n W b e p q:Nat}{R:Mat}(h:Bits n W b R)(hp:p<n)(hq:q<n)(ne:p≠q){x y z u:Int}(hx:x.natAbs<2 ^ e)(hy:y.natAbs<2 ^ e)(hz:z.natAbs<2 ^ e)(hu:u.natAbs<2 ^ e):Bits n W (b+e+1) (blendR R p q x y z u):=fun r c hr hc=>by
 by_cases e1:r=p
 . subst e1;rw[Fm ne];exact n0 (h r c hr hc) (h q c hq hc) hx hy
 . by_cases e2:r=q
   . subst e2;rw[Go];exact n0 (h p c hp hc) (h r c hr hc) hz hu
   . rw[Df e1 e2];exact qa6 (h r c hr hc) (qe1 (by decide) O9m)
theorem Bits.neg{n W b p:Nat}{R:Mat}(h:Bits n W b R):Bits n W b (Fo R p):=fun r c hr hc=>by
 unfold Fo;by_cases e:r=p
 . subst e;rw[Bw,qb4];exact h r c hr hc
 . rw[Ca e];exact h r c hr hc
theorem Bits.move{n W b i s:Nat}{R:Mat}(h:Bits n W b R)(hi:i<n)(hs:s<=i):Bits n W b (moveR R i s):=fun r c hr hc=>by
 rw[move_row];exact h _ c (by unfold mvI;split;omega;split;omega;split<;>omega) hc
structure C9(n W w i:Nat)(G:Nat->Prop)(R0 B0:Mat)(t:Nat->Nat)(π b:Nat)(spot:Nat)(R B:Mat):Prop where
 good:Good n W w (i+1) R0 B0 R B
 zero:∀j c,j<i->c<t j->R j c=0
 pos:∀j,j<i->0<R j (t j)
 old:∀j c,spot<=j->j<i->R j c=R0 j c
 pass:∀j c,j<spot->c<=t j->R i c=0
 pv:∀l,spot<=l->l<i->(R i (t l)).natAbs<=2 ^ π
 gc:∀r c,r<=i->G c->(R r c).natAbs<=2 ^ (b+i+3+2*π+spot*(π+1))
structure Hj(n W w i:Nat)(G:Nat->Prop)(R0 B0:Mat)(t:Nat->Nat)(π b:Nat):Prop where
 hi:i<n
 part:Ol R0 t 0 i
 lt:∀j,j<i->t j<W
 hd:∀j,j<i->(R0 j (t j)).natAbs<=2 ^ π
 rw:∀r c,r<i->G c->(R0 r c).natAbs<=2 ^ b
 ri:∀c,G c->(R0 i c).natAbs<=2 ^ b
 rp:∀l,l<i->(R0 i (t l)).natAbs<=2 ^ π
theorem Ol.sub{R:Mat}{t:Nat->Nat}{f f' m:Nat}(h:Ol R t f m)(hf:f<=f'):Ol R t f' m:=⟨fun j k h1=>h.inc j k O9m,fun j c h1=>h.zero j c O9m,fun j h1=>h.pos j O9m,fun k j h1=>h.red k j O9m⟩
theorem Ol.congr{R R':Mat}{t:Nat->Nat}{f m:Nat}(h:Ol R t f m)(e:∀j c,f<=j->j<m->R' j c=R j c):Ol R' t f m :=
 ⟨h.inc,fun j c h1 h2 h3=>by rw[e j c h1 h2];exact h.zero j c h1 h2 h3,fun j h1 h2=>by rw[e j _ h1 h2];exact h.pos j h1 h2,fun k j h1 h2 h3=>by rw[e k _ h1 (by omega),e j _ (by omega) h3];exact h.red k j h1 h2 h3⟩
theorem C9.start{n W w i:Nat}{G:Nat->Prop}{R0 B0:Mat}{t:Nat->Nat}{π b:Nat}(h:Hj n W w i G R0 B0 t π b):C9 n W w i G R0 B0 t π b 0 R0 B0:=by
 refine⟨Good.refl ..,fun j c hj hc=>h.part.zero j c (qa8 _) hj hc,fun j hj=>h.part.pos j (qa8 _) hj,fun _ _ _ _=>rfl,fun j c hj=>O9m,fun l _ hl=>h.rp l hl,fun r c hr hc=>?_⟩;have e:2 ^ b<=2 ^ (b+i+3+2*π+0*(π+1)):=qe1 (by decide) O9m;by_cases z:r=i
 . subst z;exact qa1 (h.ri c hc) e
 . exact qa1 (h.rw r c O9m hc) e
theorem C9.skip{n W w i:Nat}{G:Nat->Prop}{R0 B0 R B:Mat}{t:Nat->Nat}{π b spot:Nat}(h:C9 n W w i G R0 B0 t π b spot R B)(hz:∀c,c<=t spot->R i c=0):C9 n W w i G R0 B0 t π b (spot+1) R B:=by
 refine⟨h.good,h.zero,h.pos,fun j c hj=>h.old j c O9m,fun j c hj hc=>?_,fun l hl=>h.pv l O9m,fun r c hr hc=>qa1 (h.gc r c hr hc) (qe1 (by decide) ?_)⟩
 . by_cases e:j=spot
   . subst e;exact hz c hc
   . exact h.pass j c O9m hc
 . rw[qd4];omega
structure Us(n W w i:Nat)(G:Nat->Prop)(R B:Mat)(t:Nat->Nat)(b p spot μ:Nat)(R' B':Mat):Prop where
 good:Good n W w (i+1) R B R' B'
 same:∀r c,r≠p->R' r c=R r c
 left:∀c,c<=t spot->R' p c=R p c
 red:∀l,spot<l->l<i->0<=R' p (t l)/\R' p (t l)<R l (t l)
 gc:∀c,G c->(R' p c).natAbs<=(R p c).natAbs+2 ^ (i-(spot+1))*μ*2 ^ b
structure Vr(n W w i:Nat)(G:Nat->Prop)(R B:Mat)(t:Nat->Nat)(b p spot μ j:Nat)(R' B':Mat):Prop where
 s:eV n W w (i+1) R B t p (spot+1) i j μ R' B'
 gc:∀c,G c->(R' p c).natAbs+μ*2 ^ b<=(R p c).natAbs+2 ^ (j-(spot+1))*μ*2 ^ b
theorem Vr.start{n W w i:Nat}{G:Nat->Prop}{R B:Mat}{t:Nat->Nat}{b p spot μ:Nat}(h:∀l,spot<l->l<i->(R p (t l)).natAbs<=μ*(R l (t l)).natAbs):Vr n W w i G R B t b p spot μ (spot+1) R B :=
 ⟨eV.start fun l h1 h2=>h l O9m h2,fun c _=>by rw[ql9,Nat.pow_zero,qd1];exact qa0 _⟩
theorem Vr.step{n W w i:Nat}{G:Nat->Prop}{R B R' B':Mat}{t:Nat->Nat}{b p spot μ j:Nat}(h:Vr n W w i G R B t b p spot μ j R' B')(P:Ol R t (spot+1) i)(hG:∀r c,spot<r->r<i->G c->(R r c).natAbs<=2 ^ b)(hf:spot<j)(hj:j<i)(hn:i<n)(hp:p<=spot\/p=i) :
 (R' p (t j) / R j (t j)).natAbs<=2 ^ i*μ/\Vr n W w i G R B t b p spot μ (j+1) (addR R' p j (-(R' p (t j) / R j (t j)))) (addR B' j p (R' p (t j) / R j (t j))):=by
 obtain⟨q,s⟩:=h.s.step P O9m hj O9m O9m O9m O9m;refine⟨qa1 q (qb1 _ (qe1 (by decide) O9m)),s,fun c hc=>?_⟩;have ne:p≠j:=O9m
 rw[Cp,h.s.same j c (fun z=>ne z.symm)];have a:=h.gc c hc;have e:=qd0 (1*R' p c) (-(R' p (t j) / R j (t j))*R j c);rw[qc0,qa9,qb4]at e;rw[qc0];have m:=qd9 q (hG j c hf hj hc);rw[show j+1-(spot+1)=(j-(spot+1))+1 by omega,qg7];have z:2 ^ (j-(spot+1))*2*μ*2 ^ b=2 ^ (j-(spot+1))*μ*2 ^ b+2 ^ (j-(spot+1))*μ*2 ^ b:=by grind
 omega
theorem Vr.done{n W w i:Nat}{G:Nat->Prop}{R B R' B':Mat}{t:Nat->Nat}{b p spot μ:Nat}(h:Vr n W w i G R B t b p spot μ i R' B')(P:∀l,spot<l->l<i->t spot<t l):Us n W w i G R B t b p spot μ R' B' :=
 ⟨h.s.good,h.s.same,fun c hc=>h.s.left c fun l h1 h2=>by have:=P l O9m h2;omega,fun l h1 h2=>h.s.red l O9m h2,fun c hc=>by have:=h.gc c hc;omega⟩
theorem C5{a b:Nat}(h:a<=b):2 ^ a<=2 ^ b:=qe1 (by decide) h
theorem jH{x y a b:Nat}(hx:x<=2 ^ a)(hy:y<=2 ^ b):x*y<=2 ^ (a+b):=by rw[qc7];exact qd9 hx hy
theorem C9.addPre{n W w i:Nat}{G:Nat->Prop}{R0 B0 R B:Mat}{t:Nat->Nat}{π b spot:Nat}(H:Hj n W w i G R0 B0 t π b)(h:C9 n W w i G R0 B0 t π b spot R B)(hs:spot<i){q:Int}(hq:q.natAbs<=2 ^ π) :
 ∀l,spot<l->l<i->(addR R i spot (-q) i (t l)).natAbs<=2 ^ (π+1)*(addR R i spot (-q) l (t l)).natAbs:=fun l h1 h2=>by
 rw[Cp,C3 (show l≠i by omega)];obtain⟨r0,r1⟩:=H.part.red spot l (qa8 _) h1 h2;rw[←h.old spot _ (qa0 _) hs,←h.old l _ (by omega) h2]at r1;rw[←h.old spot _ (qa0 _) hs]at r0;have p:=h.pos l h2;have a:=h.pv l O9m h2;have e:=qd0 (1*R i (t l)) (-q*R spot (t l));rw[qc0,qa9,qb4]at e;rw[qc0];have m:q.natAbs*(R spot (t l)).natAbs<=2 ^ π*(R l (t l)).natAbs:=qd9 hq O9m;have m2:2 ^ π*1<=2 ^ π*(R l (t l)).natAbs:=qd2 _ O9m;rw[qg7];have z:2 ^ π*2*(R l (t l)).natAbs=2 ^ π*(R l (t l)).natAbs+2 ^ π*(R l (t l)).natAbs:=by grind
 omega
theorem C9.metAdd{n W w i:Nat}{G:Nat->Prop}{R0 B0 R B R2 B2:Mat}{t:Nat->Nat}{π b spot:Nat}(H:Hj n W w i G R0 B0 t π b)(h:C9 n W w i G R0 B0 t π b spot R B)(hs:spot<i){q:Int}(hq:q.natAbs<=2 ^ π)(hz:∀c,c<t spot->R i c=0)(he:R i (t spot)=q*R spot (t spot))
 (S:Us n W w i G (addR R i spot (-q)) (addR B spot i q) t b i spot (2 ^ (π+1)) R2 B2):C9 n W w i G R0 B0 t π b (spot+1) R2 B2:=by
 have ne:i≠spot:=O9m
 have keep:∀r c,r≠i->R2 r c=R r c:=fun r c hr=>by rw[S.same r c hr,C3 hr]
 refine⟨?_,fun j c hj hc=>by rw[keep j c (by omega)];exact h.zero j c hj hc,fun j hj=>by rw[keep j _ (by omega)];exact h.pos j hj,fun j c hj hji=>by rw[keep j c (by omega)];exact h.old j c O9m hji,fun j c hj hc=>?_,fun l h1 h2=>?_,fun r c hr hc=>?_⟩
 . have g:=Good.add (n:=n) (W:=W) (w:=w) (lo:=i+1) R B (show i<i+1 by omega) (show spot<i+1 by omega) H.hi ne (-q);rw[qk6]at g;exact(h.good.trans g).trans S.good
 . have ts:c<=t spot:=by
    by_cases e:j=spot
    . rw[←e];exact hc
    . have:=H.part.inc j spot (qa8 _) O9m hs;omega
   rw[S.left c ts,Cp];by_cases e:c=t spot
   . rw[e,he,qc0,ql6];omega
   . rw[hz c (by omega),h.zero spot c hs (by omega)];simp
 . obtain⟨a,c⟩:=S.red l O9m h2;rw[C3 (show l≠i by omega)]at c;have d:=H.hd l h2;rw[←h.old l _ (by omega) h2]at d;omega
 . have zb:b+i+3+2*π+(spot+1)*(π+1)=(b+i+3+2*π+spot*(π+1))+π+1:=by rw[qd4];omega
   rw[zb];generalize hz2:b+i+3+2*π+spot*(π+1)=z;have XH:b+i+3+2*π<=z:=by rw[←hz2];exact qc4 _ _
   by_cases e:r=i
   . subst e;have a:=S.gc c hc;have g:=h.gc r c (qa0 _) hc;rw[hz2]at g;have rs:(R spot c).natAbs<=2 ^ b:=by rw[h.old spot c (qa0 _) hs];exact H.rw spot c hs hc
     have e1:=qd0 (1*R r c) (-q*R spot c);rw[qc0,qa9,qb4]at e1;rw[Cp,qc0]at a;have m1:=jH hq rs
     have m2:2 ^ (r-(spot+1))*2 ^ (π+1)*2 ^ b<=2 ^ (z-2):=by
      rw[←qc7,←qc7];exact C5 O9m
     have m3:2 ^ (π+b)<=2 ^ (z-2):=C5 O9m;have m4:4*2 ^ (z-2)=2 ^ z:=by rw[show z=(z-2)+2 by omega,qc7];simp;try omega
     have m5:2*2 ^ z<=2 ^ (z+π+1):=by rw[show z+π+1=1+(z+π) by omega,qc7];exact qd9 (by decide) (C5 O9m)
     omega
   . rw[keep r c e];have g:=h.gc r c hr hc;rw[hz2]at g;exact qa1 g (C5 O9m)
structure cC(π:Nat)(h0 o0 x y z u:Int):Prop where
 one:x*u-y*z=1
 hd:0<x*h0+y*o0
 ot:z*h0+u*o0=0
 lx:x.natAbs<=2 ^ π
 ly:y.natAbs<=2 ^ π
 lz:z.natAbs<=2 ^ π
 lu:u.natAbs<=2 ^ π
theorem bL{x y a c:Int}{π h:Nat}(hx:x.natAbs<=2 ^ π)(hy:y.natAbs<=2 ^ π)(ha:a.natAbs<=h)(hc:c.natAbs<=2 ^ π)(h1:1<=h):(x*a+y*c).natAbs<=2 ^ (2*π+1)*h:=by
 have e:=qd0 (x*a) (y*c);rw[qa9,qa9]at e;have m1:x.natAbs*a.natAbs<=2 ^ (2*π)*h:=qd9 (qa1 hx (C5 O9m)) ha;have m2:y.natAbs*c.natAbs<=2 ^ (2*π)*h:=qa1 (jH hy hc) (by rw[show π+π=2*π by omega];exact qk9 _ h1);rw[qg7];have z:2 ^ (2*π)*2*h=2 ^ (2*π)*h+2 ^ (2*π)*h:=by grind
 omega
theorem C9.blendPre{n W w i:Nat}{G:Nat->Prop}{R0 B0 R B:Mat}{t:Nat->Nat}{π b spot:Nat}(H:Hj n W w i G R0 B0 t π b)(h:C9 n W w i G R0 B0 t π b spot R B)(hs:spot<i){x y z u:Int}(e:cC π (R spot (t spot)) (R i (t spot)) x y z u) :
 (∀l,spot<l->l<i->(blendR R spot i x y z u spot (t l)).natAbs<=2 ^ (2*π+1)*(blendR R spot i x y z u l (t l)).natAbs)/\(∀l,spot<l->l<i->(blendR R spot i x y z u i (t l)).natAbs<=2 ^ (2*π+1)*(blendR R spot i x y z u l (t l)).natAbs):=by
 have ne:spot≠i:=O9m
 have base:∀l,spot<l->l<i->(R spot (t l)).natAbs<=(R l (t l)).natAbs/\1<=(R l (t l)).natAbs:=fun l h1 h2=>by
  obtain⟨r0,r1⟩:=H.part.red spot l (qa8 _) h1 h2;rw[←h.old spot _ (qa0 _) hs,←h.old l _ (by omega) h2]at r1;rw[←h.old spot _ (qa0 _) hs]at r0;have p:=h.pos l h2;omega
 refine⟨fun l h1 h2=>?_,fun l h1 h2=>?_⟩
 . rw[Fm ne,Df (show l≠spot by omega) (show l≠i by omega)];exact bL e.lx e.ly (base l h1 h2).1 (h.pv l O9m h2) (base l h1 h2).2
 . rw[Go,Df (show l≠spot by omega) (show l≠i by omega)];exact bL e.lz e.lu (base l h1 h2).1 (h.pv l O9m h2) (base l h1 h2).2
theorem C9.metBlend{n W w i:Nat}{G:Nat->Prop}{R0 B0 R B R2 B2 R3 B3:Mat}{t:Nat->Nat}{π b spot:Nat}(H:Hj n W w i G R0 B0 t π b)(h:C9 n W w i G R0 B0 t π b spot R B)(hs:spot<i){x y z u:Int}(e:cC π (R spot (t spot)) (R i (t spot)) x y z u)(hz:∀c,c<t spot->R i c=0)
 (S1:Us n W w i G (blendR R spot i x y z u) (blendR B spot i u (-z) (-y) x) t b spot spot (2 ^ (2*π+1)) R2 B2) (S2:Us n W w i G R2 B2 t b i spot (2 ^ (2*π+1)) R3 B3):C9 n W w i G R0 B0 t π b (spot+1) R3 B3:=by
 have ne:spot≠i:=O9m
 have keep:∀r c,r≠i->r≠spot->R3 r c=R r c:=fun r c h1 h2=>by rw[S2.same r c h1,S1.same r c h2,Df h2 h1]
 have rs:∀c,R3 spot c=R2 spot c:=fun c=>S2.same spot c ne;have uY:∀c,R2 i c=z*R spot c+u*R i c:=fun c=>by rw[S1.same i c (fun w=>ne w.symm),Go]
 have gz:∀c,c<t spot->R spot c=0:=fun c hc=>h.zero spot c hs hc;refine⟨?_,fun j c hj hc=>?_,fun j hj=>?_,fun j c hj hji=>by rw[keep j c (by omega) (by omega)];exact h.old j c O9m hji,fun j c hj hc=>?_,fun l h1 h2=>?_,fun r c hr hc=>?_⟩
 . have g:=Good.blend (n:=n) (W:=W) (w:=w) (lo:=i+1) R B (show spot<i+1 by omega) (show i<i+1 by omega) H.hi ne e.one;exact((h.good.trans g).trans S1.good).trans S2.good
 . by_cases e1:j=spot
   . subst e1;rw[rs,S1.left c (by omega),Fm ne,gz c hc,hz c hc];simp
   . rw[keep j c (by omega) e1];exact h.zero j c hj hc
 . by_cases e1:j=spot
   . subst e1;rw[rs,S1.left _ (qa0 _),Fm ne];exact e.hd
   . rw[keep j _ (by omega) e1];exact h.pos j hj
 . have ts:c<=t spot:=by
    by_cases e1:j=spot
    . rw[←e1];exact hc
    . have:=H.part.inc j spot (qa8 _) O9m hs;omega
   rw[S2.left c ts,uY];by_cases e1:c=t spot
   . rw[e1];exact e.ot
   . rw[hz c (by omega),gz c (by omega)];simp
 . obtain⟨a,c⟩:=S2.red l O9m h2;rw[S1.same l _ (by omega),Df (show l≠spot by omega) (show l≠i by omega)]at c;have d:=H.hd l h2;rw[←h.old l _ (by omega) h2]at d;omega
 . have zb:b+i+3+2*π+(spot+1)*(π+1)=(b+i+3+2*π+spot*(π+1))+π+1:=by rw[qd4];omega
   rw[zb];have g0:=h.gc spot c O9m hc;have gi:=h.gc i c (qa0 _) hc;have gr:=h.gc r c hr hc;generalize hz2:b+i+3+2*π+spot*(π+1)=zz at g0 gi gr;have XH:b+i+3+2*π<=zz:=by rw[←hz2];exact qc4 _ _
   have wR:(R spot c).natAbs<=2 ^ b:=by rw[h.old spot c (qa0 _) hs];exact H.rw spot c hs hc
   have bnd:∀{x y:Int},x.natAbs<=2 ^ π->y.natAbs<=2 ^ π->(x*R spot c+y*R i c).natAbs+2 ^ (i-(spot+1))*2 ^ (2*π+1)*2 ^ b<=2 ^ (zz+π+1):=fun {x y} hx hy=>by
    have e1:=qd0 (x*R spot c) (y*R i c);rw[qa9,qa9]at e1;have m1:=jH hx wR;have m2:=jH hy gi
    have m3:2 ^ (i-(spot+1))*2 ^ (2*π+1)*2 ^ b<=2 ^ (zz-2):=by
     rw[←qc7,←qc7];exact C5 O9m
    have m4:2 ^ (π+b)<=2 ^ (zz-2):=C5 O9m;have m5:4*2 ^ (zz-2)=2 ^ zz:=by rw[show zz=(zz-2)+2 by omega,qc7];simp;try omega
    have m6:2 ^ zz<=2 ^ (π+zz):=C5 O9m;have m7:2 ^ (zz+π+1)=2*2 ^ (π+zz):=by rw[show zz+π+1=1+(π+zz) by omega,qc7,Nat.pow_one]
    omega
   by_cases e1:r=i
   . subst e1;have a:=S2.gc c hc;rw[uY]at a;exact qa1 a (bnd e.lz e.lu)
   . by_cases e2:r=spot
     . subst e2;have a:=S1.gc c hc;rw[Fm ne]at a;rw[rs];exact qa1 a (bnd e.lx e.ly)
     . rw[keep r c e1 e2];exact qa1 gr (C5 O9m)
noncomputable def insT(t:Nat->Nat)(s st:Nat):Nat->Nat:=fun r=>if r<s then t r else if r=s then st else t (r-1)
structure kC(n W w i:Nat)(G:Nat->Prop)(R0 B0:Mat)(t1:Nat->Nat)(Y:Nat)(R B:Mat):Prop where
 good:Good n W w (i+1) R0 B0 R B
 s0:Gi (i+1) R t1
 lt:∀j,j<=i->t1 j<W
 pg:∀j,j<=i->G (t1 j)
 gc:∀r c,r<=i->G c->(R r c).natAbs<=2 ^ Y
theorem C9.ins{n W w i:Nat}{G:Nat->Prop}{R0 B0 R B:Mat}{t:Nat->Nat}{π b spot st:Nat}(H:Hj n W w i G R0 B0 t π b)(h:C9 n W w i G R0 B0 t π b spot R B)(hs:spot<=i)(h0:∀c,c<st->R i c=0)(h1:R i st≠0)(hW:st<W)(hG:G st)(NP:∀j,j<i->G (t j))(hex:spot<i->st<t spot) :
 kC n W w i G R0 B0 (insT t spot st) (b+i+3+2*π+i*(π+1)) (if moveR R i spot spot st<0 then Fo (moveR R i spot) spot else moveR R i spot) (if moveR R i spot spot st<0 then Fo (moveR B i spot) spot else moveR B i spot):=by
 have row:∀c,moveR R i spot spot c=R i c:=fun c=>by rw[move_row];unfold mvI;rw[if_neg (by omega),if_pos rfl]
 have lo:∀r c,r<spot->moveR R i spot r c=R r c:=fun r c hr=>by rw[move_row];unfold mvI;rw[if_pos hr]
 have up:∀r c,spot<r->r<=i->moveR R i spot r c=R (r-1) c:=fun r c hr hi=>by rw[move_row];unfold mvI;rw[if_neg (by omega),if_neg (by omega),if_pos hi]
 have gm:Good n W w (i+1) R0 B0 (moveR R i spot) (moveR B i spot):=h.good.trans (Good.move R B O9m hs H.hi)
 have tl:∀j,j<spot->t j<st:=fun j hj=>by
  refine qh1 fun z=>h1 (h.pass j st hj z)
 have inc:∀j k,j<k->k<i+1->insT t spot st j<insT t spot st k:=fun j k hjk hk=>by
  unfold insT;by_cases a1:j<spot
  . rw[if_pos a1];by_cases b1:k<spot
    . rw[if_pos b1];exact H.part.inc j k (qa8 _) hjk O9m
    . rw[if_neg b1];by_cases b2:k=spot
      . rw[if_pos b2];exact tl j a1
      . rw[if_neg b2];exact H.part.inc j (k-1) (qa8 _) O9m O9m
  . rw[if_neg a1,if_neg (show ¬k<spot by omega),if_neg (show ¬k=spot by omega)];by_cases a2:j=spot
    . rw[if_pos a2];have e:=hex O9m;by_cases e2:k-1=spot
      . rw[e2];exact e
      . exact qr9 e (H.part.inc spot (k-1) (qa8 _) O9m O9m)
    . rw[if_neg a2];exact H.part.inc (j-1) (k-1) (qa8 _) O9m O9m
 have zero:∀j c,j<i+1->c<insT t spot st j->moveR R i spot j c=0:=fun j c hj hc=>by
  unfold insT at hc;by_cases a1:j<spot
  . rw[if_pos a1]at hc;rw[lo j c a1];exact h.zero j c O9m hc
  . rw[if_neg a1]at hc;by_cases a2:j=spot
    . rw[if_pos a2]at hc;rw[a2,row];exact h0 c hc
    . rw[if_neg a2]at hc;rw[up j c (by omega) (by omega)];exact h.zero (j-1) c O9m hc
 have oV:∀j,j<i+1->j≠spot->0<moveR R i spot j (insT t spot st j):=fun j hj hne=>by
  unfold insT;by_cases a1:j<spot
  . rw[if_pos a1,lo j _ a1];exact h.pos j O9m
  . rw[if_neg a1,if_neg hne,up j _ (by omega) (by omega)];exact h.pos (j-1) O9m
 have ts:insT t spot st spot=st:=by unfold insT;rw[if_neg (by omega),if_pos rfl]
 have bd:∀r c,r<=i->G c->(moveR R i spot r c).natAbs<=2 ^ (b+i+3+2*π+i*(π+1)):=fun r c hr hc=>by
  rw[move_row]
  have lm:mvI i spot r<=i:=by
   unfold mvI;by_cases a1:r<spot
   . rw[if_pos a1];omega
   . rw[if_neg a1];by_cases a2:r=spot
     . rw[if_pos a2];omega
     . rw[if_neg a2,if_pos hr];omega
  refine qa1 (h.gc _ c lm hc) (C5 ?_);have:=qb1 (π+1) hs;omega
 have lt:∀j,j<=i->insT t spot st j<W:=fun j hj=>by
  unfold insT;split
  . exact H.lt j O9m
  . split
    . exact hW
    . exact H.lt (j-1) O9m
 have pg:∀j,j<=i->G (insT t spot st j):=fun j hj=>by
  unfold insT;split
  . exact NP j O9m
  . split
    . exact hG
    . exact NP (j-1) O9m
 by_cases neg:moveR R i spot spot st<0
 . rw[if_pos neg,if_pos neg];have nr:∀c,Fo (moveR R i spot) spot spot c=- moveR R i spot spot c:=fun c=>Bw ..;have nn:∀r c,r≠spot->Fo (moveR R i spot) spot r c=moveR R i spot r c:=fun r c hr=>Ca hr c;refine⟨gm.trans (Good.neg _ _ O9m H.hi),⟨inc,fun j c hj hc=>?_,fun j hj=>?_⟩,lt,pg,fun r c hr hc=>?_⟩
   . by_cases e:j=spot
     . have z:=zero j c hj hc;rw[e]at z ⊢;rw[nr,z];rfl
     . rw[nn j c e];exact zero j c hj hc
   . by_cases e:j=spot
     . rw[e,nr,ts];omega
     . rw[nn j _ e];exact oV j hj e
   . by_cases e:r=spot
     . have z:=bd r c hr hc;rw[e]at z ⊢;rw[nr,qb4];exact z
     . rw[nn r c e];exact bd r c hr hc
 . rw[if_neg neg,if_neg neg];refine⟨gm,⟨inc,zero,fun j hj=>?_⟩,lt,pg,bd⟩;by_cases e:j=spot
   . rw[e,ts];have:moveR R i spot spot st≠0:=by rw[row];exact h1
     omega
   . exact oV j hj e
structure Lh(n W w i:Nat)(R0 B0:Mat)(t:Nat->Nat)(k:Nat)(R B:Mat):Prop where
 good:Good n W w (i+1) R0 B0 R B
 s0:Gi (i+1) R t
 old:∀r c,r<k->R r c=R0 r c
 red:∀r j,k<=r->r<j->j<=i->0<=R r (t j)/\R r (t j)<R j (t j)
 hd:∀j,j<=i->R j (t j)=R0 j (t j)
theorem Lh.start{n W w i:Nat}{R B:Mat}{t:Nat->Nat}(h:Gi (i+1) R t):Lh n W w i R B t (i+1) R B:=⟨Good.refl ..,h,fun _ _ _=>rfl,fun r j h1 h2 h3=>O9m,fun _ _=>rfl⟩
theorem Lh.part{n W w i:Nat}{R0 B0 R B:Mat}{t:Nat->Nat}{k:Nat}(h:Lh n W w i R0 B0 t k R B):Ol R t k (i+1):=⟨fun j l _ h1 h2=>h.s0.inc j l h1 h2,fun j c _ h1 h2=>h.s0.zero j c h1 h2,fun j _ h1=>h.s0.pos j h1,fun r j h1 h2 h3=>h.red r j h1 h2 O9m⟩
theorem Lh.next{n W w i:Nat}{R0 B0 R B R' B':Mat}{t:Nat->Nat}{k μ:Nat}(h:Lh n W w i R0 B0 t (k+1) R B)(hk:k<=i)(S:eV n W w (i+1) R B t k (k+1) (i+1) (i+1) μ R' B'):Lh n W w i R0 B0 t k R' B':=by
 have tl:∀c,c<=t k->R' k c=R k c:=fun c hc=>S.left c fun l h1 h2=>by have:=h.s0.inc k l O9m h2;omega
 refine⟨h.good.trans S.good,⟨h.s0.inc,fun j c hj hc=>?_,fun j hj=>?_⟩,fun r c hr=>?_,fun r j h1 h2 h3=>?_,fun j hj=>?_⟩
 . by_cases e:j=k
   . subst e;rw[tl c (by omega)];exact h.s0.zero j c hj hc
   . rw[S.same j c e];exact h.s0.zero j c hj hc
 . by_cases e:j=k
   . subst e;rw[tl _ (qa0 _)];exact h.s0.pos j hj
   . rw[S.same j _ e];exact h.s0.pos j hj
 . rw[S.same r c (by omega)];exact h.old r c O9m
 . rw[S.same j _ (show j≠k by omega)];by_cases e:r=k
   . subst e;exact S.red j O9m O9m
   . rw[S.same r _ e];exact h.red r j O9m h2 h3
 . by_cases e:j=k
   . subst e;rw[tl _ (qa0 _)];exact h.hd j hj
   . rw[S.same j _ e];exact h.hd j hj
structure Db(n W w i:Nat)(G:Nat->Prop)(M B0:Mat)(t:Nat->Nat)(R B:Mat):Prop where
 good:Good n W w i M B0 R B
 st:Em W i R t
 pg:∀j,j<i->G (t j)
theorem Db.start(n W w:Nat)(G:Nat->Prop)(M B0:Mat)(t:Nat->Nat):Db n W w 0 G M B0 t M B0:=⟨Good.refl ..,⟨fun j hj=>O9m,fun j k _ hk=>O9m,fun j c hj=>O9m,fun j hj=>O9m,fun k j _ hj=>O9m⟩,fun j hj=>O9m⟩
theorem Db.next{n W w i:Nat}{G:Nat->Prop}{M B0 R B R1 B1 R2 B2:Mat}{t t1:Nat->Nat}{Y:Nat}(h:Db n W w i G M B0 t R B)(I:kC n W w i G R B t1 Y R1 B1)(D:Lh n W w i R1 B1 t1 0 R2 B2):Db n W w (i+1) G M B0 t1 R2 B2 :=
 ⟨((h.good.mono O9m).trans I.good).trans D.good,⟨fun j hj=>I.lt j O9m,D.s0.inc,D.s0.zero,D.s0.pos,fun k j h1 h2=>D.red k j (qa8 _) h1 O9m⟩,fun j hj=>I.pg j O9m⟩
theorem Db.rows{n W w:Nat}{G:Nat->Prop}{M B0 R B:Mat}{t:Nat->Nat}(h:Db n W w n G M B0 t R B)(hw:w<=W):Dt n w M R:=by
 have e:=h.good.eqv n (qa0 _);have cut:∀{S:Mat}{v:Nat->Int},In W n S v->In w n S v:=fun⟨x,hx⟩=>⟨x,fun c hc=>hx c O9m⟩
 refine⟨fun i hi=>cut (e.1 i hi),fun i hi=>cut (e.2 i hi),?_⟩
 obtain⟨r,hr,h1,h2⟩:∃r,r<=n/\(∀j,j<r->t j<w)/\∀j,r<=j->j<n->w<=t j:=by
  have:∀m,m<=n->∃r,r<=m/\(∀j,j<r->t j<w)/\∀j,r<=j->j<m->w<=t j:=by
   intro m
   induction m with
   | zero=>intro _;exact⟨0,qa0 _,fun j hj=>O9m,fun j _ hj=>O9m⟩
   | succ m ih =>
     intro hm;obtain⟨r,a,b,c⟩:=ih O9m;by_cases z:t m<w
     . have hrm:r=m:=by
        refine qh2 a (qf3 fun y=>?_);have:=c r (qa0 _) y;have:=h.st.inc r m y O9m;omega
       exact⟨m+1,qa0 _,fun j hj=>by
        by_cases q:j=m
        . rw[q];exact z
        . exact b j O9m,fun j h1 h2=>O9m⟩
     . exact⟨r,O9m,b,fun j h1 h2=>by
        by_cases q:j=m
        . rw[q];omega
        . exact c j h1 O9m⟩
  exact this n (qa0 _)
 exact⟨r,t,hr,⟨h1,fun j k a b=>h.st.inc j k a O9m,fun j c a b=>h.st.zero j c O9m b,fun j a=>h.st.pos j O9m,fun k j a b=>h.st.red k j a O9m⟩,fun i c a b d=>h.st.zero i c b (by have:=h2 i a b;omega)⟩
noncomputable def unit(e:Int)(j:Nat):Nat->Int:=fun c=>if c=j then e else 0
noncomputable abbrev tr(T:Mat):Mat:=fun i j=>T j i
structure Gj(n w r:Nat)(e:Int)(T:Mat):Prop where
 rn:r<=n
 rw:r<=w
 row0:∀i c,r<=i->i<n->c<w->T i c=0
 col0:∀i c,i<n->r<=c->c<w->T i c=0
 rows:∀j,j<r->In w n T (unit e j)
 cols:∀i,i<r->In n w (tr T) (unit e i)
theorem Gj.flip{n w r:Nat}{e:Int}{T:Mat}(h:Gj n w r e T):Gj w n r e (tr T):=⟨h.rw,h.rn,fun i c h1 h2 h3=>h.col0 c i h3 h1 h2,fun i c h1 h2 h3=>h.row0 c i h2 h3 h1,h.cols,h.rows⟩
theorem On{n w r r':Nat}{e:Int}{T:Mat}{t:Nat->Nat}(he:0<e)(hr:r<=w)(hr':r'<=n)(hst:Em w r' T t)(hz:∀i c,r'<=i->i<n->c<w->T i c=0)(hc:∀i c,i<n->r<=c->c<w->T i c=0)(Ma:∀j,j<r->In w n T (unit e j)) :
 r'=r/\(∀j,j<r->t j=j)/\∀j,j<r->T j j∣e:=by
 have tl:∀j,j<r'->t j<r:=fun j hj=>by
  refine qh1 fun z=>?_;have p:=hst.pos j hj;rw[hc j (t j) (by omega) z (hst.lt j hj)]at p;omega
 have main:∀j,j<=r->j<=r'/\(∀k,k<j->t k=k)/\∀k,k<j->T k k∣e:=by
  intro j
  induction j with
  | zero=>intro _;exact⟨qa8 _,fun k hk=>O9m,fun k hk=>O9m⟩
  | succ j ih =>
    intro hj;obtain⟨a,b,c⟩:=ih O9m;obtain⟨x,hx⟩:=(Ma j O9m).sub hr' hz;have v0:∀k,k<j->unit e j (t k)=0:=fun k hk=>by rw[b k hk];exact if_neg O9m
    obtain⟨x0,x1⟩:=hst.lead hx j a v0;have ej:unit e j j=e:=if_pos rfl
    have lt:j<r':=by
     refine qh1 fun z=>?_
     have:unit e j j=0:=by
      rw[hx j (by omega)];exact B6 fun k hk=>by rw[x0 k (by omega)];simp
     omega
    have tj:t j=j:=by
     refine qh2 (qf3 fun z=>?_) (hst.ge j lt)
     have:unit e j j=0:=by
      rw[hx j (by omega)];refine B6 fun k hk=>?_;by_cases e1:k<j
      . rw[x0 k e1];simp
      . rw[hst.zero k j hk (qa6 z (hst.mono j k (by omega) hk))];simp
     omega
    have d:=x1 lt;rw[tj,ej]at d;refine⟨lt,fun k hk=>?_,fun k hk=>?_⟩
    . by_cases e1:k=j
      . rw[e1];exact tj
      . exact b k O9m
    . by_cases e1:k=j
      . rw[e1];exact⟨x j,by rw[d,qe7]⟩
      . exact c k O9m
 obtain⟨a,b,c⟩:=main r (qa0 _);refine⟨qh2 (qf3 fun z=>?_) a,b,c⟩;have:=tl r z;have:=hst.ge r z;omega
theorem Sg{n w r:Nat}{e:Int}{T:Mat}{t:Nat->Nat}(AD:r<=n)(hrw:r<=w)(hst:Em w r T t)(hz:∀i c,r<=i->i<n->c<w->T i c=0)(hc:∀i c,i<n->r<=c->c<w->T i c=0)(Ma:∀j,j<r->In w n T (unit e j)):∀i,i<r->In n w (tr T) (unit e i):=by
 have ch:∀j,∃x:Nat->Int,j<r->∀c,c<w->unit e j c=Aq (fun k=>x k*T k c) r:=fun j=>by
  by_cases hj:j<r
  . obtain⟨x,hx⟩:=(Ma j hj).sub AD hz;exact⟨x,fun _=>hx⟩
  . exact⟨fun _=>0,fun z=>absurd z hj⟩
 obtain⟨X,hX⟩:∃X:Nat->Nat->Int,∀j,j<r->∀c,c<w->unit e j c=Aq (fun k=>X j k*T k c) r:=Classical.axiomOfChoice ch
 have key:∀i,i<r->∀j,j<r->Aq (fun c=>T i c*X c j) r=if i=j then e else 0:=by
  intro i hi
  have hz0:∀c,c<w->(fun _=>(0:Int)) c=Aq (fun j=>(Aq (fun d=>T i d*X d j) r-(if i=j then e else 0))*T j c) r:=by
   intro c hcw
   have e1:Aq (fun j=>(Aq (fun d=>T i d*X d j) r-(if i=j then e else 0))*T j c) r=Aq (fun j=>Aq (fun d=>T i d*X d j*T j c) r+(-1)*((if j=i then 1 else 0)*(e*T j c))) r:=by
    refine Az fun j _=>?_;rw[Int.sub_mul,←P3];by_cases z:i=j
    . subst z;rw[if_pos rfl,if_pos rfl];omega
    . rw[if_neg z,if_neg fun y=>z y.symm];omega
   rw[e1,Dn,B9,Dv (fun j=>e*T j c) i r,if_pos hi,Gc]
   have e2:Aq (fun d=>Aq (fun j=>T i d*X d j*T j c) r) r=Aq (fun d=>T i d*unit e d c) r:=by
    refine Az fun d hd=>?_;rw[hX d hd c hcw,←B9];exact Az fun j _=>qe9 ..
   rw[e2];show(0:Int)=_;by_cases hcr:c<r
   . rw[Ch (j:=c) hcr fun d hd hne=>by show T i d*(if c=d then e else 0)=0;rw[if_neg fun y=>hne y.symm];simp];show(0:Int)=T i c*(if c=c then e else 0)+-1*(e*T i c);rw[if_pos rfl,qe7];omega
   . rw[B6 fun d hd=>by show T i d*(if c=d then e else 0)=0;rw[if_neg (by omega)];simp,hc i c (by omega) (by omega) hcw];simp
  obtain⟨a,_⟩:=hst.lead hz0 r (qa0 _) fun _ _=>rfl;intro j hj;have:=a j hj;omega
 intro i hi;refine⟨fun c=>if c<r then X c i else 0,fun c hcn=>?_⟩;show unit e i c=Aq (fun k=>(if k<r then X k i else 0)*T c k) w
 have e1:Aq (fun k=>(if k<r then X k i else 0)*T c k) w=Aq (fun k=>T c k*X k i) r:=by
  have:∀m,r<=m->m<=w->Aq (fun k=>(if k<r then X k i else 0)*T c k) m=Aq (fun k=>T c k*X k i) r:=by
   intro m
   induction m with
   | zero =>
     intro h1 _;have:r=0:=O9m
     subst this;rfl
   | succ m ih =>
     intro h1 h2;by_cases q:r=m+1
     . subst q;refine Az fun k hk=>?_;rw[if_pos hk,qe7]
     . show Aq _ m+(if m<r then X m i else 0)*T c m=_;rw[ih (by omega) (by omega),if_neg (by omega)];simp
  exact this w hrw (qa0 _)
 rw[e1];by_cases hcr:c<r
 . rw[key c hcr i hi];rfl
 . rw[B6 fun k hk=>by rw[hz c k (by omega) hcn (by omega)];simp];exact if_neg O9m
theorem Dt.square{n w r:Nat}{e:Int}{T T':Mat}(s:Dt n w T T')(he:0<e)(h:Gj n w r e T):Gj n w r e T'/\∃t,Em w r T' t/\(∀j,j<r->t j=j)/\∀j,j<r->T' j j∣e:=by
 obtain⟨r',t,hr',hst,hz⟩:=s.st
 have hc:∀i c,i<n->r<=c->c<w->T' i c=0:=fun i c hi h1 h2=>by
  obtain⟨x,hx⟩:=s.fwd i hi;rw[hx c h2];exact B6 fun k hk=>by rw[h.col0 k c hk h1 h2];simp
 have Ma:∀j,j<r->In w n T' (unit e j):=fun j hj=>(h.rows j hj).trans s.bwd;obtain⟨e1,e2,e3⟩:=On he h.rw hr' hst hz hc Ma;subst e1;exact⟨⟨h.rn,h.rw,hz,hc,Ma,Sg h.rn h.rw hst hz hc Ma⟩,t,hst,e2,e3⟩
theorem cL{n w r:Nat}{e:Int}{T:Mat}{t:Nat->Nat}(he:0<e)(h:Gj n w r e T)(hst:Em w r T t)(ht:∀j,j<r->t j=j)(hd:∀j,j<r->T j j∣e){i c:Nat}(hi:i<n)(hc:c<w):0<=T i c/\T i c<=e:=by
 by_cases a:i<r
 . by_cases b:c<r
   . have l:=qj4 he (hd c b);rcases qn8 i c with z | z | z
     . have:=hst.red i c z b;rw[ht c b]at this;omega
     . subst z;have:=hst.pos i a;rw[ht i a]at this;omega
     . rw[hst.zero i c a (by rw[ht i a];exact z)];omega
   . rw[h.col0 i c hi (by omega) hc];omega
 . rw[h.row0 i c (by omega) hi hc];omega
theorem aF{n w r:Nat}{T:Mat}{t:Nat->Nat}(AD:r<=n)(hst:Em w r T t)(hz:∀i c,r<=i->i<n->c<w->T i c=0):∀i,i<r->In n w (tr T) (unit (prodN (fun j=>T j (t j)) r) i):=by
 have main:∀m i,i<m->m<=r->In n w (tr T) (unit (prodN (fun j=>T j (t j)) (i+1)) i):=by
  intro m
  induction m with
  | zero=>intro i hi;omega
  | succ m ih =>
    intro i hi hm;by_cases q:i<m
    . exact ih i q O9m
    have qi:i=m:=O9m
    subst qi
    have up:∀k,k<=i->In n w (tr T) (fun d=>Aq (fun l=>(T l (t i)*prodN (fun j=>T j (t j)) i)*(if d=l then 1 else 0)) k):=by
     intro k
     induction k with
     | zero=>intro _;exact In.zero ..
     | succ k ihk =>
       intro hk;have hk2:=ih k O9m O9m
       obtain⟨g,hg⟩:∃g,prodN (fun j=>T j (t j)) i=prodN (fun j=>T j (t j)) (k+1)*g:=by
        have:∀m,k+1<=m->∃g,prodN (fun j=>T j (t j)) m=prodN (fun j=>T j (t j)) (k+1)*g:=by
         intro m
         induction m with
         | zero=>intro h;omega
         | succ m sS =>
           intro h;by_cases z:k+1=m+1
           . exact⟨1,by rw[z];omega⟩
           . obtain⟨g,hg⟩:=sS O9m;exact⟨g*T m (t m),by show prodN _ m*T m (t m)=_;rw[hg,qe9]⟩
        exact this i O9m
       refine((ihk O9m).mix hk2 1 (T k (t i)*g)).congr fun d _=>?_;show 1*Aq _ k+T k (t i)*g*(if d=k then prodN (fun j=>T j (t j)) (k+1) else 0)=Aq _ k+T k (t i)*prodN (fun j=>T j (t j)) i*(if d=k then 1 else 0);rw[hg];by_cases z:d=k
       . rw[if_pos z,if_pos z];grind
       . rw[if_neg z,if_neg z];omega
    have col:In n w (tr T) (tr T (t i)):=In.row (hst.lt i O9m);refine(col.mix (up i (qa0 _)) (prodN (fun j=>T j (t j)) i) (-1)).congr fun d hd=>?_;show prodN (fun j=>T j (t j)) i*T d (t i)+-1*Aq (fun l=>(T l (t i)*prodN (fun j=>T j (t j)) i)*(if d=l then 1 else 0)) i=unit (prodN (fun j=>T j (t j)) (i+1)) i d;by_cases z:d<i
    . rw[Ch (j:=d) z fun l hl hne=>by rw[if_neg fun y=>hne y.symm];simp,if_pos rfl];rw[show unit (prodN (fun j=>T j (t j)) (i+1)) i d=0 from if_neg (by omega)]
      grind
    . rw[B6 fun l hl=>by rw[if_neg (by omega)];simp];by_cases z2:d=i
      . subst z2;rw[show unit (prodN (fun j=>T j (t j)) (d+1)) d d=prodN (fun j=>T j (t j)) (d+1) from if_pos rfl];show _=prodN (fun j=>T j (t j)) d*T d (t d);omega
      . rw[show unit (prodN (fun j=>T j (t j)) (i+1)) i d=0 from if_neg z2]
        have:T d (t i)=0:=by
         by_cases z3:d<r
         . exact hst.s0.low z3 O9m
         . exact hz d _ O9m hd (hst.lt i O9m)
        rw[this];simp
 intro i hi
 obtain⟨g,hg⟩:∃g,prodN (fun j=>T j (t j)) r=prodN (fun j=>T j (t j)) (i+1)*g:=by
  have:∀m,i+1<=m->∃g,prodN (fun j=>T j (t j)) m=prodN (fun j=>T j (t j)) (i+1)*g:=by
   intro m
   induction m with
   | zero=>intro h;omega
   | succ m sS =>
     intro h;by_cases z:i+1=m+1
     . exact⟨1,by rw[z];omega⟩
     . obtain⟨g,hg⟩:=sS O9m;exact⟨g*T m (t m),by show prodN _ m*T m (t m)=_;rw[hg,qe9]⟩
  exact this r hi
 refine((main r i hi (qa0 _)).mix (In.zero ..) g 0).congr fun d _=>?_;show g*(if d=i then prodN (fun j=>T j (t j)) (i+1) else 0)+0*0=if d=i then prodN (fun j=>T j (t j)) r else 0
 by_cases z:d=i
 . rw[if_pos z,if_pos z,hg];grind
 . rw[if_neg z,if_neg z];omega
theorem Qz.square{n w:Nat}{T T' Kd:Mat}{r:Nat}{t:Nat->Nat}(hr:r<=n)(hst:Em w r T' t)(hz:∀i c,r<=i->i<n->c<w->T' i c=0)(s2:Dt w n (tr T') (tr Kd)):r<=w/\Gj n w r (prodN (fun j=>T' j (t j)) r) Kd/\∃u,Em n r (tr Kd) u/\(∀j,j<r->u j=j)/\∀j,j<r->Kd j j∣prodN (fun j=>T' j (t j)) r:=by
 have he:0<prodN (fun j=>T' j (t j)) r:=Cy fun j hj=>hst.pos j hj;obtain⟨q,u,hq,Va,GG⟩:=s2.st
 have hrw:r<=w:=by
  by_cases z:r=0
  . omega
  . have:=hst.ge (r-1) O9m;have:=hst.lt (r-1) O9m;omega
 have hc:∀i c,i<w->r<=c->c<n->tr Kd i c=0:=fun i c hi h1 h2=>by
  obtain⟨x,hx⟩:=s2.fwd i hi;rw[hx c h2];exact B6 fun k hk=>by rw[show tr T' k c=0 from hz c k h1 h2 hk];simp
 have Ma:∀j,j<r->In n w (tr Kd) (unit (prodN (fun j=>T' j (t j)) r) j):=fun j hj=>(aF hr hst hz j hj).trans s2.bwd;obtain⟨e1,e2,e3⟩:=On he hr hq Va GG hc Ma;subst e1;have sq:Gj w n q (prodN (fun j=>T' j (t j)) q) (tr Kd):=⟨hrw,hr,GG,hc,Ma,Sg hrw hr Va GG hc Ma⟩
 exact⟨hrw,sq.flip,u,Va,e2,e3⟩
theorem fG:∀{n:Nat}{A:Mat},(∀r c,r<n->c<n->(A r c).natAbs<=1)->(∀c r r',c<n->r<n->r'<n->A r c≠0->A r' c≠0->r=r')->(det n A).natAbs<=1
 | 0,_,_,_=>by simp[det]
 | n+1,A,h1,h2=>by
   show(Aq (fun i=>sgi i*A i 0*det n (Fh A i)) (n+1)).natAbs<=1;by_cases e:∃r,r<n+1/\A r 0≠0
   . obtain⟨r,hr,hne⟩:=e
     rw[Ch (j:=r) hr fun k hk XS=>by
      have:A k 0=0:=qe6 fun z=>XS (h2 0 k r (by omega) hk hr z hne);rw[this];simp]
     rw[qa9,qa9,Rw,qd1]
     have ih:=fG (n:=n) (A:=Fh A r) (fun x c hx hc=>h1 _ _ (by split<;>omega) O9m) fun c x x' hc hx hx' a b=>by
      have:=h2 (c+1) (if x<r then x else x+1) (if x'<r then x' else x'+1) O9m (by split<;>omega) (by split<;>omega) a b;split at this<;>split at this<;>omega
     exact qa1 (qd9 (h1 r 0 hr O9m) ih) (by decide)
   . rw[B6 fun k hk=>by
      have:A k 0=0:=qe6 fun z=>e ⟨k,hk,z⟩;rw[this];simp]
     decide
theorem Yq{n p:Nat}(A:Mat)(hp:p<n)(a:Nat->Int)(U:Mat):∀m,det n (Cd A p fun c=>Aq (fun k=>a k*U k c) m)=Aq (fun k=>a k*det n (Cd A p (U k))) m
 | 0=>by
   show det n (Cd A p fun c=>(0:Int))=0;exact Pf hp fun c _=>Bw ..
 | m+1=>by
   have e:(fun c=>Aq (fun k=>a k*U k c) (m+1))=fun c=>1*(fun c=>Aq (fun k=>a k*U k c) m) c+a m*U m c:=funext fun c=>by
    show Aq (fun k=>a k*U k c) m+a m*U m c=1*Aq (fun k=>a k*U k c) m+a m*U m c;omega
   rw[e,Ef A _ _ 1 (a m) hp,Yq A hp a U m];show 1*Aq (fun k=>a k*det n (Cd A p (U k))) m+a m*det n (Cd A p (U m))=Aq (fun k=>a k*det n (Cd A p (U k))) m+a m*det n (Cd A p (U m));rw[qc0]
noncomputable def Rj(s:Nat->Nat):Mat:=fun r l=>if s l=r then 1 else 0
noncomputable def Zw(T:Mat)(s:Nat->Nat)(k:Nat):Mat:=fun r l=>if r<k then Rj s r l else T r (s l)
theorem CN{i:Nat}{T:Mat}(h:∀r c,r<i->r<c->T r c=0)(s:Nat->Nat){k:Nat}(hk:k<i):det i (Zw T s k)=T k k*det i (Zw T s (k+1)):=by
 have e0:Zw T s k=Cd (Zw T s k) k fun c=>Aq (fun j=>T k j*Rj s j c) (k+1):=by
  funext r c
  by_cases z:r=k
  . subst z;rw[Bw];show(if r<r then Rj s r c else T r (s c))=_;rw[if_neg (by omega)];by_cases y:s c<r+1
    . rw[Ch (j:=s c) y fun j _ hne=>by
       have:Rj s j c=0:=if_neg fun z=>hne z.symm;rw[this];simp]
      have:Rj s (s c) c=1:=if_pos rfl;rw[this];simp
    . rw[B6 fun j hj=>by
       have:Rj s j c=0:=if_neg (by omega);rw[this];simp]
      exact h r (s c) hk O9m
  . rw[Ca z]
 rw[e0,Yq _ hk,Ch (j:=k) (by omega) fun j hj hne=>?_]
 . congr 1
   refine Dc fun r c hr hc=>?_;by_cases z:r=k
   . subst z;rw[Bw];show _=if r<r+1 then Rj s r c else T r (s c)
     rw[if_pos (by omega)]
   . rw[Ca z];show(if r<k then Rj s r c else T r (s c))=if r<k+1 then Rj s r c else T r (s c)
     by_cases y:r<k
     . rw[if_pos y,if_pos (by omega)]
     . rw[if_neg y,if_neg (by omega)]
 . rw[det_alike (p:=j) (q:=k) (by omega) hk hne fun c _=>?_,qi0];rw[Bw,Ca hne];show(if j<k then Rj s j c else T j (s c))=_;rw[if_pos (by omega)]
theorem bB{i:Nat}{T:Mat}(h:∀r c,r<i->r<c->T r c=0)(s:Nat->Nat):∀k,k<=i->det i (fun r l=>T r (s l))=prodN (fun j=>T j j) k*det i (Zw T s k)
 | 0,_=>by
   show _=1*det i (Zw T s 0);rw[qc0]
   exact Dc fun r c hr hc=>by
    show _=if r<0 then Rj s r c else T r (s c)
    rw[if_neg (by omega)]
 | k+1,hk=>by
   rw[bB h s k (by omega),CN h s (by omega)];show _=prodN (fun j=>T j j) k*T k k*_;rw[qe9]
theorem LN{i:Nat}{T:Mat}(h:∀r c,r<i->r<c->T r c=0)(s:Nat->Nat):(det i fun r l=>T r (s l)).natAbs<=(prodN (fun j=>T j j) i).natAbs:=by
 rw[bB h s i (qa0 _),qa9]
 have e:(det i (Zw T s i)).natAbs<=1:=by
  have k:∀r c,r<i->Zw T s i r c=if s c=r then 1 else 0:=fun r c hr=>by
   show(if r<i then Rj s r c else T r (s c))=_;rw[if_pos hr];rfl
  refine fG (fun r c hr hc=>?_) fun c r r' hc hr hr' a b=>?_
  . rw[k r c hr];split<;>decide
  . rw[k r c hr]at a;rw[k r' c hr']at b;split at a
    . split at b
      . omega
      . exact absurd rfl b
    . exact absurd rfl a
 exact qa1 (qd2 _ e) O9m
noncomputable def K8(n:Nat)(G:Nat->Prop)(M:Mat)(D:Nat):Prop:=∀i,i<=n->∀s:Nat->Nat,(∀l,l<i->G (s l))->(det i fun r l=>M r (s l)).natAbs<=D
theorem Db.detsD{n W w i m:Nat}{G:Nat->Prop}{M B0 R B:Mat}{t:Nat->Nat}{D:Nat}(hD:K8 m G M D)(h:Db n W w i G M B0 t R B)(hi:i<=m){s:Nat->Nat}(hs:∀l,l<i->G (s l)):(det i fun r l=>R r (s l)).natAbs<=D:=by
 rw[h.good.det i (qa0 _) s];exact hD i hi s hs
theorem Db.headD{n W w i m:Nat}{G:Nat->Prop}{M B0 R B:Mat}{t:Nat->Nat}{D:Nat}(hD:K8 m G M D)(h:Db n W w i G M B0 t R B)(hi:i<=m){j:Nat}(hj:j<i):(R j (t j)).natAbs<=D:=by
 have:=jO h.st.s0 (h.detsD hD hi (s:=t) h.pg) hj;have p:=h.st.pos j hj;omega
theorem Db.rowD{n W w i m:Nat}{G:Nat->Prop}{M B0 R B:Mat}{t:Nat->Nat}{D:Nat}(hD:K8 m G M D)(h:Db n W w i G M B0 t R B)(hi:i<=m)(kX:∀c,G c->c<W){r c:Nat}(hr:r<i)(hc:G c):(R r c).natAbs<=i*D:=by
 have:=iI h.st.s0 h.st.lt (In.row hr) (κ:=1) (D:=D) (kX c hc) (fun j hj=>?_) fun k hk=>h.detsD hD hi fun l hl=>?_
 . rw[qd1]at this;exact this
 . rw[qd1];rcases qn8 r j with z | z | z
   . obtain⟨a,b⟩:=h.st.red r j z hj;omega
   . rw[z];exact qa0 _
   . rw[h.st.s0.low hr z];exact qa8 _
 . cases l with
   | zero=>exact hc
   | succ l=>exact h.pg _ (by split<;>omega)
theorem Db.putD{n W w i m:Nat}{G:Nat->Prop}{M B0 R B:Mat}{t:Nat->Nat}{D:Nat}(hD:K8 m G M D)(h:Db n W w i G M B0 t R B)(hm:i<=m)(hi:i<n)(kX:∀c,G c->c<W){b0 π b:Nat}(hM:∀c,G c->(M i c).natAbs<=2 ^ b0)(h1:D<=2 ^ π)(h2:i*D<=2 ^ b)(h3:b0<=π)(h4:b0<=b):Hj n W w i G R B t π b:=by
 refine⟨hi,⟨fun j k _=>h.st.inc j k,fun j c _=>h.st.zero j c,fun j _=>h.st.pos j,fun k j _=>h.st.red k j⟩,h.st.lt,fun j hj=>qa1 (h.headD hD hm hj) h1,fun r c hr hc=>qa1 (h.rowD hD hm kX hr hc) h2,fun c hc=>?_,fun l hl=>?_⟩
 . rw[h.good.rest i c (qa0 _)];exact qa1 (hM c hc) (C5 h4)
 . rw[h.good.rest i _ (qa0 _)];exact qa1 (hM _ (h.pg l hl)) (C5 h3)
theorem Gj.free{n w r:Nat}{e:Int}{T:Mat}(he:0<e)(h:Gj n w r e T){m:Nat}(hm:m<=r){x:Nat->Int}(hx:∀c,c<w->Aq (fun k=>x k*T k c) m=0):∀k,k<m->x k=0:=by
 intro l hl;obtain⟨y,hy⟩:=h.cols l O9m;have e1:Aq (fun c=>y c*Aq (fun k=>x k*T k c) m) w=0:=B6 fun c hc=>by rw[hx c hc];simp
 have e2:Aq (fun c=>y c*Aq (fun k=>x k*T k c) m) w=Aq (fun k=>x k*unit e l k) m:=by
  rw[show(fun c=>y c*Aq (fun k=>x k*T k c) m)=fun c=>Aq (fun k=>x k*(y c*T k c)) m from funext fun c=>by
   rw[←B9];exact Az fun k _=>by grind]
  rw[Gc];refine Az fun k hk=>?_;rw[hy k (by have:=h.rn;omega),←B9]
 rw[e2,Ch (j:=l) hl fun k _ hne=>by
  have:unit e l k=0:=if_neg hne;rw[this];simp]at e1
 have:unit e l l=e:=if_pos rfl;rw[this]at e1;rcases qp6.mp e1 with z | z
 . exact z
 . omega
theorem iF{n W w r i:Nat}{e:Int}{T M B0 R B:Mat}(he:0<e)(h:Gj n w r e T)(hM:∀k c,k<n->c<w->M k c=T k c)(hi:i<r)(g:Good n W w (i+1) M B0 R B)(hW:w+n<=W)(d:E4 n w M B0):∃c,c<w/\R i c≠0:=by
 have rn:=h.rn;refine qe6 fun z=>?_;have z0:∀c,c<w->R i c=0:=fun c hc=>qe6 fun y=>z ⟨c,hc,y⟩;obtain⟨x,hx⟩:=(g.eqv (i+1) (qa0 _)).1 i O9m
 have x0:=h.free he (m:=i+1) O9m (x:=x) fun c hc=>by
  rw[←z0 c hc,hx c (by omega)];exact Az fun k hk=>by rw[hM k c (by omega) hc]
 obtain⟨c,hc,hne⟩:=(g.dual d).row (i:=i) O9m;refine hne ?_;rw[hx (w+c) (by omega)];exact B6 fun k hk=>by rw[x0 k hk];simp
structure R7(n W w r:Nat)(kt:Nat->Nat)(hd:Nat->Int)(M:Mat):Prop where
 zero:∀j c,r<=j->j<n->c<kt j->M j c=0
 inc:∀j k,r<=j->j<k->k<n->kt j<kt k
 ge:∀j,r<=j->j<n->w<=kt j
 lt:∀j,r<=j->j<n->kt j<W
 head:∀j,r<=j->j<n->M j (kt j)=hd j
 pos:∀j,r<=j->j<n->0<hd j
 red:∀k j,r<=j->k<j->j<n->0<=M k (kt j)/\M k (kt j)<hd j
structure Cl(n W w r i:Nat)(G:Nat->Prop)(M B0:Mat)(kt:Nat->Nat)(hd:Nat->Int)(t:Nat->Nat)(R B:Mat):Prop where
 st:Db n W w i G M B0 t R B
 tab:∀j,j<r->j<i->t j<w
 ker:∀j,r<=j->j<i->t j=kt j/\R j (t j)=hd j
theorem Cl.start(n W w r:Nat)(G:Nat->Prop)(M B0:Mat)(kt:Nat->Nat)(hd:Nat->Int)(t:Nat->Nat):Cl n W w r 0 G M B0 kt hd t M B0:=⟨Db.start ..,fun j _ h=>O9m,fun j _ h=>O9m⟩
theorem Cl.next{n W w r i:Nat}{G:Nat->Prop}{M B0 R B R1 B1 R2 B2:Mat}{kt t:Nat->Nat}{hd:Nat->Int}{Y spot st:Nat}(h:Cl n W w r i G M B0 kt hd t R B)(hi:i<r)(hst:st<w)(hs:spot<=i)(I:kC n W w i G R B (insT t spot st) Y R1 B1)(D:Lh n W w i R1 B1 (insT t spot st) 0 R2 B2):Cl n W w r (i+1) G M B0 kt hd (insT t spot st) R2 B2:=by
 refine⟨h.st.next I D,fun j h1 h2=>?_,fun j h1 h2=>O9m⟩;unfold insT;split
 . exact h.tab j h1 O9m
 . split
   . exact hst
   . exact h.tab (j-1) O9m O9m
theorem Cl.skip{n W w r i:Nat}{G:Nat->Prop}{M B0 R B:Mat}{kt t:Nat->Nat}{hd:Nat->Int}(K:R7 n W w r kt hd M)(h:Cl n W w r i G M B0 kt hd t R B)(hi:r<=i)(hn:i<n){spot c:Nat}(hs:spot<i)(hc:c<=t spot):R i c=0:=by
 rw[h.st.good.rest i c (qa0 _)];refine K.zero i c hi hn ?_;have g:=K.ge i hi hn;by_cases z:spot<r
 . have:=h.tab spot z hs;omega
 . have:=(h.ker spot O9m hs).1;have:=K.inc spot i O9m hs hn;omega
theorem Mq(R:Mat)(i:Nat):moveR R i i=R:=by
 funext r
 rw[move_row];unfold mvI;by_cases a:r<i
 . rw[if_pos a]
 . rw[if_neg a];by_cases b:r=i
   . rw[if_pos b,b]
   . rw[if_neg b,if_neg (by omega)]
theorem Cl.ins{n W w r i:Nat}{G:Nat->Prop}{M B0 R B:Mat}{kt t:Nat->Nat}{hd:Nat->Int}{π b:Nat}(K:R7 n W w r kt hd M)(h:Cl n W w r i G M B0 kt hd t R B)(hi:r<=i)(H:Hj n W w i G R B t π b)(hG:G (kt i)):kC n W w i G R B (insT t i (kt i)) (b+i+3+2*π+i*(π+1)) R B/\∀spot,spot<=i->C9 n W w i G R B t π b spot R B:=by
 have all:∀spot,spot<=i->C9 n W w i G R B t π b spot R B:=by
  intro spot
  induction spot with
  | zero=>intro _;exact C9.start H
  | succ s ih=>intro hs;exact(ih O9m).skip fun c hc=>h.skip K hi H.hi O9m hc
 refine⟨?_,all⟩;have e:R i (kt i)=hd i:=by rw[h.st.good.rest i _ (qa0 _)];exact K.head i hi H.hi
 have p:=K.pos i hi H.hi;have:=(all i (qa0 _)).ins H (qa0 _) (st:=kt i) (fun c hc=>by rw[h.st.good.rest i c (qa0 _)];exact K.zero i c hi H.hi hc) O9m (K.lt i hi H.hi) hG h.st.pg (fun z=>O9m);rw[Mq,Mq,if_neg (by omega),if_neg (by omega)]at this;exact this
theorem Cl.nextK{n W w r i:Nat}{G:Nat->Prop}{M B0 R B R2 B2:Mat}{kt t:Nat->Nat}{hd:Nat->Int}{Y:Nat}(K:R7 n W w r kt hd M)(h:Cl n W w r i G M B0 kt hd t R B)(hi:r<=i)(hn:i<n)(I:kC n W w i G R B (insT t i (kt i)) Y R B)(D:Lh n W w i R B (insT t i (kt i)) 0 R2 B2):Cl n W w r (i+1) G M B0 kt hd (insT t i (kt i)) R2 B2:=by
 have t1:∀j,j<i->insT t i (kt i) j=t j:=fun j hj=>if_pos hj;have t2:insT t i (kt i) i=kt i:=by unfold insT;rw[if_neg (by omega),if_pos rfl]
 refine⟨h.st.next I D,fun j h1 h2=>by rw[t1 j (by omega)];exact h.tab j h1 O9m,fun j h1 h2=>?_⟩;rw[D.hd j (by omega)];by_cases z:j=i
 . rw[z,t2];exact⟨rfl,by rw[h.st.good.rest i _ (qa0 _)];exact K.head i hi hn⟩
 . rw[t1 j (by omega)];exact h.ker j h1 O9m
theorem Cl.done{n W w r:Nat}{G:Nat->Prop}{M B0 R B:Mat}{kt t:Nat->Nat}{hd:Nat->Int}(K:R7 n W w r kt hd M)(h:Cl n W w r n G M B0 kt hd t R B):R7 n W w r kt hd R:=by
 refine⟨fun j c h1 h2 h3=>?_,K.inc,K.ge,K.lt,fun j h1 h2=>?_,K.pos,fun k j h1 h2 h3=>?_⟩
 . rw[←(h.ker j h1 h2).1]at h3;exact h.st.st.zero j c h2 h3
 . obtain⟨a,b⟩:=h.ker j h1 h2;rw[←a];exact b
 . obtain⟨a,b⟩:=h.ker j h1 h3;rw[←a,←b];exact h.st.st.red k j h2 h3
noncomputable def DG(V Z:Mat)(k:Nat):Mat:=fun r l=>if r<k then Z r l else V r l
theorem dG{i:Nat}{T V Z:Mat}(h:∀r c,r<i->c<i->V r c=Aq (fun j=>T r j*Z j c) (r+1)){k:Nat}(hk:k<i):det i (DG V Z k)=T k k*det i (DG V Z (k+1)):=by
 have e0:det i (DG V Z k)=det i (Cd (DG V Z k) k fun c=>Aq (fun j=>T k j*Z j c) (k+1)):=Dc fun r c hr hc=>by
  by_cases z:r=k
  . subst z;rw[Bw];show(if r<r then Z r c else V r c)=_;rw[if_neg (by omega)];exact h r c hr hc
  . rw[Ca z]
 rw[e0,Yq _ hk,Ch (j:=k) (by omega) fun j hj hne=>?_]
 . congr 1
   refine Dc fun r c hr hc=>?_;by_cases z:r=k
   . subst z;rw[Bw];show _=if r<r+1 then Z r c else V r c
     rw[if_pos (by omega)]
   . rw[Ca z];show(if r<k then Z r c else V r c)=if r<k+1 then Z r c else V r c
     by_cases y:r<k
     . rw[if_pos y,if_pos (by omega)]
     . rw[if_neg y,if_neg (by omega)]
 . rw[det_alike (p:=j) (q:=k) (by omega) hk hne fun c _=>?_,qi0];rw[Bw,Ca hne];show(if j<k then Z j c else V j c)=_;rw[if_pos (by omega)]
theorem bA{i:Nat}{T V Z:Mat}(h:∀r c,r<i->c<i->V r c=Aq (fun j=>T r j*Z j c) (r+1)):∀k,k<=i->det i V=prodN (fun j=>T j j) k*det i (DG V Z k)
 | 0,_=>by
   show _=1*det i (DG V Z 0);rw[qc0]
   exact Dc fun r c hr hc=>by
    show _=if r<0 then Z r c else V r c
    rw[if_neg (by omega)]
 | k+1,hk=>by
   rw[bA h k (by omega),dG h (by omega)];show _=prodN (fun j=>T j j) k*T k k*_;rw[qe9]
theorem Wk{w r:Nat}{U V:Mat}(hw:r<=w)(hU:∀k c,k<r->c<k->U k c=0)(hV:∀l,l<r->In w r U (V l))(h0:∀l i,l<r->i<r->l<i->V l i=0):prodN (fun j=>U j j) r∣prodN (fun j=>V j j) r:=by
 have ch:∀l,∃x:Nat->Int,l<r->∀c,c<w->V l c=Aq (fun k=>x k*U k c) r:=fun l=>by
  by_cases hl:l<r
  . obtain⟨x,hx⟩:=hV l hl;exact⟨x,fun _=>hx⟩
  . exact⟨fun _=>0,fun z=>absurd z hl⟩
 obtain⟨X,hX⟩:∃X:Nat->Nat->Int,∀l,l<r->∀c,c<w->V l c=Aq (fun k=>X l k*U k c) r:=Classical.axiomOfChoice ch;have e1:det r (tr V)=prodN (fun j=>V j j) r:=R5 (A:=tr V) fun i l hi hl=>h0 l i O9m hi hl;have e2:=bA (i:=r) (T:=tr U) (V:=tr V) (Z:=tr X) (fun i l hi hl=>?_) r (qa0 _)
 . rw[e1]at e2;exact⟨_,e2⟩
 . show V l i=_;rw[hX l hl i (by omega)]
   have:∀m,m<=r-(i+1)->Aq (fun k=>X l k*U k i) (i+1+m)=Aq (fun j=>tr U i j*tr X j l) (i+1):=by
    intro m
    induction m with
    | zero=>intro _;exact Az fun k _=>qe7 ..
    | succ m ih =>
      intro hm;show Aq (fun k=>X l k*U k i) (i+1+m)+X l (i+1+m)*U (i+1+m) i=_;rw[ih (by omega),hU (i+1+m) i (by omega) (by omega)];omega
   have:=this (r-(i+1)) (qa0 _);rw[show i+1+(r-(i+1))=r by omega]at this;exact this
theorem Tc{f:Nat->Int}{n:Nat}(h:∀k,k<n->0<f k):∀m,m<=n->prodN f m<=prodN f n:=fun m hm=>by
 have:∀d,m+d<=n->prodN f m<=prodN f (m+d):=by
  intro d
  induction d with
  | zero=>intro _;exact Int.le_refl _
  | succ d ih =>
    intro hd;refine qp7 (ih O9m) ?_;show prodN f (m+d)<=prodN f (m+d)*f (m+d);have p:=Cy (n:=m+d) fun k hk=>h k O9m;have q:=h (m+d) O9m;have:=qj0 (show 1<=f (m+d) by omega) (show 0<=prodN f (m+d) by omega);rw[qq7]at this;exact this
 have:=this (n-m) O9m;rw[show m+(n-m)=n by omega]at this;exact this
theorem GC{w r:Nat}{T:Mat}{E:Nat}(hp:∀j,j<r->0<T j j)(h:∀i c,i<r->c<w->i<c->T i c=0)(hE:prodN (fun j=>T j j) r<=E):K8 r (fun c=>c<w) T E:=fun i hi s hs=>by
 have t:=LN (i:=i) (T:=fun a c=>if c<w then T a c else 0) (fun a c ha hac=>by
  show(if c<w then T a c else 0)=0;by_cases z:c<w
  . rw[if_pos z];exact h a c O9m z hac
  . rw[if_neg z]) s
 have e:(det i fun r l=>T r (s l))=det i fun r l=>(fun a c=>if c<w then T a c else 0) r (s l):=Dc fun a c ha hc=>(if_pos (hs c hc)).symm;rw[e];refine qa1 t ?_;by_cases z:i<=w
 . have e2:prodN (fun j=>(fun a c=>if c<w then T a c else 0) j j) i=prodN (fun j=>T j j) i:=by
    have:∀m,m<=w->prodN (fun j=>(fun a c=>if c<w then T a c else 0) j j) m=prodN (fun j=>T j j) m:=by
     intro m
     induction m with
     | zero=>intro _;rfl
     | succ m ih =>
       intro hm;show _*_=_*_;rw[ih (by omega)];show _*(if m<w then T m m else 0)=_;rw[if_pos (by omega)]
    exact this i z
   rw[e2];have a:=Tc (n:=r) (f:=fun j=>T j j) hp i hi;have b:=Cy (n:=i) (f:=fun j=>T j j) fun k hk=>hp k O9m;omega
 . have e2:prodN (fun j=>(fun a c=>if c<w then T a c else 0) j j) i=0:=by
    have:∀m,w<m->prodN (fun j=>(fun a c=>if c<w then T a c else 0) j j) m=0:=by
     intro m
     induction m with
     | zero=>intro _;omega
     | succ m ih =>
       intro hm;show _*(if m<w then T m m else 0)=0;by_cases y:w<m
       . rw[ih y];simp
       . rw[if_neg (by omega)];simp
    exact this i O9m
   rw[e2];exact qa8 _
structure F8(n w r:Nat)(E:Nat)(e:Int)(T:Mat):Prop where
 sq:Gj n w r e T
 low:∀i c,i<n->c<w->i<c->T i c=0
 pos:∀j,j<r->0<T j j
 dvd:∀j,j<r->T j j∣e
 prod:prodN (fun j=>T j j) r<=E
 le:∀i c,i<n->c<w->0<=T i c/\T i c<=e
 red:∀k j,k<j->j<r->0<=T j k/\T j k<T j j
theorem i5{n w r:Nat}{E:Nat}{e:Int}{T:Mat}{u:Nat->Nat}(he:0<e)(sq:Gj n w r e T)(hst:Em n r (tr T) u)(hu:∀j,j<r->u j=j)(hd:∀j,j<r->T j j∣e)(hE:prodN (fun j=>T j j) r<=E):F8 n w r E e T:=by
 refine⟨sq,fun i c hi hc hic=>?_,fun j hj=>?_,hd,hE,fun i c hi hc=>cL he sq.flip hst hu hd hc hi,fun k j hk hj=>by
  have:=hst.red k j hk hj;rw[hu j hj]at this;exact this⟩
 . by_cases z:c<r
   . exact hst.zero c i z (by rw[hu c z];exact hic)
   . exact sq.col0 i c hi O9m hc
 . have:=hst.pos j hj;rw[hu j hj]at this;exact this
theorem Dt.going{n w r:Nat}{E:Nat}{e:Int}{T T':Mat}(s:Dt n w T T')(he:0<e)(h:F8 n w r E e T):F8 w n r E e (tr T'):=by
 obtain⟨sq,t,hst,ht,hd⟩:=s.square he h.sq;have pos:∀j,j<r->0<T' j j:=fun j hj=>by have:=hst.pos j hj;rw[ht j hj]at this;exact this
 refine i5 he sq.flip hst ht hd ?_;have rn:=h.sq.rn;have rw':=h.sq.rw;have d:=Wk (w:=w) (r:=r) (U:=T') (V:=T) rw' (fun k c hk hc=>hst.zero k c hk (by rw[ht k hk];exact hc)) (fun l hl=>(s.bwd l O9m).sub rn sq.row0) (fun l i hl hi hli=>h.low l i O9m O9m hli);have p:=Cy (n:=r) (f:=fun j=>T j j) h.pos;exact qp7 (qj4 p d) h.prod
theorem Qz.going{n w r:Nat}{E:Nat}{e:Int}{T Kd:Mat}(s:Qz n w T Kd)(he:0<e)(h:F8 n w r E e T):F8 n w r E e Kd:=by
 obtain⟨T',s1,s2⟩:=s;exact s2.going he (s1.going he h)
theorem Qz.first{n w r:Nat}{E:Nat}{T T' Kd:Mat}{t:Nat->Nat}(hr:r<=n)(hst:Em w r T' t)(hz:∀i c,r<=i->i<n->c<w->T' i c=0)(s2:Dt w n (tr T') (tr Kd))(hE:prodN (fun j=>T' j (t j)) r<=E):F8 n w r E (prodN (fun j=>T' j (t j)) r) Kd:=by
 obtain⟨hw,sq,u,hu,mR,hd⟩:=Qz.square (T:=T) hr hst hz s2;have he:0<prodN (fun j=>T' j (t j)) r:=Cy fun j hj=>hst.pos j hj;refine i5 he sq hu mR hd ?_;have d:=Wk (w:=n) (r:=r) (U:=tr Kd) (V:=fun l i=>T' i (t l)) hr (fun k c hk hc=>hu.zero k c hk (by rw[mR k hk];exact hc)) (fun l hl=>(s2.bwd (t l) (hst.lt l hl)).sub hw sq.flip.row0) (fun l i hl hi hli=>hst.s0.low hi hli);exact qp7 (qj4 he d) hE
theorem F8.dets{n w r:Nat}{E:Nat}{e:Int}{T:Mat}(h:F8 n w r E e T):K8 r (fun c=>c<w) T E:=GC h.pos (fun i c hi=>h.low i c (by have:=h.sq.rn;omega)) h.prod
noncomputable def eS(n w r L m:Nat)(T:Mat):Prop:=Straight n w T\/(∃k,k<=r/\Kf n w k T/\(r-k)*(L+2)<=m)\/(∃k,k<r/\cB n w k T/\(r-k-1)*(L+2)+(T k k).natAbs.log2+1<=m)
theorem F8.straight{n w r:Nat}{E:Nat}{e:Int}{T:Mat}(h:F8 n w r E e T)(c:Kf n w r T):Straight n w T:=fun i j hi hj hne=>by
 by_cases z:i<r
 . exact c.2.2.2.1 i j z hj (fun y=>hne y.symm)
 . exact h.sq.row0 i j O9m hi hj
theorem log2_lt{a b:Nat}(ha:0<a)(h:a∣b)(hlt:a<b):a.log2<b.log2:=by
 obtain⟨k,hk⟩:=h
 have k2:2<=k:=by
  rcases k with _ | _ | k
  . omega
  . omega
  . omega
 have b2:2*a<=b:=by
  rw[hk,Nat.mul_comm 2 a];exact qd2 _ k2
 have e:(2*a).log2=a.log2+1:=Nat.log2_two_mul O9m
 have m:(2*a).log2<=b.log2:=by
  rw[Nat.le_log2 (by omega)];exact qa1 (Nat.log2_self_le O9m) b2
 omega
theorem eS.start{n w r L:Nat}{E:Nat}{e:Int}{T:Mat}(h:F8 n w r E e T):eS n w r L (r*(L+2)) T:=.inr (.inl ⟨0,qa8 _,⟨qa8 _,qa8 _,fun j hj=>O9m,fun j c hj=>O9m,fun i j _ hj=>O9m⟩,by rw[qr8];exact qa0 _⟩)
theorem F8.next{n w r L m:Nat}{E:Nat}{e:Int}{T Kd:Mat}(he:0<e)(hL:e.natAbs.log2<=L)(h:F8 n w r E e T)(s:Qz n w T Kd)(f:eS n w r L m T)(ns:¬Straight n w T):0<m/\eS n w r L (m-1) Kd:=by
 have g:=s.going he h;rcases f with f|⟨k,hk,c,hm⟩|⟨k,hk,c,hm⟩
 . exact absurd f ns
 . have kr:k<r:=by
    refine Nat.lt_of_le_of_ne hk fun z=>ns ?_;subst z;exact h.straight c
   have e1:(r-k)*(L+2)=(r-k-1)*(L+2)+(L+2):=by rw[show r-k=(r-k-1)+1 by omega,qd4,qd1,Nat.add_sub_cancel]
   refine⟨O9m,?_⟩;obtain⟨c2,q⟩:=s.next c;rcases q with q | q
   . exact .inl q
   . refine .inr (.inr ⟨k,kr,q,?_⟩);have d:=h.dvd k kr;have d2:=g.dvd k kr;have p:=g.pos k kr
     have l:(Kd k k).natAbs.log2<=L:=by
      refine qa1 ?_ hL;rw[Nat.le_log2 (by omega)];refine qa1 (Nat.log2_self_le O9m) ?_;have:=qj4 he d2;omega
     omega
 . refine⟨O9m,?_⟩;rcases s.less c with q|⟨q1,q2,q3⟩
   . refine .inr (.inl ⟨k+1,O9m,q,?_⟩);rw[show r-(k+1)=r-k-1 by omega];omega
   . refine .inr (.inr ⟨k,hk,q1,?_⟩);have p:=g.pos k hk;have p0:=h.pos k hk;have:=log2_lt (a:=(Kd k k).natAbs) (b:=(T k k).natAbs) O9m (qp5.mpr q2) O9m;omega
end Lat
namespace Lat
structure nK(A B r1 x1 y1 r2 x2 y2:Int):Prop where
 e1:r1=x1*A+y1*B
 e2:r2=x2*A+y2*B
 dt:x1*y2-x2*y1=1\/x1*y2-x2*y1=-1
 dv:∀d:Int,d∣r1->d∣r2->d∣A/\d∣B
structure NW(A B r1 x1 y1 r2 x2 y2:Int):Prop where
 a:nK A B r1 x1 y1 r2 x2 y2
 rr:0<=r1*r2
 r0:r1≠0
 xx:x1*x2<=0
 yy:y1*y2<=0
 lx:x1.natAbs<=B.natAbs
 ly:y1.natAbs<=A.natAbs
theorem BC{u v:Int}(h:0<=u*v):(u+v).natAbs=u.natAbs+v.natAbs:=by
 rcases Int.lt_trichotomy u 0 with z | z | z
 . have:v<=0:=by
    refine qo2.mp fun y=>?_;have:=Int.mul_neg_of_neg_of_pos z y;omega
   omega
 . subst z;omega
 . have:0<=v:=by
    refine qo2.mp fun y=>?_;have:=Int.mul_neg_of_pos_of_neg z y;omega
   omega
theorem NW.next_le{A B r1 x1 y1 r2 x2 y2:Int}(h:NW A B r1 x1 y1 r2 x2 y2):x2.natAbs<=B.natAbs/\y2.natAbs<=A.natAbs:=by
 have QW:1<=r1.natAbs:=by have:=h.r0;omega
 have hA:A.natAbs=(y2*r1+-y1*r2).natAbs:=by
  have e:(x1*y2-x2*y1)*A=y2*r1+-y1*r2:=by rw[h.a.e1,h.a.e2];grind
  rcases h.a.dt with d | d
  . rw[d,qc0]at e;rw[e]
  . rw[d]at e;have:A.natAbs=(-1*A).natAbs:=O9m
    rw[this,e]
 have hB:B.natAbs=(x2*r1+-x1*r2).natAbs:=by
  have e:(x1*y2-x2*y1)*B=-(x2*r1+-x1*r2):=by rw[h.a.e1,h.a.e2];grind
  rcases h.a.dt with d | d
  . rw[d,qc0]at e;rw[e,qb4]
  . rw[d]at e;have:B=x2*r1+-x1*r2:=O9m
    rw[this]
 have k1:0<=(y2*r1)*(-y1*r2):=by
  have:(y2*r1)*(-y1*r2)=(-(y1*y2))*(r1*r2):=by grind
  rw[this];exact qf8 (by have:=h.yy;omega) h.rr
 have k2:0<=(x2*r1)*(-x1*r2):=by
  have:(x2*r1)*(-x1*r2)=(-(x1*x2))*(r1*r2):=by grind
  rw[this];exact qf8 (by have:=h.xx;omega) h.rr
 rw[BC k1,qa9]at hA;rw[BC k2,qa9]at hB;have a1:x2.natAbs*1<=x2.natAbs*r1.natAbs:=qd2 _ QW;have a2:y2.natAbs*1<=y2.natAbs*r1.natAbs:=qd2 _ QW;omega
theorem nK.step{A B r1 x1 y1 r2 x2 y2:Int}(h:nK A B r1 x1 y1 r2 x2 y2)(q:Int):nK A B r2 x2 y2 (r1-q*r2) (x1-q*x2) (y1-q*y2):=by
 refine⟨h.e2,?_,?_,fun d h1 h2=>h.dv d ?_ h1⟩
 . rw[h.e1,h.e2];grind
 . have:x2*(y1-q*y2)-(x1-q*x2)*y2=-(x1*y2-x2*y1):=by grind
   rw[this];rcases h.dt with z | z<;>rw[z]<;>omega
 . have:=Int.dvd_add h2 (qo3 (a:=d) (b:=q) h1);have e:r1-q*r2+q*r2=r1:=O9m
   rw[e]at this;exact this
theorem Wr{r1 r2:Int}(h:0<=r1*r2)(h2:r2≠0):0<=r1.fdiv r2/\(r1-r1.fdiv r2*r2).natAbs<r2.natAbs/\0<=r2*(r1-r1.fdiv r2*r2):=by
 have e:r1-r1.fdiv r2*r2=r1.fmod r2:=by have:=Int.mul_fdiv_add_fmod r1 r2;rw[qe7]at this;omega
 rw[e];rcases Int.lt_or_gt_of_ne h2 with z | z
 . have ZH:r1<=0:=by
    refine qo2.mp fun y=>?_;have:=Int.mul_neg_of_pos_of_neg y z;omega
   have q:r1.fdiv r2=(-r1).fdiv (-r2):=by rw[Int.neg_fdiv_neg]
   have m:r1.fmod r2=-((-r1).fmod (-r2)):=by rw[Int.neg_fmod_neg];omega
   have m0:=qo9 (a:=-r1) (b:=-r2) O9m;have m1:=qr1 (-r1) (b:=-r2) O9m;refine⟨?_,O9m,?_⟩
   . rw[q,qd6 _ (by omega)];exact Int.ediv_nonneg O9m O9m
   . rw[m];have:r2*-((-r1).fmod (-r2))=(-r2)*(-r1).fmod (-r2):=by rw[Int.mul_neg,ql6]
     rw[this];exact qf8 O9m m0
 . have QW:0<=r1:=by
    refine qo2.mp fun y=>?_;have:=Int.mul_neg_of_neg_of_pos y z;omega
   have m0:=qo9 (a:=r1) (b:=r2) z;have m1:=qr1 r1 z;refine⟨?_,O9m,qf8 O9m m0⟩;rw[qd6 _ (by omega)];exact Int.ediv_nonneg QW O9m
theorem NW.step{A B r1 x1 y1 r2 x2 y2:Int}(h:NW A B r1 x1 y1 r2 x2 y2)(h2:r2≠0):NW A B r2 x2 y2 (r1-r1.fdiv r2*r2) (x1-r1.fdiv r2*x2) (y1-r1.fdiv r2*y2)/\(r1-r1.fdiv r2*r2).natAbs<r2.natAbs:=by
 obtain⟨q0,q1,q2⟩:=Wr h.rr h2;obtain⟨l1,l2⟩:=h.next_le;generalize r1.fdiv r2=q at *;refine⟨⟨h.a.step q,q2,h2,?_,?_,l1,l2⟩,q1⟩
 . have:x2*(x1-q*x2)=x1*x2-q*(x2*x2):=by grind
   rw[this];have a:=h.xx;have b:0<=q*(x2*x2):=qf8 q0 (by rw[←Int.natAbs_mul_self (a:=x2)];omega);omega
 . have:y2*(y1-q*y2)=y1*y2-q*(y2*y2):=by grind
   rw[this];have a:=h.yy;have b:0<=q*(y2*y2):=qf8 q0 (by rw[←Int.natAbs_mul_self (a:=y2)];omega);omega
noncomputable def EuI(A B r1 x1 y1 r2 x2 y2:Int):Prop :=
 NW A B r1 x1 y1 r2 x2 y2\/(B<0/\r1=A/\x1=1/\y1=0/\r2=B/\x2=0/\y2=1) ∨
 (B<0/\r1=B/\x1=0/\y1=1/\r2=A-A.fdiv B*B/\x2=1/\y2=-(A.fdiv B))
theorem EuI.start{A B:Int}(hA:0<A)(hB:B≠0):EuI A B A 1 0 B 0 1:=by
 rcases Int.lt_or_gt_of_ne hB with z | z
 . exact .inr (.inl ⟨z,rfl,rfl,rfl,rfl,rfl,rfl⟩)
 . refine .inl ⟨⟨O9m,O9m,.inl rfl,fun d h1 h2=>⟨h1,h2⟩⟩,qf8 O9m O9m,O9m,O9m,O9m,O9m,O9m⟩
theorem Mc{A B:Int}(hA:0<A)(hB:B<0):A.fdiv B<=-1/\-A<=A.fdiv B/\A-A.fdiv B*B<=0/\(A-A.fdiv B*B).natAbs<B.natAbs:=by
 have e:A-A.fdiv B*B=A.fmod B:=by have:=Int.mul_fdiv_add_fmod A B;rw[qe7]at this;omega
 have m:A.fmod B=-((-A).fmod (-B)):=by rw[Int.neg_fmod_neg];omega
 have m0:=qo9 (a:=-A) (b:=-B) O9m;have m1:=qr1 (-A) (b:=-B) O9m;have k:A.fdiv B*B=A-A.fmod B:=O9m
 rw[e]
 have q1:A.fdiv B<=-1:=by
  refine qo2.mp fun y=>?_;have:=qf8 (show 0<=A.fdiv B by omega) (show 0<=-B by omega);rw[Int.mul_neg]at this;omega
 refine⟨q1,?_,O9m,O9m⟩;refine qo2.mp fun y=>?_;have h:=qq2 (show A+1<=-(A.fdiv B) by omega) (show 1<=-B by omega) O9m O9m;have h2:-(A.fdiv B)*-B=A.fdiv B*B:=by rw[Int.neg_mul_neg]
 rw[h2]at h;have h3:=qq2 (show A+1<=-(A.fdiv B) by omega) (Int.le_refl (-B)) O9m O9m;rw[h2,Int.add_mul]at h3;have h4:A*1<=A*-B:=qj0 O9m O9m;omega
theorem EuI.step{A B r1 x1 y1 r2 x2 y2:Int}(hA:0<A)(h:EuI A B r1 x1 y1 r2 x2 y2)(h2:r2≠0) :
 EuI A B r2 x2 y2 (r1-r1.fdiv r2*r2) (x1-r1.fdiv r2*x2) (y1-r1.fdiv r2*y2)/\(r1-r1.fdiv r2*r2).natAbs<r2.natAbs:=by
 rcases h with h|⟨hB,e1,e2,e3,e4,e5,e6⟩|⟨hB,e1,e2,e3,e4,e5,e6⟩
 . exact⟨.inl (h.step h2).1,(h.step h2).2⟩
 . subst e1 e2 e3 e4 e5 e6;obtain⟨_,_,_,q⟩:=Mc hA hB;exact⟨.inr (.inr ⟨hB,rfl,rfl,rfl,rfl,O9m,O9m⟩),q⟩
 . obtain⟨q1,q2,q3,q4⟩:=Mc hA hB;have e0:nK A B A 1 0 B 0 1:=⟨O9m,O9m,.inl rfl,fun d h1 h2=>⟨h1,h2⟩⟩
   have e7:=e0.step (A.fdiv B);rw[←e4]at e7 q3 q4
   have rr:0<=B*r2:=by
    have:=qf8 (show 0<=-B by omega) (show 0<=-r2 by omega);rw[Int.neg_mul_neg]at this;exact this
   obtain⟨p0,p1,p2⟩:=Wr rr h2
   have p3:1<=B.fdiv r2:=by
    refine qo2.mp fun y=>?_;have:B.fdiv r2=0:=O9m
    rw[this]at p1;omega
   have f1:(1:Int)-A.fdiv B*0=x2:=O9m
   have f2:(0:Int)-A.fdiv B*1=y2:=O9m
   rw[f1,f2]at e7;have e8:=e7.step (B.fdiv r2);subst e1 e2 e3;refine⟨.inl ⟨e8,p2,h2,?_,?_,O9m,O9m⟩,p1⟩
   . subst e5;omega
   . generalize r1.fdiv r2=p at *;have g1:y2*(1-p*y2)=-((p*y2-1)*y2):=by grind
     rw[g1];have g2:1*y2<=p*y2:=qg8 p3 O9m;have:=qf8 (show 0<=p*y2-1 by omega) (show 0<=y2 by omega);omega
theorem EuI.all{A B r1 x1 y1 r2 x2 y2:Int}(hA:0<A)(hB:B≠0)(h:EuI A B r1 x1 y1 r2 x2 y2) :
 nK A B r1 x1 y1 r2 x2 y2/\r1≠0/\x1.natAbs<=B.natAbs/\y1.natAbs<=A.natAbs/\x2.natAbs<=B.natAbs/\y2.natAbs<=A.natAbs:=by
 have e0:nK A B A 1 0 B 0 1:=⟨O9m,O9m,.inl rfl,fun d h1 h2=>⟨h1,h2⟩⟩
 rcases h with h|⟨hB,e1,e2,e3,e4,e5,e6⟩|⟨hB,e1,e2,e3,e4,e5,e6⟩
 . exact⟨h.a,h.r0,h.lx,h.ly,h.next_le.1,h.next_le.2⟩
 . subst e1 e2 e3 e4 e5 e6;exact⟨e0,O9m,O9m,O9m,O9m,O9m⟩
 . obtain⟨q1,q2,q3,q4⟩:=Mc hA hB;have e7:=e0.step (A.fdiv B);have f1:(1:Int)-A.fdiv B*0=x2:=O9m
   have f2:(0:Int)-A.fdiv B*1=y2:=O9m
   rw[f1,f2,←e4]at e7;subst e1 e2 e3;exact⟨e7,O9m,O9m,O9m,O9m,O9m⟩
structure Shares(A B g a b:Int):Prop where
 pos:0<g
 e:g=a*A+b*B
 dA:g∣A
 dB:g∣B
 la:a.natAbs<=B.natAbs
 lb:b.natAbs<=A.natAbs
theorem EuI.last{A B r1 x1 y1 x2 y2:Int}(hA:0<A)(hB:B≠0)(h:EuI A B r1 x1 y1 0 x2 y2) :
 (0<r1->Shares A B r1 x1 y1)/\(r1<0->Shares A B (-r1) (-x1) (-y1))/\r1≠0:=by
 obtain⟨k,r0,a1,a2,_,_⟩:=h.all hA hB;obtain⟨d1,d2⟩:=k.dv r1 (Int.dvd_refl _) (Int.dvd_zero _);refine⟨fun p=>⟨p,k.e1,d1,d2,a1,a2⟩,fun p=>⟨O9m,?_,Int.neg_dvd.mpr d1,Int.neg_dvd.mpr d2,O9m,O9m⟩,r0⟩;rw[k.e1,ql6,ql6];omega
theorem Shares.blend{A B g a b:Int}{π:Nat}(hA:0<A)(h:Shares A B g a b)(lA:A.natAbs<=2 ^ π)(lB:B.natAbs<=2 ^ π):cC π A B a b (-(B / g)) (A / g):=by
 obtain⟨p,eA⟩:=h.dA;obtain⟨q,eB⟩:=h.dB;have g0:g≠0:=by have:=h.pos;omega
 have k1:A / g=p:=by rw[eA];exact qh0 _ g0
 have k2:B / g=q:=by rw[eB];exact qh0 _ g0
 have gn:1<=g.natAbs:=by have:=h.pos;omega
 have n1:p.natAbs<=A.natAbs:=by rw[eA,qa9];exact qo7 _ gn
 have n2:q.natAbs<=B.natAbs:=by rw[eB,qa9];exact qo7 _ gn
 rw[k1,k2];refine⟨?_,by have:=h.pos;have:=h.e;omega,?_,qa1 h.la lB,qa1 h.lb lA,O9m,O9m⟩
 . have e:=h.e
   have:g*(a*p-b*-q)=g*1:=by
    rw[qq7];refine Eq.trans ?_ e.symm;rw[eA,eB]
    grind
   exact Int.eq_of_mul_eq_mul_left g0 this
 . rw[eA,eB]
   grind
end Lat
namespace Lat
open Hb
noncomputable def Nm(n:Nat)(C:Nat->Prop)(δ b:Nat)(R:Mat):Prop:=∀r c,r<n->C c->(R r c).natAbs*2 ^ δ<2 ^ b
theorem Mv{x y a k:Int}{δ b c:Nat}(hx:x.natAbs*2 ^ δ<2 ^ b)(hy:y.natAbs*2 ^ δ<2 ^ b)(ha:a.natAbs<=2 ^ c)(hk:k.natAbs<=2 ^ c):(a*x+k*y).natAbs*2 ^ δ<2 ^ (b+c+1):=by
 have e:=qd0 (a*x) (k*y);rw[qa9,qa9]at e;have e2:=qb1 (2 ^ δ) e;rw[qd4,Nat.mul_assoc,Nat.mul_assoc]at e2;have p:0<2 ^ c:=Nat.two_pow_pos c;have u:a.natAbs*(x.natAbs*2 ^ δ)<2 ^ c*2 ^ b:=qa4 (qb1 _ ha) (qm7 hx p);have v:k.natAbs*(y.natAbs*2 ^ δ)<2 ^ c*2 ^ b:=qa4 (qb1 _ hk) (qm7 hy p);rw[show b+c+1=(c+b)+1 by omega,qg7,qc7];omega
theorem Nm.mono{n δ b b':Nat}{C:Nat->Prop}{R:Mat}(h:Nm n C δ b R)(hb:b<=b'):Nm n C δ b' R:=fun r c hr hc=>qa6 (h r c hr hc) (qe1 (by decide) hb)
theorem Nm.add{n δ b c p q:Nat}{C:Nat->Prop}{R:Mat}(h:Nm n C δ b R)(hq:q<n){k:Int}(hk:k.natAbs<2 ^ c):Nm n C δ (b+c+1) (addR R p q k):=fun r x hr hx=>by
 by_cases e:r=p
 . subst e;rw[Cp];exact Mv (h r x hr hx) (h q x hq hx) (show 1<=2 ^ c from qg9) (qc3 hk)
 . rw[C3 e];exact(h.mono O9m) r x hr hx
theorem Nm.blend{n δ b e p q:Nat}{C:Nat->Prop}{R:Mat}(h:Nm n C δ b R)(hp:p<n)(hq:q<n)(ne:p≠q){x y z u:Int}(hx:x.natAbs<2 ^ e)(hy:y.natAbs<2 ^ e)(hz:z.natAbs<2 ^ e)(hu:u.natAbs<2 ^ e):Nm n C δ (b+e+1) (blendR R p q x y z u):=fun r c hr hc=>by
 by_cases e1:r=p
 . subst e1;rw[Fm ne];exact Mv (h r c hr hc) (h q c hq hc) (qc3 hx) (qc3 hy)
 . by_cases e2:r=q
   . subst e2;rw[Go];exact Mv (h p c hp hc) (h r c hr hc) (qc3 hz) (qc3 hu)
   . rw[Df e1 e2];exact(h.mono O9m) r c hr hc
variable{C:Nat->Prop}{δ:Nat}
noncomputable def BB(n W:Nat)(C:Nat->Prop)(δ β:Nat)(s:Mat × Mat):Prop:=Bits n W β s.1/\Bits n n β s.2/\Nm n C δ β s.1
theorem BB.mono{n W β β':Nat}{s:Mat × Mat}(h:BB n W C δ β s)(hb:β<=β'):BB n W C δ β' s:=⟨h.1.mono hb,h.2.1.mono hb,h.2.2.mono hb⟩
noncomputable def addS(p q:Nat)(k:Int)(s:Mat × Mat):Mat × Mat:=(addR s.1 p q k,addR s.2 q p (-k))
noncomputable def blendS(p q:Nat)(x y z u:Int)(s:Mat × Mat):Mat × Mat:=(blendR s.1 p q x y z u,blendR s.2 p q u (-z) (-y) x)
theorem BB.add{n W β c p q:Nat}{s:Mat × Mat}(h:BB n W C δ β s)(hp:p<n)(hq:q<n){k:Int}(hk:k.natAbs<2 ^ c):BB n W C δ (β+(c+1)) (addS p q k s) :=
 ⟨(h.1.add hp hq hk).mono O9m,(h.2.1.add hq hp (k:=-k) (by rw[qb4];exact hk)).mono O9m,(h.2.2.add hq hk).mono O9m⟩
theorem BB.blend{n W β c p q:Nat}{s:Mat × Mat}(h:BB n W C δ β s)(hp:p<n)(hq:q<n)(ne:p≠q){x y z u:Int}(hx:x.natAbs<2 ^ c)(hy:y.natAbs<2 ^ c)(hz:z.natAbs<2 ^ c)(hu:u.natAbs<2 ^ c):BB n W C δ (β+(c+1)) (blendS p q x y z u s) :=
 ⟨(h.1.blend hp hq ne hx hy hz hu).mono O9m,(h.2.1.blend hp hq ne (x:=u) (y:=-z) (z:=-y) (u:=x) hu (by rw[qb4];exact hz) (by rw[qb4];exact hy) hx).mono O9m,(h.2.2.blend hp hq ne hx hy hz hu).mono O9m⟩
noncomputable def shrS(t:Nat->Nat)(p f:Nat)(s:Mat × Mat):Nat->Mat × Mat
 | 0=>s
 | d+1=>addS p (f+d) (-((shrS t p f s d).1 p (t (f+d)) / (shrS t p f s d).1 (f+d) (t (f+d)))) (shrS t p f s d)
theorem bE{n W w lo:Nat}{R B:Mat}{t:Nat->Nat}{p f m μ β c:Nat}(P:Ol R t f m)(h:∀l,f<=l->l<m->(R p (t l)).natAbs<=μ*(R l (t l)).natAbs)(hp:p<lo)(hm:m<=lo)(hn:lo<=n)(hpf:p<f\/m<=p)(hc:2 ^ (m-f)*μ<2 ^ c)(b:BB n W C δ β (R,B)) :
 ∀d,f+d<=m->eV n W w lo R B t p f m (f+d) μ (shrS t p f (R,B) d).1 (shrS t p f (R,B) d).2/\BB n W C δ (β+d*(c+1)) (shrS t p f (R,B) d)/\∀l c,l≠p->(shrS t p f (R,B) d).1 l c=R l c:=by
 intro d
 induction d with
 | zero=>intro _;exact⟨eV.start h,b.mono O9m,fun _ _ _=>rfl⟩
 | succ d ih =>
   intro hd;obtain⟨i1,i2,i3⟩:=ih O9m;obtain⟨q1,q2⟩:=i1.step P O9m (show f+d<m by omega) hp hm hn hpf;have e:(shrS t p f (R,B) d).1 (f+d) (t (f+d))=R (f+d) (t (f+d)):=i3 _ _ O9m
   have qb:(-((shrS t p f (R,B) d).1 p (t (f+d)) / (shrS t p f (R,B) d).1 (f+d) (t (f+d)))).natAbs<2 ^ c:=by
    rw[qb4,e];refine qa4 q1 (qa4 ?_ hc);exact qb1 _ (C5 O9m)
   refine⟨?_,(i2.add O9m O9m qb).mono (by rw[qd4];omega),fun l c hl=>?_⟩
   . show eV n W w lo R B t p f m (f+d+1) μ (addR (shrS t p f (R,B) d).1 p (f+d) _) (addR (shrS t p f (R,B) d).2 (f+d) p _);rw[e,qk6];exact q2
   . show addR (shrS t p f (R,B) d).1 p (f+d) _ l c=_;rw[C3 hl];exact i3 l c hl
theorem fF{n W w i:Nat}{G:Nat->Prop}{R B:Mat}{t:Nat->Nat}{b p spot μ:Nat}(P:Ol R t (spot+1) i)(h:∀l,spot<l->l<i->(R p (t l)).natAbs<=μ*(R l (t l)).natAbs)(hG:∀r c,spot<r->r<i->G c->(R r c).natAbs<=2 ^ b)(hn:i<n)(hp:p<=spot\/p=i) :
 ∀d,spot+1+d<=i->Vr n W w i G R B t b p spot μ (spot+1+d) (shrS t p (spot+1) (R,B) d).1 (shrS t p (spot+1) (R,B) d).2:=by
 intro d
 induction d with
 | zero=>intro _;exact Vr.start h
 | succ d ih =>
   intro hd;have i1:=ih O9m;obtain⟨q1,q2⟩:=i1.step P hG O9m (show spot+1+d<i by omega) hn hp;have e:(shrS t p (spot+1) (R,B) d).1 (spot+1+d) (t (spot+1+d))=R (spot+1+d) (t (spot+1+d)):=i1.s.same _ _ O9m;show Vr n W w i G R B t b p spot μ (spot+1+d+1) (addR (shrS t p (spot+1) (R,B) d).1 p (spot+1+d) _) (addR (shrS t p (spot+1) (R,B) d).2 (spot+1+d) p _);rw[e,qk6];exact q2
theorem Np{n W w i:Nat}{G:Nat->Prop}{R B:Mat}{t:Nat->Nat}{b p spot μ β c:Nat}(P:Ol R t (spot+1) i)(inc:∀l,spot<l->l<i->t spot<t l)(h:∀l,spot<l->l<i->(R p (t l)).natAbs<=μ*(R l (t l)).natAbs)(hG:∀r c,spot<r->r<i->G c->(R r c).natAbs<=2 ^ b)(hs:spot<i)(hn:i<n)(hp:p<=spot\/p=i)(hc:2 ^ i*μ<2 ^ c)(bb:BB n W C δ β (R,B)) :
 Us n W w i G R B t b p spot μ (shrS t p (spot+1) (R,B) (i-(spot+1))).1 (shrS t p (spot+1) (R,B) (i-(spot+1))).2/\∀d,spot+1+d<=i->BB n W C δ (β+i*(c+1)) (shrS t p (spot+1) (R,B) d):=by
 have r:=fF (W:=W) (w:=w) (B:=B) (b:=b) P h hG hn hp (i-(spot+1)) O9m;rw[show spot+1+(i-(spot+1))=i by omega]at r;refine⟨r.done inc,fun d hd=>?_⟩;have:=(bE (W:=W) (w:=w) (lo:=i+1) (B:=B) P (fun l h1 h2=>h l O9m h2) O9m O9m O9m O9m (c:=c) (qa4 (qb1 _ (C5 O9m)) hc) bb d hd).2.1;refine this.mono ?_;have:=qb1 (c+1) (show d<=i by omega);omega
end Lat
namespace Lat
open Hb
variable{C:Nat->Prop}{δ:Nat}
noncomputable abbrev cS(π i:Nat):Nat:=i+2*π+2
noncomputable abbrev cM(π i:Nat):Nat:=π+2+2*(i*(cS π i+1))
theorem Wd{x π:Nat}(h:x<=2 ^ π):x<2 ^ (π+1):=by
 have:1<=2 ^ π:=qg9;rw[qg7];omega
theorem GY{π i μ:Nat}(h:μ<=2 ^ (2*π+1)):2 ^ i*μ<2 ^ cS π i:=by
 have e:2 ^ cS π i=2*(2 ^ i*2 ^ (2*π+1)):=by
  rw[show cS π i=1+(i+(2*π+1)) by unfold cS;omega,qc7,qc7,Nat.pow_one]
 rw[e];have a:=qd2 (2 ^ i) h;have b:1<=2 ^ i*2 ^ (2*π+1):=by rw[←qc7];exact qg9
 omega
variable{n W w i:Nat}{G:Nat->Prop}{R0 B0 R B:Mat}{t:Nat->Nat}{π b spot β:Nat}
theorem C9.partOf(H:Hj n W w i G R0 B0 t π b)(h:C9 n W w i G R0 B0 t π b spot R B){R1:Mat}(e:∀r c,spot<r->r<i->R1 r c=R r c) :
 Ol R1 t (spot+1) i/\(∀l,spot<l->l<i->t spot<t l)/\∀r c,spot<r->r<i->G c->(R1 r c).natAbs<=2 ^ b:=by
 have k:∀r c,spot<r->r<i->R1 r c=R0 r c:=fun r c h1 h2=>(e r c h1 h2).trans (h.old r c O9m h2);refine⟨(H.part.sub (qa8 _)).congr fun j c h1 h2=>k j c O9m h2,fun l h1 h2=>H.part.inc spot l (qa8 _) h1 h2,fun r c h1 h2 hc=>?_⟩;rw[k r c h1 h2];exact H.rw r c h2 hc
theorem C9.meetAdd(H:Hj n W w i G R0 B0 t π b)(h:C9 n W w i G R0 B0 t π b spot R B)(hs:spot<i)(hz:∀c,c<t spot->R i c=0){q:Int}(he:R i (t spot)=q*R spot (t spot))(bb:BB n W C δ β (R,B)) :
 C9 n W w i G R0 B0 t π b (spot+1) (shrS t i (spot+1) (addS i spot (-q) (R,B)) (i-(spot+1))).1 (shrS t i (spot+1) (addS i spot (-q) (R,B)) (i-(spot+1))).2 ∧
 BB n W C δ (β+cM π i) (addS i spot (-q) (R,B))/\∀d,spot+1+d<=i->BB n W C δ (β+cM π i) (shrS t i (spot+1) (addS i spot (-q) (R,B)) d):=by
 have hn:=H.hi
 have hq:q.natAbs<=2 ^ π:=by
  have a:=h.pv spot (qa0 _) hs;have p:=h.pos spot hs;rw[he,qa9]at a;exact qa1 (qk9 _ O9m) a
 have b1:BB n W C δ (β+(π+2)) (addS i spot (-q) (R,B)):=bb.add hn O9m (c:=π+1) (by rw[qb4];exact Wd hq);obtain⟨P,inc,hG⟩:=h.partOf H (R1:=addR R i spot (-q)) fun r c h1 h2=>C3 O9m c;obtain⟨S,bs⟩:=Np (n:=n) (W:=W) (w:=w) (G:=G) (B:=(addS i spot (-q) (R,B)).2) (p:=i) (μ:=2 ^ (π+1)) (β:=β+(π+2)) (c:=cS π i) P inc (h.addPre H hs hq) hG hs hn (.inr rfl) (GY (C5 O9m)) b1;refine⟨h.metAdd H hs hq hz he ?_,b1.mono (by unfold cM;omega),fun d hd=>(bs d hd).mono (by unfold cM;omega)⟩;have e:(addS i spot (-q) (R,B)).2=addR B spot i q:=by show addR B spot i (- -q)=_;rw[qk6]
 rw[←e];exact S
theorem C9.meetBlend(H:Hj n W w i G R0 B0 t π b)(h:C9 n W w i G R0 B0 t π b spot R B)(hs:spot<i)(hz:∀c,c<t spot->R i c=0){x y z u:Int}(e:cC π (R spot (t spot)) (R i (t spot)) x y z u)(bb:BB n W C δ β (R,B)) :
 C9 n W w i G R0 B0 t π b (spot+1) (shrS t i (spot+1) (shrS t spot (spot+1) (blendS spot i x y z u (R,B)) (i-(spot+1))) (i-(spot+1))).1 (shrS t i (spot+1) (shrS t spot (spot+1) (blendS spot i x y z u (R,B)) (i-(spot+1))) (i-(spot+1))).2 ∧
 BB n W C δ (β+cM π i) (blendS spot i x y z u (R,B))/\(∀d,spot+1+d<=i->BB n W C δ (β+cM π i) (shrS t spot (spot+1) (blendS spot i x y z u (R,B)) d)) ∧
 ∀d,spot+1+d<=i->BB n W C δ (β+cM π i) (shrS t i (spot+1) (shrS t spot (spot+1) (blendS spot i x y z u (R,B)) (i-(spot+1))) d):=by
 have hn:=H.hi;have ne:spot≠i:=O9m
 have b1:BB n W C δ (β+(π+2)) (blendS spot i x y z u (R,B)):=bb.blend O9m hn ne (c:=π+1) (Wd e.lx) (Wd e.ly) (Wd e.lz) (Wd e.lu);obtain⟨p1,p2⟩:=h.blendPre H hs e;obtain⟨P,inc,hG⟩:=h.partOf H (R1:=blendR R spot i x y z u) fun r c h1 h2=>Df O9m O9m _ _ _ _ c;obtain⟨S1,uH⟩:=Np (n:=n) (W:=W) (w:=w) (G:=G) (B:=(blendS spot i x y z u (R,B)).2) (p:=spot) (μ:=2 ^ (2*π+1)) (β:=β+(π+2)) (c:=cS π i) P inc p1 hG hs hn (.inl (qa0 _)) (GY (qa0 _)) b1;have b2:=uH (i-(spot+1)) O9m;generalize hs2:shrS t spot (spot+1) (blendS spot i x y z u (R,B)) (i-(spot+1))=s2 at *;have SY:shrS t spot (spot+1) (blendR R spot i x y z u,(blendS spot i x y z u (R,B)).2) (i-(spot+1))=s2:=hs2;rw[SY]at S1 b2;obtain⟨P2,SR,yH⟩:=h.partOf H (R1:=s2.1) fun r c h1 h2=>by rw[S1.same r c (by omega),Df (by omega) (by omega)]
 have p3:∀l,spot<l->l<i->(s2.1 i (t l)).natAbs<=2 ^ (2*π+1)*(s2.1 l (t l)).natAbs:=fun l h1 h2=>by
  rw[S1.same i _ (fun z=>ne z.symm),S1.same l _ (by omega)];exact p2 l h1 h2
 obtain⟨S2,QH⟩:=Np (n:=n) (W:=W) (w:=w) (G:=G) (R:=s2.1) (B:=s2.2) (p:=i) (μ:=2 ^ (2*π+1)) (β:=β+(π+2)+i*(cS π i+1)) (c:=cS π i) P2 SR p3 yH hs hn (.inr rfl) (GY (qa0 _)) b2;exact⟨h.metBlend H hs e hz S1 S2,b1.mono (by unfold cM;omega),fun d hd=>(uH d hd).mono (by unfold cM;omega),fun d hd=>(QH d hd).mono (by unfold cM;omega)⟩
end Lat
namespace Lat
open Hb
variable{C:Nat->Prop}{δ:Nat}
noncomputable def downS(t:Nat->Nat)(i:Nat)(s:Mat × Mat):Nat->Mat × Mat
 | 0=>s
 | d+1=>shrS t (i-d) (i-d+1) (downS t i s d) d
theorem Ug{n W w i:Nat}{G:Nat->Prop}{R0 B0 R B:Mat}{t:Nat->Nat}{Y β:Nat}(I:kC n W w i G R0 B0 t Y R B)(hi:i<n)(bb:BB n W C δ β (R,B)) :
 ∀d,d<=i+1->Lh n W w i R B t (i+1-d) (downS t i (R,B) d).1 (downS t i (R,B) d).2/\BB n W C δ (β+d*((i+1)*(i+1+Y+2))) (downS t i (R,B) d) ∧
   (d<=i->∀m,m<=d->BB n W C δ (β+(d+1)*((i+1)*(i+1+Y+2))) (shrS t (i-d) (i-d+1) (downS t i (R,B) d) m)):=by
 intro d
 have SH:∀d,d<=i->Lh n W w i R B t (i+1-d) (downS t i (R,B) d).1 (downS t i (R,B) d).2->BB n W C δ (β+d*((i+1)*(i+1+Y+2))) (downS t i (R,B) d) →
  ∀m,m<=d->eV n W w (i+1) (downS t i (R,B) d).1 (downS t i (R,B) d).2 t (i-d) (i-d+1) (i+1) (i-d+1+m) (2 ^ Y) (shrS t (i-d) (i-d+1) (downS t i (R,B) d) m).1 (shrS t (i-d) (i-d+1) (downS t i (R,B) d) m).2/\BB n W C δ (β+(d+1)*((i+1)*(i+1+Y+2))) (shrS t (i-d) (i-d+1) (downS t i (R,B) d) m):=by
  intro d hd D b m hm;generalize hs:downS t i (R,B) d=s at *;obtain⟨R1,B1⟩:=s;have P:=D.part;rw[show i+1-d=i-d+1 by omega]at P D
  have rel:∀l,i-d+1<=l->l<i+1->(R1 (i-d) (t l)).natAbs<=2 ^ Y*(R1 l (t l)).natAbs:=fun l h1 h2=>by
   have o:R1 (i-d) (t l)=R (i-d) (t l):=D.old (i-d) (t l) O9m;have p:0<R1 l (t l):=D.s0.pos l h2;rw[o];refine qa1 (I.gc (i-d) (t l) O9m (I.pg l O9m)) (qk9 _ O9m)
  have run:=bE (n:=n) (W:=W) (w:=w) (lo:=i+1) (R:=R1) (B:=B1) (p:=i-d) (f:=i-d+1) (m:=i+1) (μ:=2 ^ Y) (c:=i+1+Y+1) (β:=β+d*((i+1)*(i+1+Y+2))) P rel O9m (qa0 _) hi (.inl O9m) (by
   rw[←qc7];exact qg1 (by decide) O9m) b m O9m
  refine⟨run.1,run.2.1.mono ?_⟩;rw[qd4 d 1,qd1];have:=qb1 (i+1+Y+2) (show m<=i+1 by omega);have e:m*(i+1+Y+1+1)=m*(i+1+Y+2):=rfl;omega
 induction d with
 | zero =>
   intro _;have D0:Lh n W w i R B t (i+1-0) (downS t i (R,B) 0).1 (downS t i (R,B) 0).2:=Lh.start I.s0;have b0:BB n W C δ (β+0*((i+1)*(i+1+Y+2))) (downS t i (R,B) 0):=bb.mono O9m;exact⟨D0,b0,fun hd m hm=>(SH 0 hd D0 b0 m hm).2⟩
 | succ d ih =>
   intro hd;obtain⟨D,b,_⟩:=ih O9m;obtain⟨S,b2⟩:=SH d O9m D b d (qa0 _)
   have D2:Lh n W w i R B t (i+1-(d+1)) (downS t i (R,B) (d+1)).1 (downS t i (R,B) (d+1)).2:=by
    rw[show i+1-(d+1)=i-d by omega];rw[show i+1-d=i-d+1 by omega]at D;rw[show i-d+1+d=i+1 by omega]at S;exact D.next O9m S
   exact⟨D2,b2,fun h m hm=>(SH (d+1) h D2 b2 m hm).2⟩
end Lat
namespace Lat
open Hb
theorem Zo{f:Nat->Int}{j:Nat}:∀{i:Nat},j<=i->(∀k,j<=k->k<i->f k=0)->Aq f i=Aq f j
 | 0,h,_=>by rw[show j=0 by omega]
 | i+1,h,hz=>by
   by_cases e:j=i+1
   . rw[e]
   . show Aq f i+f i=_;rw[Zo (by omega) fun k h1 h2=>hz k h1 (by omega),hz i (by omega) (by omega)];omega
theorem bI{f:Nat->Int}{m h:Nat}:∀{j:Nat},(∀k,k<j->(f k).natAbs<=2 ^ k*m*h)->(Aq f j).natAbs+m*h<=2 ^ j*m*h
 | 0,_=>by show(0:Int).natAbs+m*h<=2 ^ 0*m*h;simp
 | j+1,hf=>by
   have a:=bI (f:=f) (m:=m) (h:=h) (j:=j) fun k hk=>hf k O9m;have b:=hf j O9m;have c:=qd0 (Aq f j) (f j);show(Aq f j+f j).natAbs+m*h<=_;rw[qg7];have e:2 ^ j*2*m*h=2 ^ j*m*h+2 ^ j*m*h:=by grind
   omega
theorem HE{i:Nat}{R B:Mat}{t:Nat->Nat}(P:Ol R t 0 i){a m:Nat}(h:∀j,j<i->(Aq (fun k=>B k a*R k (t j)) i).natAbs<=m):∀j,j<i->(B j a).natAbs<=2 ^ j*m:=by
 intro j
 induction j using Nat.strongRecOn with
 | _ j ih =>
   intro hj;have pj:=P.pos j (qa8 _) hj;have hs:=h j hj;rw[Zo (j:=j+1) (by omega) fun k h1 h2=>by rw[P.zero k _ (qa8 _) h2 (P.inc j k (qa8 _) (by omega) h2)];simp]at hs;have hs':(Aq (fun k=>B k a*R k (t j)) j+B j a*R j (t j)).natAbs<=m:=hs
   have b:=bI (f:=fun k=>B k a*R k (t j)) (m:=m) (h:=(R j (t j)).natAbs) (j:=j) fun k hk=>by
    rw[qa9];obtain⟨r1,r2⟩:=P.red k j (qa8 _) hk hj;exact qd9 (ih k hk O9m) O9m
   have c:(B j a*R j (t j)).natAbs<=2 ^ j*m*(R j (t j)).natAbs:=by
    have m1:m*1<=m*(R j (t j)).natAbs:=qd2 _ O9m;omega
   rw[qa9]at c;exact Nat.le_of_mul_le_mul_right c O9m
theorem Db.backs{n W w i:Nat}{G:Nat->Prop}{M B0 R B:Mat}{t:Nat->Nat}(h:Db n W w i G M B0 t R B)(hi:i<=n){a m:Nat}(hb:∀k,i<=k->B k a=if k=a then 1 else 0)(hM:∀j,j<i->(pT n B0 M a (t j)).natAbs<=m)(NS:∀j,j<i->(M a (t j)).natAbs<=m)(ha:i<=a->a<n->∀j,j<i->pT n B0 M a (t j)=M a (t j)):∀j,j<i->(B j a).natAbs<=2 ^ j*m:=by
 refine HE ⟨fun j k _=>h.st.inc j k,fun j c _=>h.st.zero j c,fun j _=>h.st.pos j,fun k j _=>h.st.red k j⟩ fun j hj=>?_;have e:pT n B R a (t j)=pT n B0 M a (t j):=h.good.pt a (t j)
 have s:pT n B R a (t j)=Aq (fun k=>B k a*R k (t j)) i+(if i<=a/\a<n then M a (t j) else 0):=by
  have:∀d,i+d<=n->Aq (fun k=>B k a*R k (t j)) (i+d)=Aq (fun k=>B k a*R k (t j)) i+(if i<=a/\a<i+d then M a (t j) else 0):=by
   intro d
   induction d with
   | zero=>intro _;rw[if_neg (by omega)];show Aq _ i=_;omega
   | succ d ih =>
     intro hd;show Aq (fun k=>B k a*R k (t j)) (i+d)+B (i+d) a*R (i+d) (t j)=_;rw[ih (by omega),hb (i+d) (by omega),h.good.rest (i+d) _ (by omega)];by_cases z:i+d=a
     . subst z;rw[if_pos rfl,if_neg (by omega),if_pos (by omega)];omega
     . rw[if_neg z];by_cases y:i<=a/\a<i+d
       . rw[if_pos y,if_pos (by omega)];omega
       . rw[if_neg y,if_neg (by omega)];omega
  have:=this (n-i) O9m;rw[show i+(n-i)=n by omega]at this;exact this
 by_cases z:i<=a/\a<n
 . rw[if_pos z,e,ha z.1 z.2 j hj]at s;have:Aq (fun k=>B k a*R k (t j)) i=0:=O9m
   rw[this];exact qa8 _
 . rw[if_neg z,Int.add_zero]at s;rw[←s,e];exact hM j hj
theorem FD{t:Nat->Nat}{n w:Nat}(inc:∀j k,j<k->k<n->t j<t k):∃r,r<=n/\(∀j,j<r->t j<w)/\∀j,r<=j->j<n->w<=t j:=by
 have:∀m,m<=n->∃r,r<=m/\(∀j,j<r->t j<w)/\∀j,r<=j->j<m->w<=t j:=by
  intro m
  induction m with
  | zero=>intro _;exact⟨0,qa0 _,fun j hj=>O9m,fun j _ hj=>O9m⟩
  | succ m ih =>
    intro hm;obtain⟨r,a,b,c⟩:=ih O9m;by_cases z:t m<w
    . have hrm:r=m:=by
       refine qh2 a (qf3 fun y=>?_);have:=c r (qa0 _) y;have:=inc r m y O9m;omega
      exact⟨m+1,qa0 _,fun j hj=>by
       by_cases q:j=m
       . rw[q];exact z
       . exact b j O9m,fun j h1 h2=>O9m⟩
    . exact⟨r,O9m,b,fun j h1 h2=>by
       by_cases q:j=m
       . rw[q];omega
       . exact c j h1 O9m⟩
 exact this n (qa0 _)
theorem Db.first{n W w D:Nat}{G:Nat->Prop}{M B0 R B:Mat}{t:Nat->Nat}(hD:K8 n G M D)(h:Db n W w n G M B0 t R B) :
 ∃r,r<=n/\Em w r R t/\(∀i c,r<=i->i<n->c<w->R i c=0)/\R7 n W w r t (fun j=>R j (t j)) R/\prodN (fun j=>R j (t j)) r<=D/\∀j,j<n->R j (t j)<=D:=by
 obtain⟨r,hr,h1,h2⟩:=FD (w:=w) h.st.inc;have pos:∀k,k<n->0<(fun j=>R j (t j)) k:=fun k hk=>h.st.pos k hk;refine⟨r,hr,⟨h1,fun j k a b=>h.st.inc j k a O9m,fun j c a b=>h.st.zero j c O9m b,fun j a=>h.st.pos j O9m,fun k j a b=>h.st.red k j a O9m⟩,fun i c a b d=>h.st.zero i c b (by have:=h2 i a b;omega),⟨fun j c _ a b=>h.st.zero j c a b,fun j k _ a b=>h.st.inc j k a b,h2,fun j _ a=>h.st.lt j a,fun j _ _=>rfl,fun j _ a=>h.st.pos j a,fun k j _ a b=>h.st.red k j a b⟩,?_,fun j hj=>?_⟩
 . have a:=Tc (n:=n) pos r hr;have b:=h.detsD hD (qa0 _) (s:=t) h.pg;rw[Wl h.st.s0]at b;have c:=Cy (n:=n) pos;omega
 . have:=h.headD hD (qa0 _) hj;have:=h.st.pos j hj;omega
theorem Sr{n W b0 D:Nat}{M:Mat}(hM:∀r c,r<n->c<W->(M r c).natAbs<=2 ^ b0)(hD:∀i,i<=n->HV i*(2 ^ b0) ^ i<=D):K8 n (fun c=>c<W) M D:=fun i hi s hs =>
 qa1 (GR fun r c hr hc=>hM r (s c) O9m (hs c hc)) (hD i hi)
variable{C:Nat->Prop}{δ:Nat}
theorem addS_zero(p q:Nat)(s:Mat × Mat):addS p q (-0) s=s:=by
 unfold addS;rw[show(-0:Int)=0 from rfl,show(-0:Int)=0 from rfl,W0,W0]
theorem Zv{t:Nat->Nat}{p f:Nat}{s:Mat × Mat}:∀m,(∀j,f<=j->j<f+m->s.1 p (t j) / s.1 j (t j)=0)->shrS t p f s m=s
 | 0,_=>rfl
 | m+1,h=>by
   have ih:=Zv (t:=t) (p:=p) (f:=f) (s:=s) m fun j h1 h2=>h j h1 O9m;show addS p (f+m) (-((shrS t p f s m).1 p (t (f+m)) / (shrS t p f s m).1 (f+m) (t (f+m)))) (shrS t p f s m)=s;rw[ih,h (f+m) (by omega) (by omega),addS_zero]
structure nI(i:Nat)(t:Nat->Nat)(R:Mat):Prop where
 inc:∀j,j<i->t j<t i
 zero:∀x,x<t i->R i x=0
 pos:∀j,j<=i->0<R j (t j)
 red:∀k j,k<j->j<i->0<=R k (t j)/\R k (t j)<R j (t j)
noncomputable def Ik(R:Mat)(t:Nat->Nat)(i k:Nat):Int:=R k (t i) / R i (t i)
structure K7(n i β c:Nat)(t:Nat->Nat)(R B:Mat)(d:Nat)(s:Mat × Mat):Prop where
 rows:∀r x,s.1 r x=if i+1-d<=r/\r<i then R r x+-(Ik R t i r)*R i x else R r x
 old:∀r x,r≠i->s.2 r x=B r x
 back:∀x,x<n->(s.2 i x).natAbs<=2 ^ (β+c)*(d+1)
theorem K7.step{n i β c:Nat}{t:Nat->Nat}{R B:Mat}{d:Nat}{s:Mat × Mat}(L:nI i t R)(bb:Bits n n β B)(hq:∀k,k<i->(Ik R t i k).natAbs<2 ^ c)(hi:i<n)(hd:d<i+1)(h:K7 n i β c t R B d s) :
 K7 n i β c t R B (d+1) (shrS t (i-d) (i-d+1) s d)/\∀m,m<d->shrS t (i-d) (i-d+1) s m=s:=by
 have own:∀x,s.1 (i-d) x=R (i-d) x:=fun x=>by rw[h.rows,if_neg (by omega)]
 have ri:∀x,s.1 i x=R i x:=fun x=>by rw[h.rows,if_neg (by omega)]
 have tO:∀j,j<=i->s.1 j (t j)=R j (t j):=fun j hj=>by
  rw[h.rows];by_cases z:i+1-d<=j/\j<i
  . rw[if_pos z,L.zero (t j) (L.inc j z.2)];simp
  . rw[if_neg z]
 have zq:∀m,m<d->∀j,i-d+1<=j->j<i-d+1+m->s.1 (i-d) (t j) / s.1 j (t j)=0:=fun m hm j h1 h2=>by
  rw[own,tO j (by omega)];obtain⟨a,b⟩:=L.red (i-d) j O9m O9m;exact Int.ediv_eq_zero_of_lt a b
 have zs:∀m,m<d->shrS t (i-d) (i-d+1) s m=s:=fun m hm=>Zv m (zq m hm);refine⟨?_,zs⟩;by_cases d0:d=0
 . subst d0;show K7 n i β c t R B 1 s;refine⟨fun r x=>?_,h.old,fun x hx=>qa1 (h.back x hx) (qd2 _ O9m)⟩;rw[h.rows,if_neg (by omega),if_neg (by omega)]
 . obtain⟨e,rfl⟩:∃e,d=e+1:=⟨d-1,O9m⟩
   have last:shrS t (i-(e+1)) (i-(e+1)+1) s (e+1)=addS (i-(e+1)) i (-(Ik R t i (i-(e+1)))) s:=by
    show addS _ (i-(e+1)+1+e) _ (shrS t (i-(e+1)) (i-(e+1)+1) s e)=_;rw[zs e (by omega),show i-(e+1)+1+e=i by omega,own,tO i (qa0 _)];rfl
   rw[last];refine⟨fun r x=>?_,fun r x hr=>?_,fun x hx=>?_⟩
   . show addR s.1 (i-(e+1)) i _ r x=_;by_cases z:r=i-(e+1)
     . subst z;rw[Cp,own,ri,if_pos (by omega),qc0]
     . rw[C3 z,h.rows];by_cases y:i+1-(e+1)<=r/\r<i
       . rw[if_pos y,if_pos (by omega)]
       . rw[if_neg y,if_neg (by omega)]
   . show addR s.2 i (i-(e+1)) _ r x=_;rw[C3 hr];exact h.old r x hr
   . show(addR s.2 i (i-(e+1)) (- -(Ik R t i (i-(e+1)))) i x).natAbs<=_;rw[Cp,qc0,qk6,h.old (i-(e+1)) x (by omega)];have a:=h.back x hx;have b:=qd0 (s.2 i x) (Ik R t i (i-(e+1))*B (i-(e+1)) x);rw[qa9]at b;have m:(Ik R t i (i-(e+1))).natAbs*(B (i-(e+1)) x).natAbs<=2 ^ c*2 ^ β:=qd9 (qc3 (hq _ O9m)) (qc3 (bb _ _ O9m hx));rw[←qc7,Nat.add_comm c β]at m;rw[Nat.mul_add _ (e+1+1) 1,Nat.mul_one];omega
theorem gE{n W i β c:Nat}{t:Nat->Nat}{R B:Mat}(L:nI i t R)(bb:BB n W C δ β (R,B))(hq:∀k,k<i->(Ik R t i k).natAbs<2 ^ c)(hi:i<n) :
 ∀d,d<=i+1->K7 n i β c t R B d (downS t i (R,B) d):=by
 intro d
 induction d with
 | zero =>
   intro _;refine⟨fun r x=>?_,fun _ _ _=>rfl,fun x hx=>?_⟩
   . rw[if_neg (by omega)];rfl
   . show(B i x).natAbs<=_;have a:(B i x).natAbs<2 ^ β:=bb.2.1 i x hi hx;have p:2 ^ β<=2 ^ (β+c):=C5 O9m;omega
 | succ d ih =>
   intro hd;exact((ih O9m).step L bb.2.1 hq hi O9m).1
theorem K7.bits{n W i β c:Nat}{t:Nat->Nat}{R B:Mat}{d:Nat}{s:Mat × Mat}(bb:BB n W C δ β (R,B))(hq:∀k,k<i->(Ik R t i k).natAbs<2 ^ c)(hi:i<n)(hd:d<=i+1)(h:K7 n i β c t R B d s):BB n W C δ (β+(c+i+3)) s:=by
 refine⟨fun r x hr hx=>?_,fun r x hr hx=>?_,fun r x hr hx=>?_⟩
 . rw[h.rows];by_cases z:i+1-d<=r/\r<i
   . rw[if_pos z];have e:=qd0 (R r x) (-(Ik R t i r)*R i x);rw[qa9,qb4]at e;have a:=bb.1 r x hr hx;have b:=bb.1 i x hi hx;have m:(Ik R t i r).natAbs*(R i x).natAbs<=2 ^ c*2 ^ β:=qd9 (qc3 (hq r z.2)) (qc3 b);rw[←qc7,Nat.add_comm c β]at m;have p:2 ^ β<=2 ^ (β+c):=C5 O9m
     have q:4*2 ^ (β+c)<=2 ^ (β+(c+i+3)):=by
      have e4:4*2 ^ (β+c)=2 ^ (2+(β+c)):=by rw[qc7 2 2 (β+c)]
      rw[e4];exact C5 O9m
     have a':(R r x).natAbs<2 ^ β:=a;omega
   . rw[if_neg z];exact qa6 (bb.1 r x hr hx) (C5 O9m)
 . by_cases z:r=i
   . subst z;have a:=h.back x hx
     have l:d+1<2 ^ (r+2):=by
      have:=qq4 (n:=r+2);omega
     refine qa4 a ?_;have e4:2 ^ (β+(c+r+3))=2 ^ (β+c)*2 ^ (r+3):=by rw[←qc7];congr 1;omega
     rw[e4];refine qm7 ?_ qg9;exact qa6 l (C5 O9m)
   . rw[h.old r x z];exact qa6 (bb.2.1 r x hr hx) (C5 O9m)
 . rw[h.rows];by_cases z:i+1-d<=r/\r<i
   . rw[if_pos z];have:=Mv (a:=1) (k:=-(Ik R t i r)) (c:=c) (bb.2.2 r x hr hx) (bb.2.2 i x hi hx) (show 1<=2 ^ c from qg9) (by rw[qb4];exact qc3 (hq r z.2));rw[qc0]at this;exact qa6 this (C5 O9m)
   . rw[if_neg z];exact qa6 (bb.2.2 r x hr hx) (C5 O9m)
end Lat
namespace Lat
open Hb
variable{C:Nat->Prop}{δ:Nat}
theorem fdiv_small{x h:Int}{c:Nat}(hh:0<h)(hx:x.natAbs<2 ^ c):(x / h).natAbs<2 ^ c:=by
 have:=bS (x:=x) (h:=h) (K:=x.natAbs) hh (qk9 _ O9m);omega
theorem Db.putB{n W w i β:Nat}{G:Nat->Prop}{M B0 R B:Mat}{t:Nat->Nat}(h:Db n W w i G M B0 t R B)(hi:i<n)(kX:∀c,G c->c<W)(bb:Bits n W β R):Hj n W w i G R B t β β :=
 ⟨hi,⟨fun j k _=>h.st.inc j k,fun j c _=>h.st.zero j c,fun j _=>h.st.pos j,fun k j _=>h.st.red k j⟩,h.st.lt,fun j hj=>qc3 (bb j _ O9m (h.st.lt j hj)),fun r c hr hc=>qc3 (bb r c O9m (kX c hc)),fun c hc=>qc3 (bb i c hi (kX c hc)),fun l hl=>qc3 (bb i _ hi (h.st.lt l hl))⟩
theorem Cl.last{n W w r i β c:Nat}{G:Nat->Prop}{M B0 R B:Mat}{kt t:Nat->Nat}{hd:Nat->Int}(K:R7 n W w r kt hd M)(h:Cl n W w r i G M B0 kt hd t R B)(hi:r<=i)(hn:i<n)(kX:∀c,G c->c<W)(hG:G (kt i))(bb:BB n W C δ β (R,B))(hc:∀k,k<i->(R k (kt i)).natAbs<2 ^ c) :
 Cl n W w r (i+1) G M B0 kt hd (insT t i (kt i)) (downS (insT t i (kt i)) i (R,B) (i+1)).1 (downS (insT t i (kt i)) i (R,B) (i+1)).2 ∧
 (∀d,d<=i+1->K7 n i β c (insT t i (kt i)) R B d (downS (insT t i (kt i)) i (R,B) d)/\BB n W C δ (β+(c+i+3)) (downS (insT t i (kt i)) i (R,B) d)) ∧
 (∀d,d<i+1->∀m,m<d->shrS (insT t i (kt i)) (i-d) (i-d+1) (downS (insT t i (kt i)) i (R,B) d) m=downS (insT t i (kt i)) i (R,B) d):=by
 have H:=h.st.putB hn kX bb.1;obtain⟨I,_⟩:=h.ins K hi H hG;have D:=(Ug I hn bb (i+1) (qa0 _)).1;rw[ql9]at D;have t1:∀j,j<i->insT t i (kt i) j=t j:=fun j hj=>if_pos hj;have t2:insT t i (kt i) i=kt i:=by unfold insT;rw[if_neg (by omega),if_pos rfl]
 have L:nI i (insT t i (kt i)) R:=⟨fun j hj=>I.s0.inc j i hj O9m,fun x hx=>I.s0.zero i x O9m hx,fun j hj=>I.s0.pos j O9m,fun k j h1 h2=>by rw[t1 j h2];exact h.st.st.red k j h1 h2⟩
 have hq:∀k,k<i->(Ik R (insT t i (kt i)) i k).natAbs<2 ^ c:=fun k hk=>fdiv_small (L.pos i (qa0 _)) (by rw[t2];exact hc k hk);have run:=gE L bb hq hn;exact⟨h.nextK K hi hn I D,fun d hd=>⟨run d hd,(run d hd).bits bb hq hn hd⟩,fun d hd=>((run d O9m).step L bb.2.1 hq hn hd).2⟩
noncomputable def W3(n r i:Nat)(kt:Nat->Nat)(c:Nat)(R:Mat):Prop:=∀k j,k<i->i<=j->j<n->(R k (kt j)).natAbs<2 ^ c
theorem Cl.above{n W w r i β c η:Nat}{G:Nat->Prop}{M B0 R B:Mat}{kt t:Nat->Nat}{hd:Nat->Int}{s:Mat × Mat}(K:R7 n W w r kt hd M)(h:Cl n W w r i G M B0 kt hd t R B)(hi:r<=i)(hn:i<n)(hη:∀j,r<=j->j<n->(hd j).natAbs<=2 ^ η)(a:W3 n r i kt c R)(l:K7 n i β c (insT t i (kt i)) R B (i+1) s):W3 n r (i+1) kt (c+η+1) s.1:=fun k j h1 h2 h3=>by
 have t2:insT t i (kt i) i=kt i:=by unfold insT;rw[if_neg (by omega),if_pos rfl]
 have mi:(R i (kt j)).natAbs<2 ^ η:=by
  rw[h.st.good.rest i _ (qa0 _)];obtain⟨m1,m2⟩:=K.red i j O9m O9m h3;have:=hη j O9m h3;omega
 have p1:2 ^ η<=2 ^ (c+η):=C5 O9m;have p2:2 ^ c<=2 ^ (c+η):=C5 O9m;rw[l.rows,qg7];by_cases z:i+1-(i+1)<=k/\k<i
 . rw[if_pos z];have e:=qd0 (R k (kt j)) (-(Ik R (insT t i (kt i)) i k)*R i (kt j));rw[qa9,qb4]at e
   have q:(Ik R (insT t i (kt i)) i k).natAbs<=2 ^ c:=by
    unfold Ik;rw[t2];have p:0<R i (kt i):=by rw[h.st.good.rest i _ (qa0 _),K.head i hi hn];exact K.pos i hi hn
    exact qc3 (fdiv_small p (a k i z.2 (qa0 _) hn))
   have m:=qd9 q (qc3 mi);rw[←qc7]at m;have b:=a k j z.2 O9m h3;omega
 . rw[if_neg z];have:k=i:=O9m
   subst this;omega
end Lat
namespace Lat
open Hb
noncomputable def put2(f:Nat->Int)(i j:Nat)(x y:Int):Nat->Int:=fun k=>if k=i then x else if k=j then y else f k
theorem Nz(f:Nat->Int)(i j:Nat)(x y:Int):put2 f i j x y i=x:=if_pos rfl
theorem Ny{i j:Nat}(f:Nat->Int)(h:i≠j)(x y:Int):put2 f i j x y j=y:=by unfold put2;rw[if_neg (fun z=>h z.symm),if_pos rfl]
theorem Hl{i j k:Nat}(f:Nat->Int)(h1:k≠i)(h2:k≠j)(x y:Int):put2 f i j x y k=f k:=by unfold put2;rw[if_neg h1,if_neg h2]
structure qK(o t g r:Int):Prop where
 go:g∣o
 gt:g∣t
 tr:t∣r
 pr:g*r=o*t
 all:∀d:Int,d∣o->d∣t->d∣g
theorem Shares.pair{A B g a b:Int}(h:Shares A B g a b):qK A B g (A / g*B):=by
 obtain⟨p,eA⟩:=h.dA;have g0:g≠0:=by have:=h.pos;omega
 have k1:A / g=p:=by rw[eA];exact qh0 _ g0
 refine⟨h.dA,h.dB,⟨A / g,qe7 ..⟩,?_,fun d h1 h2=>?_⟩
 . rw[k1,←qe9,←eA]
 . rw[h.e];exact Int.dvd_add (qo3 h1) (qo3 h2)
noncomputable def ChainTo(m i:Nat)(f:Nat->Int):Prop:=∀a b,a<i->a<b->b<m->f a∣f b
noncomputable def ChainAt(m i j:Nat)(f:Nat->Int):Prop:=ChainTo m i f/\∀b,i<b->b<j->f i∣f b
theorem ChainAt.step{m i j:Nat}{f:Nat->Int}{g r:Int}(h:ChainAt m i j f)(hij:i<j)(hj:j<m)(p:qK (f i) (f j) g r):ChainAt m i (j+1) (put2 f i j g r):=by
 have ne:i≠j:=O9m
 refine⟨fun a b ha hab hb=>?_,fun b hb tP=>?_⟩
 . rw[Hl f (show a≠i by omega) (show a≠j by omega)];have d1:=h.1 a i ha ha O9m;have d2:=h.1 a j ha O9m hj;by_cases e1:b=i
   . rw[e1,Nz];exact p.all _ d1 d2
   . by_cases e2:b=j
     . rw[e2,Ny f ne];exact qr2 d2 p.tr
     . rw[Hl f e1 e2];exact h.1 a b ha hab hb
 . rw[Nz];by_cases e2:b=j
   . rw[e2,Ny f ne];exact qr2 p.gt p.tr
   . rw[Hl f (by omega) e2];exact qr2 p.go (h.2 b hb O9m)
theorem ChainAt.skip{m i j:Nat}{f:Nat->Int}(h:ChainAt m i j f)(d:f i∣f j):ChainAt m i (j+1) f:=⟨h.1,fun b hb tP=>by
 by_cases e:b=j
 . rw[e];exact d
 . exact h.2 b hb O9m⟩
theorem ChainTo.at{m i:Nat}{f:Nat->Int}(h:ChainTo m i f):ChainAt m i (i+1) f:=⟨h,fun b h1 h2=>O9m⟩
theorem ChainAt.next{m i:Nat}{f:Nat->Int}(h:ChainAt m i m f):ChainTo m (i+1) f:=fun a b ha hab hb=>by
 by_cases e:a=i
 . rw[e]at hab ⊢;exact h.2 b hab hb
 . exact h.1 a b O9m hab hb
theorem Qe{f f':Nat->Int}{i:Nat}:∀{m:Nat},i<m->(∀k,k<m->k≠i->f' k=f k)->prodN f' m*f i=prodN f m*f' i
 | m+1,hi,h=>by
   show prodN f' m*f' m*f i=prodN f m*f m*f' i;by_cases e:i=m
   . subst e
     have:prodN f' i=prodN f i:=by
      have:∀l,l<=i->prodN f' l=prodN f l:=by
       intro l
       induction l with
       | zero=>intro _;rfl
       | succ l ih=>intro hl;show prodN f' l*f' l=prodN f l*f l;rw[ih (by omega),h l (by omega) (by omega)]
      exact this i (qa0 _)
     rw[this]
     grind
   . have ih:=Qe (f:=f) (f':=f') (i:=i) (m:=m) O9m fun k hk=>h k O9m;rw[h m (by omega) (fun z=>e z.symm)];have:prodN f' m*f m*f i=prodN f' m*f i*f m:=by grind
     rw[this,ih]
     grind
theorem cT{f:Nat->Int}{i j m:Nat}{x y:Int}(hij:i<j)(hj:j<m)(h0:f i≠0)(hj0:f j≠0)(e:x*y=f i*f j):prodN (put2 f i j x y) m=prodN f m:=by
 have ne:i≠j:=O9m
 have a:=Qe (f:=f) (f':=put2 f i j x (f j)) (i:=i) (m:=m) O9m fun k hk hne=>by
  by_cases z:k=j
  . rw[z,Ny f ne]
  . exact Hl f hne z ..
 have b:=Qe (f:=put2 f i j x (f j)) (f':=put2 f i j x y) (i:=j) (m:=m) hj fun k hk hne=>by
  by_cases z:k=i
  . rw[z,Nz,Nz]
  . rw[Hl f z hne,Hl f z hne]
 rw[Nz]at a;rw[Ny f ne,Ny f ne]at b
 have c:prodN (put2 f i j x y) m*(f j*f i)=prodN f m*(f j*f i):=by
  have:prodN (put2 f i j x y) m*(f j*f i)=(prodN (put2 f i j x y) m*f j)*f i:=by grind
  rw[this,b];have:prodN (put2 f i j x (f j)) m*y*f i=(prodN (put2 f i j x (f j)) m*f i)*y:=by grind
  rw[this,a];have:prodN f m*x*y=prodN f m*(x*y):=by grind
  rw[this,e]
  grind
 exact Int.eq_of_mul_eq_mul_right (Int.mul_ne_zero hj0 h0) c
structure WE(β:(Nat->Int)->(Nat->Int)->Int):Prop where
 l:∀u v y a b,β (fun c=>a*u c+b*v c) y=a*β u y+b*β v y
 r:∀x u v a b,β x (fun c=>a*u c+b*v c)=a*β x u+b*β x v
theorem Xc{β:(Nat->Int)->(Nat->Int)->Int}(hb:WE β){P Q:Mat}{f:Nat->Int}{i j n w:Nat}(ne:i≠j)(hin:i<n)(hjn:j<n)(rH:i<w)(nQ:j<w)(h:∀x y,x<n->y<w->β (P x) (Q y)=if x=y then f x else 0){g a b:Int}(S:Shares (f i) (f j) g a b) :
 ∀x y,x<n->y<w->β (addR (addR P i j 1) j i (-(b*f j / g)) x) (blendR Q i j a b (-(f j / g)) (f i / g) y)=if x=y then put2 f i j g (f i / g*f j) x else 0:=by
 obtain⟨p,eA⟩:=S.dA;obtain⟨q,eB⟩:=S.dB;have g0:g≠0:=by have:=S.pos;omega
 have k1:f i / g=p:=by rw[eA];exact qh0 _ g0
 have k2:f j / g=q:=by rw[eB];exact qh0 _ g0
 have k3:b*f j / g=b*q:=by rw[eB,show b*(g*q)=g*(b*q) by grind];exact qh0 _ g0
 have e0:=S.e;have ne':j≠i:=fun z=>ne z.symm;rw[k1,k2,k3];have pi:addR (addR P i j 1) j i (-(b*q)) i=fun c=>1*P i c+1*P j c:=by rw[addR_row_ne ne,Kc]
 have pj:addR (addR P i j 1) j i (-(b*q)) j=fun c=>1*P j c+(-(b*q))*(fun c=>1*P i c+1*P j c) c:=by
  rw[Kc,addR_row_ne ne',Kc]
 have po:∀x,x≠i->x≠j->addR (addR P i j 1) j i (-(b*q)) x=P x:=fun x h1 h2=>by rw[addR_row_ne h2,addR_row_ne h1]
 have ii:=h i i hin rH;have ij:=h i j hin nQ;have ji:=h j i hjn rH;have jj:=h j j hjn nQ;rw[if_pos rfl]at ii jj;rw[if_neg ne]at ij;rw[if_neg ne']at ji;intro x y hx hy;by_cases y1:y=i
 . subst y1;rw[blend_row_p ne];by_cases x1:x=y
   . subst x1;rw[if_pos rfl,Nz,pi,hb.l,hb.r,hb.r,ii,ij,ji,jj]
     grind
   . rw[if_neg x1];by_cases x2:x=j
     . subst x2;rw[pj,hb.l,hb.l,hb.r,hb.r,ii,ij,ji,jj];have:1*(a*0+b*f x)+-(b*q)*(1*(a*f y+b*0)+1*(a*0+b*f x))=b*f x-b*q*(a*f y+b*f x):=by grind
       rw[this,←e0];have:b*f x=b*(g*q):=by rw[←eB]
       rw[this]
       grind
     . rw[po x x1 x2,hb.r,h x y hx hy,h x j hx nQ,if_neg x1,if_neg x2];simp
 . by_cases y2:y=j
   . subst y2;rw[blend_row_q];by_cases x1:x=i
     . subst x1;rw[if_neg ne,pi,hb.l,hb.r,hb.r,ii,ij,ji,jj];have:1*(-q*f x+p*0)+1*(-q*0+p*f y)=p*f y-q*f x:=by grind
       rw[this,eA,eB]
       grind
     . by_cases x2:x=y
       . subst x2;rw[if_pos rfl,Ny f ne,pj,hb.l,hb.l,hb.r,hb.r,ii,ij,ji,jj];have:1*(-q*0+p*f x)+-(b*q)*(1*(-q*f i+p*0)+1*(-q*0+p*f x))=p*f x-b*q*(p*f x-q*f i):=by grind
         rw[this];have:p*f x-q*f i=0:=by rw[eA,eB];grind
         rw[this];omega
       . rw[if_neg x2,po x x1 x2,hb.r,h x i hx rH,h x y hx hy,if_neg x1,if_neg x2];simp
   . rw[blend_row_ne y1 y2];by_cases x1:x=i
     . subst x1;rw[if_neg (fun z=>y1 z.symm),pi,hb.l,h x y hx hy,h j y hjn hy,if_neg (fun z=>y1 z.symm),if_neg (fun z=>y2 z.symm)];simp
     . by_cases x2:x=j
       . subst x2;rw[if_neg (fun z=>y2 z.symm),pj,hb.l,hb.l,h x y hx hy,h i y hin hy,if_neg (fun z=>y2 z.symm),if_neg (fun z=>y1 z.symm)];simp
       . rw[po x x1 x2,h x y hx hy];by_cases e:x=y
         . rw[if_pos e,if_pos e,Hl f x1 x2]
         . rw[if_neg e,if_neg e]
noncomputable def Mx(n w:Nat)(A:Mat)(p q:Nat->Int):Int:=Aq (fun a=>p a*Aq (fun b=>A a b*q b) w) n
theorem BY(n w:Nat)(A:Mat):WE (Mx n w A):=by
 refine⟨fun u v y a b=>?_,fun x u v a b=>?_⟩
 . unfold Mx;rw[←B9,←B9,←Dn];exact Az fun k _=>by grind
 . unfold Mx;rw[←B9,←B9,←Dn];refine Az fun k _=>?_
   have:Aq (fun c=>A k c*(a*u c+b*v c)) w=a*Aq (fun c=>A k c*u c) w+b*Aq (fun c=>A k c*v c) w:=by
    rw[←B9,←B9,←Dn];exact Az fun c _=>by grind
   rw[this]
   grind
theorem Mw{n w:Nat}{A:Mat}{p p' q q':Nat->Int}(hp:∀a,a<n->p a=p' a)(hq:∀b,b<w->q b=q' b):Mx n w A p q=Mx n w A p' q':=by
 unfold Mx;refine Az fun a ha=>?_;rw[hp a ha,Az fun b hb=>by rw[hq b hb]]
theorem Ip(n w:Nat)(A:Mat)(p q:Nat->Int):Mx n w A p q=Mx w n (tr A) q p:=by
 unfold Mx;rw[show(fun a=>p a*Aq (fun b=>A a b*q b) w)=fun a=>Aq (fun b=>p a*(A a b*q b)) w from funext fun a=>(B9 ..).symm];rw[Gc];refine Az fun b _=>?_;rw[←B9];exact Az fun a _=>by grind
theorem R6{n w:Nat}{A:Mat}{x:Nat->Int}{U:Mat}{q:Nat->Int}:∀m,Mx n w A (fun c=>Aq (fun k=>x k*U k c) m) q=Aq (fun k=>x k*Mx n w A (U k) q) m
 | 0=>by
   show Mx n w A (fun _=>0) q=0;unfold Mx;exact B6 fun a _=>by simp
 | m+1=>by
   have e:(fun c=>Aq (fun k=>x k*U k c) (m+1))=fun c=>1*(fun c=>Aq (fun k=>x k*U k c) m) c+x m*U m c:=funext fun c=>by
    show Aq (fun k=>x k*U k c) m+x m*U m c=1*Aq (fun k=>x k*U k c) m+x m*U m c;omega
   rw[e,(BY n w A).l,R6 m];show 1*Aq (fun k=>x k*Mx n w A (U k) q) m+x m*Mx n w A (U m) q=Aq (fun k=>x k*Mx n w A (U k) q) m+x m*Mx n w A (U m) q;omega
noncomputable def ER(n w:Nat)(A Q M:Mat):Prop:=∀k c,k<n->c<w->M k c=Mx n w A (fun a=>M k (w+a)) (Q c)
theorem ER.rows{n w W:Nat}{A Q M R:Mat}(h:ER n w A Q M)(hW:w+n<=W)(e:∀i,i<n->In W n M (R i)):ER n w A Q R:=fun i c hi hc=>by
 obtain⟨x,hx⟩:=e i hi;rw[hx c (by omega)];have:Mx n w A (fun a=>R i (w+a)) (Q c)=Mx n w A (fun a=>Aq (fun k=>x k*(fun k a=>M k (w+a)) k a) n) (Q c):=Mw (fun a ha=>hx (w+a) O9m) fun _ _=>rfl;rw[this,R6];exact Az fun k hk=>by rw[h k c hk hc]
theorem Db.told{n W w:Nat}{G:Nat->Prop}{A Q M B0 R B:Mat}{t:Nat->Nat}(h:Db n W w n G M B0 t R B)(hW:w+n<=W)(k:ER n w A Q M):ER n w A Q R:=k.rows hW (h.good.eqv n (qa0 _)).1
noncomputable def beside(w:Nat)(T P:Mat):Mat:=fun r c=>if c<w then T r c else P r (c-w)
theorem beside_lo{w:Nat}{T P:Mat}{r c:Nat}(h:c<w):beside w T P r c=T r c:=if_pos h
theorem beside_hi(w:Nat)(T P:Mat)(r a:Nat):beside w T P r (w+a)=P r a:=by unfold beside;rw[if_neg (by omega),Nat.add_sub_cancel_left]
theorem Lj{n w:Nat}{A Q T P:Mat}(h:∀k c,k<n->c<w->T k c=Mx n w A (P k) (Q c)):ER n w A Q (beside w T P):=fun k c hk hc=>by
 rw[beside_lo hc,h k c hk hc];exact Mw (fun a _=>(beside_hi w T P k a).symm) fun _ _=>rfl
theorem Vw{n w:Nat}{A Q T P:Mat}(h:∀k c,k<n->c<w->T k c=Mx n w A (P k) (Q c)):∀c k,c<w->k<n->tr T c k=Mx w n (tr A) (Q c) (P k):=fun c k hc hk=>by
 show T k c=_;rw[h k c hk hc,Ip]
variable{C:Nat->Prop}{δ:Nat}
noncomputable def E8(π b i:Nat):Nat:=i*cM π i+(i+1)*((i+1)*(i+1+(b+i+3+2*π+i*(π+1))+2))
noncomputable def Dj(π b:Nat):Nat->Nat
 | 0=>0
 | i+1=>Dj π b i+E8 π b i
noncomputable def Mz(c η r:Nat):Nat->Nat
 | 0=>0
 | d+1=>Mz c η r d+(c+d*(η+1)+(r+d)+3)
end Lat
namespace Lat
open Hb
variable{C:Nat->Prop}{δ:Nat}
theorem Cl.wide{n W w r i:Nat}{G G':Nat->Prop}{M B0 R B:Mat}{kt t:Nat->Nat}{hd:Nat->Int}(h:Cl n W w r i G M B0 kt hd t R B)(hG:∀c,G c->G' c):Cl n W w r i G' M B0 kt hd t R B:=⟨⟨h.st.good,h.st.st,fun j hj=>hG _ (h.st.pg j hj)⟩,h.tab,h.ker⟩
theorem HJ{n W r β:Nat}{kt:Nat->Nat}{s:Mat × Mat}(b:BB n W C δ β s)(hr:r<=n)(hC:∀j,r<=j->j<n->C (kt j))(hδ:δ<=β):W3 n r r kt (β-δ) s.1:=fun k j h1 h2 h3=>by
 have:=b.2.2 k (kt j) O9m (hC j h2 h3);have e:2 ^ β=2 ^ (β-δ)*2 ^ δ:=by rw[←qc7];congr 1;omega
 rw[e]at this;exact Nat.lt_of_mul_lt_mul_right this
noncomputable def moveS(i s:Nat)(x:Mat × Mat):Mat × Mat:=(moveR x.1 i s,moveR x.2 i s)
noncomputable def DF(p:Nat)(x:Mat × Mat):Mat × Mat:=(Fo x.1 p,Fo x.2 p)
theorem MI{n i s r:Nat}(hi:i<n)(hs:s<=i)(hr:r<n):mvI i s r<n:=by unfold mvI;split;omega;split;omega;split<;>omega
theorem BB.move{n W β i s:Nat}{x:Mat × Mat}(h:BB n W C δ β x)(hi:i<n)(hs:s<=i):BB n W C δ β (moveS i s x) :=
 ⟨h.1.move hi hs,h.2.1.move hi hs,fun r c hr hc=>by show(moveR x.1 i s r c).natAbs*_<_;rw[move_row];exact h.2.2 _ c (MI hi hs hr) hc⟩
theorem BB.neg{n W β p:Nat}{x:Mat × Mat}(h:BB n W C δ β x):BB n W C δ β (DF p x) :=
 ⟨h.1.neg,h.2.1.neg,fun r c hr hc=>by
  show(Fo x.1 p r c).natAbs*_<_;unfold Fo;by_cases e:r=p
  . subst e;rw[Bw,qb4];exact h.2.2 r c hr hc
  . rw[Ca e];exact h.2.2 r c hr hc⟩
noncomputable def insS(i spot st:Nat)(x:Mat × Mat):Mat × Mat:=if (moveS i spot x).1 spot st<0 then DF spot (moveS i spot x) else moveS i spot x
theorem MP(i spot st:Nat)(R B:Mat):(insS i spot st (R,B)).1=if moveR R i spot spot st<0 then Fo (moveR R i spot) spot else moveR R i spot:=by
 unfold insS;by_cases z:moveR R i spot spot st<0
 . rw[if_pos z];show(if moveR R i spot spot st<0 then DF spot (moveS i spot (R,B)) else moveS i spot (R,B)).1=_;rw[if_pos z];rfl
 . rw[if_neg z];show(if moveR R i spot spot st<0 then DF spot (moveS i spot (R,B)) else moveS i spot (R,B)).1=_;rw[if_neg z];rfl
theorem mP(i spot st:Nat)(R B:Mat):(insS i spot st (R,B)).2=if moveR R i spot spot st<0 then Fo (moveR B i spot) spot else moveR B i spot:=by
 unfold insS;by_cases z:moveR R i spot spot st<0
 . rw[if_pos z];show(if moveR R i spot spot st<0 then DF spot (moveS i spot (R,B)) else moveS i spot (R,B)).2=_;rw[if_pos z];rfl
 . rw[if_neg z];show(if moveR R i spot spot st<0 then DF spot (moveS i spot (R,B)) else moveS i spot (R,B)).2=_;rw[if_neg z];rfl
theorem BB.ins{n W β i spot st:Nat}{x:Mat × Mat}(h:BB n W C δ β x)(hi:i<n)(hs:spot<=i):BB n W C δ β (insS i spot st x):=by
 unfold insS;split
 . exact(h.move hi hs).neg
 . exact h.move hi hs
theorem IQ{n W w i β:Nat}{G:Nat->Prop}{R0 B0 R B:Mat}{t:Nat->Nat}{π b spot st:Nat}(H:Hj n W w i G R0 B0 t π b)(p:C9 n W w i G R0 B0 t π b spot R B)(hs:spot<=i)(h0:∀c,c<st->R i c=0)(h1:R i st≠0)(hW:st<W)(hG:G st)(NP:∀j,j<i->G (t j))(hex:spot<i->st<t spot)(bb:BB n W C δ (β+spot*cM π i) (R,B)) :
 kC n W w i G R0 B0 (insT t spot st) (b+i+3+2*π+i*(π+1)) (insS i spot st (R,B)).1 (insS i spot st (R,B)).2 ∧
 Lh n W w i (insS i spot st (R,B)).1 (insS i spot st (R,B)).2 (insT t spot st) 0 (downS (insT t spot st) i (insS i spot st (R,B)) (i+1)).1 (downS (insT t spot st) i (insS i spot st (R,B)) (i+1)).2 ∧
 BB n W C δ (β+i*cM π i) (insS i spot st (R,B)) ∧
 (∀d,d<=i+1->BB n W C δ (β+E8 π b i) (downS (insT t spot st) i (insS i spot st (R,B)) d)) ∧
 (∀d,d<=i->∀m,m<=d->BB n W C δ (β+E8 π b i) (shrS (insT t spot st) (i-d) (i-d+1) (downS (insT t spot st) i (insS i spot st (R,B)) d) m)):=by
 have I:=p.ins H hs h0 h1 hW hG NP hex;rw[←MP,←mP]at I;have b1:BB n W C δ (β+i*cM π i) (insS i spot st (R,B)):=(bb.mono (by have:=qb1 (cM π i) hs;omega)).ins H.hi hs;have run:=Ug (β:=β+i*cM π i) I H.hi b1
 have up:∀d,d<=i+1->β+i*cM π i+d*((i+1)*(i+1+(b+i+3+2*π+i*(π+1))+2))<=β+E8 π b i:=fun d hd=>by
  unfold E8;have:=qb1 ((i+1)*(i+1+(b+i+3+2*π+i*(π+1))+2)) hd;omega
 refine⟨I,?_,b1,fun d hd=>(run d hd).2.1.mono (up d hd),fun d hd m hm=>((run d O9m).2.2 hd m hm).mono (up (d+1) O9m)⟩;have D:=(run (i+1) (qa0 _)).1;rw[ql9]at D;exact D
end Lat
namespace Lat
open Hb
variable{C:Nat->Prop}{δ:Nat}
theorem Rg{w m D:Nat}{T P:Mat}(h:K8 m (fun c=>c<w) T D):K8 m (fun c=>c<w) (beside w T P) D:=fun i hi s hs=>by
 have e:(det i fun r l=>beside w T P r (s l))=det i fun r l=>T r (s l):=Dc fun r c _ hc=>beside_lo (hs c hc);rw[e];exact h i hi s hs
theorem In.cols{w n:Nat}{R R':Mat}{u v:Nat->Int}(h:In w n R u)(hR:∀k c,k<n->c<w->R k c=R' k c)(hu:∀c,c<w->u c=v c):In w n R' v:=by
 obtain⟨x,hx⟩:=h;exact⟨x,fun c hc=>by rw[←hu c hc,hx c hc];exact Az fun k hk=>by rw[hR k c hk hc]⟩
theorem Dt.cols{n w:Nat}{T T' S S':Mat}(h:Dt n w T T')(e:∀k c,k<n->c<w->T k c=S k c)(e':∀k c,k<n->c<w->T' k c=S' k c):Dt n w S S':=by
 obtain⟨r,t,hr,st,hz⟩:=h.st;refine⟨fun i hi=>(h.fwd i hi).cols e fun c hc=>e' i c hi hc,fun i hi=>(h.bwd i hi).cols e' fun c hc=>e i c hi hc,r,t,hr,⟨st.lt,st.inc,fun j c hj hc=>?_,fun j hj=>?_,fun k j hk hj=>?_⟩,fun i c h1 h2 h3=>by rw[←e' i c h2 h3];exact hz i c h1 h2 h3⟩
 . rw[←e' j c (by omega) (by have:=st.lt j hj;omega)];exact st.zero j c hj hc
 . rw[←e' j _ (by omega) (st.lt j hj)];exact st.pos j hj
 . rw[←e' k _ (by omega) (st.lt j hj),←e' j _ (by omega) (st.lt j hj)];exact st.red k j hk hj
theorem DI{n W w r i E π b:Nat}{e:Int}{T P B0 R B:Mat}{kt t:Nat->Nat}{hd:Nat->Int}(g:F8 n w r E e T)(hW:w<=W)(h:Cl n W w r i (fun c=>c<w) (beside w T P) B0 kt hd t R B)(hi:i<r)(hE:E<=2 ^ π)(he:e.natAbs<=2 ^ π)(hb:i*E<=2 ^ b)(hπ:π<=b):Hj n W w i (fun c=>c<w) R B t π b:=by
 have rn:=g.sq.rn;refine h.st.putD (Rg g.dets) O9m O9m (fun c hc=>O9m) (b0:=π) (fun c hc=>?_) hE hb (qa0 _) hπ;rw[beside_lo hc];obtain⟨a1,a2⟩:=g.le i c O9m hc;omega
theorem N3{n w r E:Nat}{e:Int}{G:Nat->Prop}{A Q T P B0 R B:Mat}{kt t:Nat->Nat}{hd:Nat->Int}(he:0<e)(g:F8 n w r E e T)(K:R7 n (w+n) w r kt hd (beside w T P))(h:Cl n (w+n) w r n G (beside w T P) B0 kt hd t R B)(k:∀x c,x<n->c<w->T x c=Mx n w A (P x) (Q c)) :
 Dt n w T R/\F8 w n r E e (tr R)/\R7 n (w+n) w r kt hd R/\∀x c,x<n->c<w->R x c=Mx n w A (fun a=>R x (w+a)) (Q c):=by
 have s:Dt n w T R:=(h.st.rows O9m).cols (fun k c _ hc=>beside_lo hc) fun _ _ _ _=>rfl;exact⟨s,s.going he g,h.done K,h.st.told (qa0 _) (Lj k)⟩
end Lat
namespace Lat
open Hb
variable{C:Nat->Prop}{δ:Nat}
theorem DS{n W w i D π b b0:Nat}{M B0 R B:Mat}{t:Nat->Nat}(hM:∀r c,r<n->c<W->(M r c).natAbs<=2 ^ b0)(hD:K8 n (fun c=>c<W) M D)(h:Db n W w i (fun c=>c<W) M B0 t R B)(hi:i<n)(h1:D<=2 ^ π)(h2:i*D<=2 ^ b)(h3:b0<=π)(h4:b0<=b):Hj n W w i (fun c=>c<W) R B t π b :=
 h.putD hD O9m hi (fun _ hc=>hc) (fun c hc=>hM i c hi hc) h1 h2 h3 h4
theorem N8{n W w i D b b0 β:Nat}{M B0 R B:Mat}{t:Nat->Nat}(hM:∀r c,r<n->c<W->(M r c).natAbs<=2 ^ b0)(hD:K8 n (fun c=>c<W) M D)(hB:∀k a,B0 k a=if k=a then 1 else 0)(h:Db n W w i (fun c=>c<W) M B0 t R B)(hi:i<=n)(h2:i*D<=2 ^ b)(h4:b0<=b)(hβ:b<β)(VJ:n+b0<β):BB n W (fun _=>False) 0 β (R,B):=by
 refine⟨fun r c hr hc=>?_,fun r a hr ha=>?_,fun _ _ _ z=>z.elim⟩
 . have le:(R r c).natAbs<=2 ^ b:=by
    by_cases z:r<i
    . exact qa1 (h.rowD hD hi (fun _ hc=>hc) z hc) h2
    . rw[h.good.rest r c (by omega)];exact qa1 (hM r c hr hc) (C5 h4)
   exact qa4 le (qg1 (by decide) hβ)
 . have pM:∀x,x<n->∀c,pT n B0 M x c=M x c:=fun x hx c=>by
    show Aq (fun k=>B0 k x*M k c) n=M x c;rw[Ch (j:=x) hx fun k _ hne=>by rw[hB,if_neg hne];simp,hB,if_pos rfl,qc0]
   by_cases z:r<i
   . have:=h.backs hi (a:=a) (m:=2 ^ b0) (fun k hk=>by rw[h.good.restB k a hk,hB]) (fun j hj=>by rw[pM a ha];exact hM a _ ha (h.st.lt j hj)) (fun j hj=>hM a _ ha (h.st.lt j hj)) (fun _ _ j _=>pM a ha _) r z;rw[←qc7]at this;exact qa4 this (qg1 (by decide) O9m)
   . show(B r a).natAbs<2 ^ β;rw[h.good.restB r a (by omega),hB];have:1<2 ^ β:=Nat.one_lt_two_pow O9m;split
     . exact this
     . exact qr9 (by decide) this
end Lat
namespace Lat
open Hb
theorem Ec(w:Nat)(R:Mat):beside w R (fun r a=>R r (w+a))=R:=by
 funext r c
 unfold beside;by_cases h:c<w
 . rw[if_pos h]
 . rw[if_neg h];show R r (w+(c-w))=R r c;rw[show w+(c-w)=c by omega]
theorem R7.table{n W w r:Nat}{kt:Nat->Nat}{hd:Nat->Int}{T T' P:Mat}(h:R7 n W w r kt hd (beside w T P))(hz:∀i c,r<=i->i<n->c<w->T' i c=0):R7 n W w r kt hd (beside w T' P):=by
 have same:∀k c,w<=c->beside w T' P k c=beside w T P k c:=fun k c hc=>by unfold beside;rw[if_neg (by omega),if_neg (by omega)]
 refine⟨fun j c h1 h2 h3=>?_,h.inc,h.ge,h.lt,fun j h1 h2=>?_,h.pos,fun k j h1 h2 h3=>?_⟩
 . by_cases z:c<w
   . rw[beside_lo z];exact hz j c h1 h2 z
   . rw[same j c (by omega)];exact h.zero j c h1 h2 h3
 . rw[same j _ (h.ge j h1 h2)];exact h.head j h1 h2
 . rw[same k _ (h.ge j h1 h3)];exact h.red k j h1 h2 h3
theorem Fu{n w w':Nat}{T T' P B:Mat}(h:E4 n w (beside w T P) B):E4 n w' (beside w' T' P) B:=fun i j hi hj=>by
 have:=h i j hi hj;unfold pD at this ⊢;rw[←this];exact Az fun c _=>by rw[beside_hi,beside_hi]
structure Oh(n w r E L m:Nat)(e:Int)(A T P PB Q QB:Mat)(kl kr:Nat->Nat)(hl hr:Nat->Int):Prop where
 e0:0<e
 going:F8 n w r E e T
 kl:R7 n (w+n) w r kl hl (beside w T P)
 kr:R7 w (n+w) n r kr hr (beside n (tr T) Q)
 told:∀x c,x<n->c<w->T x c=Mx n w A (P x) (Q c)
 dl:E4 n w (beside w T P) PB
 dr:E4 w n (beside n (tr T) Q) QB
 left:eS n w r L m T
theorem Oh.next{n w r E L m:Nat}{e:Int}{A T P PB Q QB R RB S SB:Mat}{kl kr tl ur:Nat->Nat}{hl hr:Nat->Int}{G G':Nat->Prop}(hL:e.natAbs.log2<=L)(h:Oh n w r E L m e A T P PB Q QB kl kr hl hr)
 (s1:Cl n (w+n) w r n G (beside w T P) PB kl hl tl R RB)
 (s2:Cl w (n+w) n r w G' (beside n (tr R) Q) QB kr hr ur S SB) :
 Qz n w T (tr S)/\(¬Straight n w T->0<m/\Oh n w r E L (m-1) e A (tr S) (fun x a=>R x (w+a)) RB (fun x a=>S x (n+a)) SB kl kr hl hr):=by
 obtain⟨a1,a2,a3,a4⟩:=N3 h.e0 h.going h.kl s1 h.told;have xB:R7 w (n+w) n r kr hr (beside n (tr R) Q):=h.kr.table fun i c h1 h2 h3=>a2.sq.row0 i c h1 h2 h3;have t2:∀x c,x<w->c<n->tr R x c=Mx w n (tr A) (Q x) ((fun y a=>R y (w+a)) c):=fun x c hx hc=>Vw (T:=R) (P:=fun y a=>R y (w+a)) a4 x c hx hc;obtain⟨b1,b2,b3,b4⟩:=N3 h.e0 a2 xB s2 t2;have st:Qz n w T (tr S):=⟨R,a1,b1⟩
 refine⟨st,fun ns=>?_⟩;obtain⟨m0,lf⟩:=h.going.next h.e0 hL st h.left ns;refine⟨m0,h.e0,b2,?_,?_,?_,?_,?_,lf⟩
 . have:R7 n (w+n) w r kl hl (beside w R fun x a=>R x (w+a)):=by rw[Ec];exact a3
   exact this.table fun i c h1 h2 h3=>b2.sq.row0 i c h1 h2 h3
 . have:R7 w (n+w) n r kr hr (beside n S fun x a=>S x (n+a)):=by rw[Ec];exact b3
   exact this.table fun i c h1 h2 h3=>b2.sq.flip.row0 i c h1 h2 h3
 . intro x c hx hc;show S c x=_;rw[b4 c x hc hx,Ip]
 . have d:=s1.st.good.dual h.dl;have:E4 n w (beside w R fun x a=>R x (w+a)) RB:=by rw[Ec];exact d
   exact Fu this
 . have d:=s2.st.good.dual (Fu h.dr);have:E4 w n (beside n S fun x a=>S x (n+a)) SB:=by rw[Ec];exact d
   exact Fu this
noncomputable def one:Mat:=fun i j=>if i=j then 1 else 0
theorem Pe(n w:Nat)(T:Mat):E4 n w (beside w T one) one:=fun i j hi hj=>by
 unfold pD
 rw[show(fun c=>beside w T one i (w+c)*one j c)=fun c=>(if c=i then 1 else 0)*one j c from funext fun c=>by
  rw[beside_hi];show(if i=c then(1:Int) else 0)*_=_;by_cases e:i=c
  . rw[if_pos e,if_pos e.symm]
  . rw[if_neg e,if_neg fun z=>e z.symm]]
 rw[Dv (fun c=>one j c) i n,if_pos hi];show(if j=i then(1:Int) else 0)=_;by_cases e:i=j
 . rw[if_pos e,if_pos e.symm]
 . rw[if_neg e,if_neg fun z=>e z.symm]
theorem FA{n w:Nat}(A:Mat):∀x c,x<n->c<w->A x c=Mx n w A (one x) (one c):=fun x c hx hc=>by
 unfold Mx
 rw[Ch (j:=x) hx fun k _ hne=>by
  have:one x k=0:=if_neg fun z=>hne z.symm;rw[this];simp]
 rw[Ch (j:=c) hc fun k _ hne=>by
  have:one c k=0:=if_neg fun z=>hne z.symm;rw[this];simp]
 have e1:one x x=1:=if_pos rfl;have e2:one c c=1:=if_pos rfl;rw[e1,e2];simp
theorem t5{n w D D' L:Nat}{A R RB S SB:Mat}{t u:Nat->Nat}{G G':Nat->Prop}(hD:K8 n G (beside w A one) D)(YI:K8 w G' (beside n (tr R) one) D')
 (s1:Db n (w+n) w n G (beside w A one) one t R RB) (s2:Db w (n+w) n w G' (beside n (tr R) one) one u S SB) :
 ∃(r:Nat) (e:Int),r<=n/\r<=w/\e<=D/\Oh n w r D L (r*(L+2)) e A (tr S) (fun x a=>R x (w+a)) RB (fun x a=>S x (n+a)) SB t u (fun j=>R j (t j)) (fun j=>S j (u j)) ∧
   (∀j,j<n->R j (t j)<=D)/\∀j,j<w->S j (u j)<=D':=by
 obtain⟨r,hr,st,hz,K,pr,hd⟩:=s1.first hD;obtain⟨r',hr',st',hz',K',_,hd'⟩:=s2.first YI;have e0:0<prodN (fun j=>R j (t j)) r:=Cy fun j hj=>st.pos j hj;have WR:Dt w n (tr R) (tr (tr S)):=(s2.rows O9m).cols (fun k c _ hc=>beside_lo hc) fun _ _ _ _=>rfl;have g:=Qz.first (T:=A) hr st hz WR pr;have rw':=g.sq.rw
 have er:r'=r:=by
  refine qh2 (qf3 fun z=>?_) (qf3 fun z=>?_)
  . have p:=st'.pos r z;have:S r (u r)=0:=g.sq.col0 (u r) r (st'.lt r z) (qa0 _) O9m;omega
  . have p:0<S r' r':=g.pos r' z;have:S r' r'=0:=hz' r' r' (qa0 _) O9m O9m;omega
 subst er;have d1:=s1.good.dual (Pe n w A);have d2:=s2.good.dual (Pe w n (tr R));have tl:=s1.told (qa0 _) (Lj (FA (n:=n) (w:=w) A));have t2:∀x c,x<w->c<n->tr R x c=Mx w n (tr A) (one x) ((fun y a=>R y (w+a)) c):=fun x c hx hc=>Vw (T:=R) (P:=fun y a=>R y (w+a)) (Q:=one) tl x c hx hc;have WJ:=s2.told (qa0 _) (Lj t2);refine⟨r',_,hr,rw',pr,⟨e0,g,?_,?_,fun x c hx hc=>?_,?_,?_,eS.start g⟩,hd,hd'⟩
 . have:R7 n (w+n) w r' t (fun j=>R j (t j)) (beside w R fun x a=>R x (w+a)):=by rw[Ec];exact K
   exact this.table fun i c h1 h2 h3=>g.sq.row0 i c h1 h2 h3
 . have:R7 w (n+w) n r' u (fun j=>S j (u j)) (beside n S fun x a=>S x (n+a)):=by rw[Ec];exact K'
   exact this.table fun i c h1 h2 h3=>g.sq.flip.row0 i c h1 h2 h3
 . show S c x=_;rw[WJ c x hc hx,Ip]
 . have:E4 n w (beside w R fun x a=>R x (w+a)) RB:=by rw[Ec];exact d1
   exact Fu this
 . have:E4 w n (beside n S fun x a=>S x (n+a)) SB:=by rw[Ec];exact d2
   exact Fu this
structure DiagAt(n w m:Nat)(E:Nat)(A P PB Q QB:Mat)(f:Nat->Int):Prop where
 mn:m<=n
 mw:m<=w
 diag:∀x y,x<n->y<w->Mx n w A (P x) (Q y)=if x=y then f x else 0
 pos:∀x,x<m->0<f x
 zero:∀x,m<=x->x<n->x<w->f x=0
 prod:prodN f m<=E
 dl:E4 n 0 P PB
 dr:E4 w 0 Q QB
theorem Ws{n w:Nat}{T P B:Mat}(h:E4 n w (beside w T P) B):E4 n 0 P B:=fun i j hi hj=>by
 rw[←h i j hi hj];unfold pD;exact Az fun c _=>by rw[beside_hi,Nat.zero_add]
theorem Oh.diag{n w r E L m:Nat}{e:Int}{A T P PB Q QB:Mat}{kl kr:Nat->Nat}{hl hr:Nat->Int}(h:Oh n w r E L m e A T P PB Q QB kl kr hl hr)(s:Straight n w T):DiagAt n w r E A P PB Q QB (fun x=>T x x):=by
 refine⟨h.going.sq.rn,h.going.sq.rw,fun x y hx hy=>?_,h.going.pos,fun x h1 h2 h3=>h.going.sq.row0 x x h1 h2 h3,h.going.prod,Ws h.dl,Ws h.dr⟩;rw[←h.told x y hx hy];by_cases z:x=y
 . rw[if_pos z,z]
 . rw[if_neg z];exact s x y hx hy z
theorem DiagAt.share{n w m E:Nat}{A P PB Q QB:Mat}{f:Nat->Int}(h:DiagAt n w m E A P PB Q QB f){i j:Nat}(hij:i<j)(hj:j<m){g a b:Int}(S:Shares (f i) (f j) g a b) :
 DiagAt n w m E A (addR (addR P i j 1) j i (-(b*f j / g))) (addR (addR PB j i (-1)) i j (b*f j / g)) (blendR Q i j a b (-(f j / g)) (f i / g)) (blendR QB i j (f i / g) (f j / g) (-b) a) (put2 f i j g (f i / g*f j)):=by
 have ne:i≠j:=O9m
 have mn:=h.mn;have mw:=h.mw;have pi:=h.pos i O9m;have pj:=h.pos j hj;have pg:=S.pos;have pr:=S.pair;have gz:f i / g*g=f i:=qq8 S.dA
 have po:0<f i / g*f j:=by
  have:0<g*(f i / g*f j):=by rw[pr.pr];exact Int.mul_pos pi pj
  exact Int.pos_of_mul_pos_right this O9m
 refine⟨mn,mw,Xc (BY n w A) ne O9m O9m O9m O9m h.diag S,fun x hx=>?_,fun x h1 h2 h3=>?_,?_,?_,?_⟩
 . by_cases e1:x=i
   . rw[e1,Nz];exact pg
   . by_cases e2:x=j
     . rw[e2,Ny f ne];exact po
     . rw[Hl f e1 e2];exact h.pos x hx
 . rw[Hl f (by omega) (by omega)];exact h.zero x h1 h2 h3
 . rw[cT hij hj (by omega) (by omega) pr.pr];exact h.prod
 . have d1:=h.dl.add (p:=i) (q:=j) O9m O9m ne 1;have d2:=d1.add (p:=j) (q:=i) O9m O9m (fun z=>ne z.symm) (-(b*f j / g));rw[qk6]at d2;exact d2
 . have B:=S.blend (π:=(f i).natAbs+(f j).natAbs) pi (qa1 O9m (qc3 qq4)) (qa1 O9m (qc3 qq4));have d:=h.dr.blend (p:=i) (q:=j) O9m O9m ne B.one;rw[qk6]at d;exact d
theorem DiagAt.le{n w m E:Nat}{A P PB Q QB:Mat}{f:Nat->Int}(h:DiagAt n w m E A P PB Q QB f){x:Nat}(hx:x<m):f x<=E:=qp7 (Td h.pos hx) h.prod
noncomputable def Rb(n r:Nat)(kt:Nat->Nat):Nat->Prop:=fun c=>∃j,r<=j/\j<n/\c=kt j
theorem R7.bits{n W w r β η:Nat}{kt:Nat->Nat}{hd:Nat->Int}{M B:Mat}(K:R7 n W w r kt hd M)(hη:∀j,r<=j->j<n->hd j<=2 ^ η)(b1:Bits n W β M)(b2:Bits n n β B)(hβ:η+1<=β):BB n W (Rb n r kt) (β-(η+1)) β (M,B):=by
 refine⟨b1,b2,fun k c hk hc=>?_⟩;obtain⟨j,h1,h2,rfl⟩:=hc
 have le:(M k (kt j)).natAbs<=2 ^ η:=by
  have p:=K.pos j h1 h2;have q:=hη j h1 h2
  have q':(hd j).natAbs<=2 ^ η:=by
   have:((hd j).natAbs:Int)<=((2 ^ η:Nat):Int):=by rw[Int.natAbs_of_nonneg (by omega)];exact_mod_cast q
   exact_mod_cast this
  rcases qn8 k j with z | z | z
  . obtain⟨a,b⟩:=K.red k j h1 z h2;omega
  . subst z;rw[K.head k h1 h2];exact q'
  . rw[K.zero k _ (by omega) hk (K.inc j k h1 z hk)];exact qa8 _
 show(M k (kt j)).natAbs*2 ^ (β-(η+1))<2 ^ β;have e:2 ^ β=2 ^ (η+1)*2 ^ (β-(η+1)):=by rw[←qc7];congr 1;omega
 rw[e];refine Nat.mul_lt_mul_of_pos_right ?_ (Nat.two_pow_pos _);exact Wd le
noncomputable def Li(π b η r n:Nat):Nat:=Dj π b r+Mz (η+1+Dj π b r) η r (n-r)
theorem JZ{n W r β η π b:Nat}{kt:Nat->Nat}{s:Mat × Mat}(bb:BB n W (Rb n r kt) (β-(η+1)) (β+Dj π b r) s)(hr:r<=n)(hβ:η+1<=β):W3 n r r kt (η+1+Dj π b r) s.1:=by
 have:=HJ bb hr (kt:=kt) (fun j h1 h2=>⟨j,h1,h2,rfl⟩) O9m;rw[show β+Dj π b r-(β-(η+1))=η+1+Dj π b r by omega]at this;exact this
theorem cK(π b:Nat){i r:Nat}(h:i<=r):Dj π b i<=Dj π b r:=by
 induction r with
 | zero=>rw[show i=0 by omega];exact qa0 _
 | succ r ih =>
   by_cases e:i=r+1
   . rw[e];exact qa0 _
   . have:=ih O9m;show _<=Dj π b r+E8 π b r;omega
theorem dU(c η r:Nat){d e:Nat}(h:d<=e):Mz c η r d<=Mz c η r e:=by
 induction e with
 | zero=>rw[show d=0 by omega];exact qa0 _
 | succ e ih =>
   by_cases z:d=e+1
   . rw[z];exact qa0 _
   . have:=ih O9m;show _<=Mz c η r e+_;omega
end Lat
namespace Hb
open PySem L2
theorem aK{g:TG}{te:TE}{D:Addr}{Q:Hp->Prop}{τ:St}{H:Hp}{K:W.Frag}{a b:Addr}{xs ys:List V}{n:Nat}(hn:xs.length=n/\ys.length=n)(Pv:Nat->List V->St->Hp->Prop)(h0:Pv 0 [] τ H)(hl:∀i zs τ H,i<=n->Pv i zs τ H->Fe K H a xs/\Fe K H b ys)
 (hs:∀i x y zs τ H p,xs[i]?=some x->ys[i]?=some y->Pv i zs τ H->H p=none->g (.ref p) τ (upd H p (.tup [x,y])) fun τ2 H2=>te τ2 H2 fun y H4=>H4 D=some (.lst zs)/\zs.length<sizeLine/\Pv (i+1) (zs++[y]) τ2 (upd H4 D (.lst (zs++[y]))))
 (hd:∀zs τ H,Pv n zs τ H->Q H):Pq (Ityp K a b) g CK te D Q τ H:=dZ hn Pv h0 hl (fun i x y zs τ H p e1 e2 q hp=>hs i x y zs τ H p e1 e2 q hp) hd
noncomputable abbrev big:Nat:=67108864
theorem LH:∃n:Nat,n=2 ^ 9000:=⟨_,rfl⟩
noncomputable def L9:Nat:=Classical.choose LH
theorem Ut:L9=2 ^ 9000:=Classical.choose_spec LH
theorem y9{i j:Int}{n:Nat}(hi:i.natAbs<L9)(hj:j.natAbs<2 ^ n)(h:9000+n<=134217728:=by decide):IntMulOk i j:=Nc (Ut▸hi) hj h
theorem X0{i j:Int}(hi:i.natAbs<L9)(hj:j.natAbs<L9):IntMulOk i j:=Nc (Ut▸hi) (Ut▸hj) (by decide)
theorem Px.of9{i j:Int}(h0:j≠0)(h:j.natAbs<L9):Px i j:=Px.of h0 (Ut▸h)
theorem SI{i j:Int}(hi:i.natAbs<L9)(hj:j.natAbs<L9):(i*j).natAbs<2 ^ 18000:=by
 rw[qa9,show 18000=9000+9000 from rfl,qc7];exact qm0 (Ut▸hi) (Ut▸hj)
theorem HR{x π:Nat}(h:x<=2 ^ π)(hπ:π<=8999):x<L9:=by
 rw[Ut];exact qa4 h (qg1 (by decide) O9m)
noncomputable def BO(n W:Nat)(s:Lat.Mat × Lat.Mat):Prop:=Lat.Bits n W big s.1/\Lat.Bits n n big s.2
noncomputable def TA(H:Hp)(r:Addr)(as:List Addr)(n W:Nat)(f:Lat.Mat):Prop:=as.length=n/\H r=some (.lst (as.map V.ref))/\∀i c,as[i]?=some c->H c=some (.lst (VI W (f i)))
section
variable{K:W.Frag}{H H':Hp}{r:Addr}{as:List Addr}{n W:Nat}{f g:Lat.Mat}
theorem TA.keep(x:TA H r as n W f)(h1:∀o,H r=some o->H' r=some o)(h2:∀a∈as,∀o,H a=some o->H' a=some o):TA H' r as n W f:=⟨x.1,h1 _ x.2.1,fun i c e=>h2 c (qe2 e) _ (x.2.2 i c e)⟩
theorem TA.same(x:TA H r as n W f)(s:Aj H H'):TA H' r as n W f:=x.keep (fun _ e=>s _ _ e) fun _ _ _ e=>s _ _ e
theorem TA.put{y:Addr}{o:HO}(x:TA H r as n W f)(h1:r≠y)(h2:∀a∈as,a≠y):TA (upd H y o) r as n W f:=x.keep (fun _ e=>by rw[Bb h1];exact e) fun a ha _ e=>by rw[Bb (h2 a ha)];exact e
theorem TA.row(x:TA H r as n W f){i:Nat}(hi:i<n):∃c,as[i]?=some c/\(as.map V.ref)[i]?=some (.ref c)/\c∈as/\SqL K H c (VI W (f i)):=by
 obtain⟨h1,_,h3⟩:=x;have e:=qb0 (l:=as) (i:=i) O9m;refine⟨as[i],e,by rw[qb7,e];rfl,qk0 _,.of (h3 i _ e)⟩
theorem TA.rep(x:TA H r as n W f):Rep K H (.ref r) (dT n W f):=by
 refine GX (us:=as.map V.ref) (.of x.2.1) (by rw[qa2,x.1]) fun i hi=>?_;obtain⟨c,_,e,_,h⟩:=x.row (K:=K) hi;exact⟨c,e,h⟩
theorem TA.there(x:TA H r as n W f):H r≠none/\∀a∈as,H a≠none:=by
 refine⟨by rw[x.2.1];exact(fun z=>nomatch z),fun a ha=>?_⟩;obtain⟨i,hi,rfl⟩:=qi7 ha;rw[x.2.2 i _ (qb0 hi)];exact fun z=>by cases z
theorem TA.of{D:Addr}{H1:Hp}{w h:Nat}(R:Rows H H1 D as w f)(hl:as.length=h):TA H1 D as h w f:=⟨hl,R.at,fun i c e=>(R.row i c e).2.2⟩
theorem TA.congr(x:TA H r as n W f)(e:∀i c,i<n->c<W->f i c=g i c):TA H r as n W g:=by
 refine⟨x.1,x.2.1,fun i c ec=>?_⟩;have hi:i<n:=by rw[←x.1];exact(qb2.mp ec).1
 rw[x.2.2 i c ec,Pp fun k hk=>e i k hi hk]
theorem TA.x{p C dx:Addr}{fs:List (Str × V)}(x:TA H r as n W f)(hp:H p=some (.ins C dx fs))(sx:SameX p H H'):TA H' r as n W f:=by
 refine x.keep (fun o e=>sx _ _ (E5 x.2.1 hp (by intro z;cases z)) e) fun a ha o e=>sx _ _ ?_ e;obtain⟨i,hi,rfl⟩:=qi7 ha;exact E5 (x.2.2 i _ (qb0 hi)) hp (by intro z;cases z)
theorem TA.made{H2:Hp}{L D:Addr}{i:Nat}(x:TA H r as n W f)(s2:Aj H H2)(hi:i<n)(hL:H2 L=some (.lst ((as.map V.ref).set i (.ref D))))(hD:H2 D=some (.lst (VI W (g i))))(e:∀r,r≠i->g r=f r):TA H2 L (as.set i D) n W g:=by
 refine⟨by rw[qi2,x.1],by rw[hL,List.map_set],fun j c ec=>?_⟩;rw[ql5]at ec;by_cases hj:i=j
 . subst hj;rw[if_pos rfl,if_pos (by rw[x.1];exact hi)]at ec;cases ec;exact hD
 . rw[if_neg hj]at ec;rw[e j fun z=>hj z.symm];exact s2 _ _ (x.2.2 j c ec)
theorem TA.two{i j:Nat}{D1 D2:Addr}(x:TA H r as n W f)(hi:i<n)(hj:j<n)(hij:i≠j)(h':H' r=some (.lst (((as.map V.ref).set i (.ref D1)).set j (.ref D2))))(keep:∀a∈as,∀o,H a=some o->H' a=some o)(h1:H' D1=some (.lst (VI W (g i))))(h2:H' D2=some (.lst (VI W (g j))))(e:∀k,k≠i->k≠j->g k=f k):TA H' r ((as.set i D1).set j D2) n W g:=by
 refine⟨by rw[qi2,qi2,x.1],by rw[h',List.map_set,List.map_set],fun k c ec=>?_⟩;rw[ql5,qi2]at ec;by_cases hkj:j=k
 . subst hkj;rw[if_pos rfl,if_pos (by rw[x.1];exact hj)]at ec;cases ec;exact h2
 rw[if_neg hkj,ql5]at ec;by_cases hki:i=k
 . subst hki;rw[if_pos rfl,if_pos (by rw[x.1];exact hi)]at ec;cases ec;exact h1
 rw[if_neg hki]at ec;rw[e k (fun z=>hki z.symm) fun z=>hkj z.symm];exact keep c (qe2 ec) _ (x.2.2 k c ec)
theorem BL{i j:Nat}{D1 D2 a:Addr}(h:a∈(as.set i D1).set j D2):a∈as\/a=D1\/a=D2:=by
 rcases qg6 h with h | h
 . rcases qg6 h with h | h
   . exact .inl h
   . exact .inr (.inl h)
 . exact .inr (.inr h)
theorem Jb{l i:Nat}(h:i<l):jN l ((i:Nat):Int)=some i:=by
 unfold jN;rw[if_pos (by omega),if_pos (by omega),qe4]
end
noncomputable def mNames:List Str:=["turn","blend","put_in","meet","shrink","shrink_row"]
structure LX(H:Hp)(C p r b:Addr)(sv:Option V)(n W:Nat)(s:Lat.Mat × Lat.Mat)(N:Addr->Prop):Prop where
 ob:∃dx fs,H p=some (.ins C dx fs)/\fs.lookup ("rows":Str)=some (.ref r)/\fs.lookup ("backs":Str)=some (.ref b)/\fs.lookup ("starts":Str)=sv/\(∀m∈mNames,fs.lookup m=none)/\fs.length<=10
 rw:∃as,TA H r as n W s.1/\∀a∈as,a≠r/\a≠b/\¬N a
 bk:∃bs,TA H b bs n n s.2/\∀a∈bs,a≠r/\a≠b/\¬N a
 ne:r≠b
 nr:¬N r
 nb:¬N b
 nn:∀a,N a->H a≠none
theorem LX.keep{H H':Hp}{C p r b:Addr}{sv:Option V}{n W:Nat}{s:Lat.Mat × Lat.Mat}{N:Addr->Prop}(x:LX H C p r b sv n W s N)(e:Aj H H'):LX H' C p r b sv n W s N:=by
 obtain⟨dx,fs,h1,h2⟩:=x.ob;obtain⟨as,a1,a2⟩:=x.rw;obtain⟨bs,b1,b2⟩:=x.bk;exact⟨⟨dx,fs,e _ _ h1,h2⟩,⟨as,a1.same e,a2⟩,⟨bs,b1.same e,b2⟩,x.ne,x.nr,x.nb,fun a ha z=>x.nn a ha (e.free z)⟩
theorem LX.refs{H:Hp}{C p r b:Addr}{sv:Option V}{n W:Nat}{s:Lat.Mat × Lat.Mat}{N:Addr->Prop}(x:LX H C p r b sv n W s N):p≠r/\p≠b:=by
 obtain⟨dx,fs,h1,_⟩:=x.ob;obtain⟨as,a1,_⟩:=x.rw;obtain⟨bs,b1,_⟩:=x.bk;exact⟨E5 h1 a1.2.1 (by intro z;cases z),E5 h1 b1.2.1 (by intro z;cases z)⟩
noncomputable def UR(t:Tn)(s:Lat.Mat × Lat.Mat):Lat.Mat × Lat.Mat:=(IE t s.1,IE (QS t) s.2)
noncomputable def mJ(n W:Nat)(f:Lat.Mat):Tn->Prop
 | .ad i j k=>i<n/\j<n/\i≠j/\∀c,c<W->IntMulOk k (f j c)
 | .mi i=>i<n
 | .sw _ _=>False
noncomputable def Q0(r b:Addr)(H H':Hp):Prop:=∀x o,x≠r->x≠b->H x=some o->H' x=some o
theorem Q0.of{r b:Addr}{H H':Hp}(s:Aj H H'):Q0 r b H H':=fun _ _ _ _ e=>s _ _ e
theorem Q0.trans{r b:Addr}{H H1 H2:Hp}(x:Q0 r b H H1)(y:Q0 r b H1 H2):Q0 r b H H2:=fun a o n1 n2 e=>y a o n1 n2 (x a o n1 n2 e)
theorem Q0.l{r b:Addr}{H H':Hp}{o:HO}(x:Q0 r b H H'):Q0 r b H (upd H' r o):=fun a u n1 n2 e=>by rw[Bb n1];exact x a u n1 n2 e
theorem Q0.r{r b:Addr}{H H':Hp}{o:HO}(x:Q0 r b H H'):Q0 r b H (upd H' b o):=fun a u n1 n2 e=>by rw[Bb n2];exact x a u n1 n2 e
section
variable(K:W.Frag)(CL CS CW:Addr)
noncomputable def So:Sp:=fun vs H Q _=>∃(r:Addr) (u:V) (as:List Addr) (n W:Nat) (f:Lat.Mat) (t:Tn),vs=[.ref r,u]/\TA H r as n W f/\Rep K H u (HY t)/\mJ n W f t/\n<=1000/\W<=1000 ∧
 ∀(D:Addr) (as':List Addr) (H':Hp),H D=none->Aj H H'->TA H' D as' n W (IE t f)->(∀a∈as',(a∈as\/H a=none)/\a≠D)->Q (.ref D) H'
noncomputable def Hz(_K:W.Frag)(CL CS CW:Addr):Sp:=fun vs H Q _=>∃(p dx C:Addr) (r b:V),vs=[.ref p,r,b]/\(C=CL\/C=CS)/\H p=some (.ins C dx [])/\∀H',(∀fs,fs=putF "backs" b (putF "rows" r [])->H'=upd (upd H p (.ins C dx (putF "rows" r []))) p (.ins C dx fs)->Q .non H')
noncomputable def Hy(K:W.Frag)(CL CS CW:Addr):Sp:=fun vs H Q _=>∃(p:Addr) (u:V) (C r b:Addr) (sv:Option V) (n W:Nat) (s:Lat.Mat × Lat.Mat) (N:Addr->Prop) (t:Tn),vs=[.ref p,u]/\(C=CL\/C=CS)/\LX H C p r b sv n W s N/\Rep K H u (HY t)/\mJ n W s.1 t/\mJ n n s.2 (QS t)/\n<=1000/\W<=1000 ∧
 ∀(r' b':Addr) (H':Hp),SameX p H H'->H r'=none->H b'=none->LX H' C p r' b' sv n W (UR t s) N->Q .non H'
noncomputable def Q6:Sp:=fun vs H Q _=>∃A B:Int,vs=[.int A,.int B]/\0<A/\B≠0/\A.natAbs<L9/\B.natAbs<L9/\∀(L:Addr) (g a b:Int) (H':Hp),Aj H H'->Fe K H' L [.int g,.int a,.int b]->Lat.Shares A B g a b->Q (.ref L) H'
noncomputable def J0(K:W.Frag)(CL CS CW:Addr):Sp:=fun vs H Q _=>∃(p C r b:Addr) (sv:Option V) (n W i j:Nat) (A B:Int) (s:Lat.Mat × Lat.Mat) (N:Addr->Prop),vs=[.ref p,.int i,.int j,.int A,.int B]/\(C=CL\/C=CS)/\LX H C p r b sv n W s N/\i<n/\j<n/\i≠j/\n<=1000/\W<=1000/\0<A/\B≠0/\A.natAbs<L9/\B.natAbs<L9/\BO n W s ∧
 ∀(L:Addr) (g a c:Int) (H':Hp),Q0 r b H H'->Kp H H'->Fe K H' L [.int g,.int a,.int c]->Lat.Shares A B g a c->LX H' C p r b sv n W (Lat.blendS i j a c (-(B / g)) (A / g) s) N->Q (.ref L) H'
end
noncomputable def qN(W:Nat)(t:Nat->Nat)(f m:Nat)(R:Lat.Mat):Prop:=∀j,f<=j->j<m->t j<W/\0<R j (t j)/\(R j (t j)).natAbs<L9
structure SX(CS:Addr)(H0 H:Hp)(p q:Addr)(M:Addr->Prop)(n W:Nat)(t:Nat->Nat)(cnt:Nat)(s:Lat.Mat × Lat.Mat):Prop where
 ex:∃r b,LX H CS p r b (some (.ref q)) n W s M/\H0 r=none/\H0 b=none
 st:H q=some (.lst (VI cnt fun i=>((t i:Nat):Int)))
 same:Aj H0 H
 fp:H0 p=none
 fq:H0 q=none
 mq:M q
 sm:n<=100/\W<=200/\cnt<=n
section
variable{CS:Addr}{H0 H H':Hp}{p q:Addr}{M:Addr->Prop}{n W cnt:Nat}{t:Nat->Nat}{s s':Lat.Mat × Lat.Mat}
theorem SX.redo{H1:Hp}{r' b':Addr}(x:SX CS H0 H p q M n W t cnt s)(e:Aj H H1)(sx:SameX p H1 H')(h1:H1 r'=none)(h2:H1 b'=none)(y:LX H' CS p r' b' (some (.ref q)) n W s' M):SX CS H0 H' p q M n W t cnt s':=by
 have s1:=x.same.trans e;obtain⟨r,b,z,_⟩:=x.ex;obtain⟨dx,fs,hp,_⟩:=z.ob;exact⟨⟨r',b',y,s1.free h1,s1.free h2⟩,sx _ _ (E5 x.st hp (by intro z;cases z)) (e _ _ x.st),sx.same s1 x.fp,x.fp,x.fq,x.mq,x.sm⟩
theorem SX.redo2{r b:Addr}(x:SX CS H0 H p q M n W t cnt s)(lx:LX H CS p r b (some (.ref q)) n W s M)(f1:H0 r=none)(f2:H0 b=none)(fr:Q0 r b H H')(_kp:Kp H H')(y:LX H' CS p r b (some (.ref q)) n W s' M):SX CS H0 H' p q M n W t cnt s' :=
 ⟨⟨r,b,y,f1,f2⟩,fr _ _ (fun z=>lx.nr (z▸x.mq)) (fun z=>lx.nb (z▸x.mq)) x.st,fun a o e=>fr _ _ (Bj e f1) (Bj e f2) (x.same _ _ e),x.fp,x.fq,x.mq,x.sm⟩
theorem SX.re(x:SX CS H0 H p q M n W t cnt s)(h:s=s'):SX CS H0 H p q M n W t cnt s':=h▸x
end
theorem insAt_get{α:Type}(k:Nat)(y:α)(xs:List α)(h:k<=xs.length)(j:Nat):(insAt k y xs)[j]?=if j<k then xs[j]? else if j=k then some y else xs[j-1]?:=by
 unfold insAt;by_cases h1:j<k
 . rw[if_pos h1,qj8 (by rw[qe3];omega),List.getElem?_take,if_pos h1]
 . rw[if_neg h1,qm8 (by rw[qe3];omega),qe3,Nat.min_eq_left h];by_cases h2:j=k
   . rw[if_pos h2,h2,ql9];rfl
   . rw[if_neg h2];obtain⟨e,rfl⟩:∃e,j=k+1+e:=⟨j-(k+1),O9m⟩
     rw[show k+1+e-k=e+1 by omega,List.getElem?_cons_succ,List.getElem?_drop]
     congr 1
     omega
theorem Wc{α:Type}{xs:List α}{i s:Nat}{y:α}(hi:xs[i]?=some y)(hs:s<=i)(j:Nat):(insAt s y (xs.eraseIdx i))[j]?=xs[Lat.mvI i s j]?:=by
 have hl:i<xs.length:=(qb2.mp hi).1;rw[insAt_get _ _ _ (by rw[qg4 hl];omega)];unfold Lat.mvI;by_cases h1:j<s
 . rw[if_pos h1,if_pos h1,List.getElem?_eraseIdx,if_pos (by omega)]
 . rw[if_neg h1,if_neg h1];by_cases h2:j=s
   . rw[if_pos h2,if_pos h2,hi]
   . rw[if_neg h2,if_neg h2,List.getElem?_eraseIdx];by_cases h3:j<=i
     . rw[if_pos (by omega),if_pos h3]
     . rw[if_neg (by omega),if_neg h3]
       congr 1
       omega
theorem Wi{α β:Type}(g:α->β)(k:Nat)(y:α)(xs:List α):(insAt k y xs).map g=insAt k (g y) (xs.map g):=by
 unfold insAt;rw[qc8,qi6,List.map_take,List.map_drop]
theorem Ql{α β:Type}(g:α->β):∀(xs:List α) (i:Nat),(xs.eraseIdx i).map g=(xs.map g).eraseIdx i
 | [],_=>rfl
 | _::_,0=>rfl
 | x::xs,i+1=>congrArg (g x::·) (Ql g xs i)
theorem TA.move{H H1:Hp}{r:Addr}{as:List Addr}{n W i s:Nat}{f:Lat.Mat}{ci:Addr}(x:TA H r as n W f)(hi:i<n)(hs:s<=i)(dR:as[i]?=some ci)(h1:H1 r=some (.lst (insAt s (.ref ci) ((as.map V.ref).eraseIdx i))))(h2:∀a∈as,H1 a=H a) :
 TA H1 r (insAt s ci (as.eraseIdx i)) n W (Lat.moveR f i s)/\∀a∈insAt s ci (as.eraseIdx i),a∈as:=by
 have mem:∀a∈insAt s ci (as.eraseIdx i),a∈as:=fun a ha=>by
  obtain⟨j,hj⟩:=qm3 ha;rw[Wc dR hs]at hj;exact qe2 hj
 refine⟨⟨?_,?_,fun j c e=>?_⟩,mem⟩
 . unfold insAt;rw[qe5,qc6,qe3,qh7,qg4 (by rw[x.1];exact hi),x.1];omega
 . rw[h1,Wi,Ql]
 . rw[Wc dR hs]at e;rw[h2 c (qe2 e),Lat.move_row];exact x.2.2 _ _ e
theorem t9{i s st:Nat}{t:Nat->Nat}(hs:s<=i):insAt s (V.int ((st:Nat):Int)) (VI i fun k=>((t k:Nat):Int))=VI (i+1) fun k=>((Lat.insT t s st k:Nat):Int):=by
 apply qo0;intro j;rw[insAt_get _ _ _ (by rw[By];exact hs)];by_cases hj:j<i+1
 . rw[Cw hj];unfold Lat.insT;by_cases h1:j<s
   . rw[if_pos h1,if_pos h1,Cw (by omega)]
   . rw[if_neg h1,if_neg h1];by_cases h2:j=s
     . rw[if_pos h2,if_pos h2]
     . rw[if_neg h2,if_neg h2,Cw (by omega)]
 . rw[if_neg (by omega),if_neg (by omega),qf2 (by rw[By];omega),qf2 (by rw[By];omega)]
theorem Su(t:Nat->Nat)(p f:Nat)(s:Lat.Mat × Lat.Mat):∀d l,l≠p->(Lat.shrS t p f s d).1 l=s.1 l
 | 0,_,_=>rfl
 | d+1,l,h=>by
   rw[Lat.shrS];show Lat.addR _ _ _ _ l=_;rw[Lat.addR_row_ne h];exact Su t p f s d l h
noncomputable def W1(n W:Nat)(t:Nat->Nat)(i f m:Nat)(s:Lat.Mat × Lat.Mat):Prop:=∀d,d<=m-f->BO n W (Lat.shrS t i f s d)
noncomputable def AY(n W:Nat)(t:Nat->Nat)(i:Nat)(s:Lat.Mat × Lat.Mat):Prop:=∀d,d<=i->qN W t (i-d+1) (i+1) (Lat.downS t i s d).1/\W1 n W t (i-d) (i-d+1) (i+1) (Lat.downS t i s d)
noncomputable def PJ(t:Nat->Nat)(spot i:Nat)(k:Int)(s:Lat.Mat × Lat.Mat):Lat.Mat × Lat.Mat:=Lat.shrS t i (spot+1) (Lat.addS i spot (-k) s) (i-(spot+1))
noncomputable def Tz(spot i:Nat)(A B g a b:Int)(s:Lat.Mat × Lat.Mat):Lat.Mat × Lat.Mat:=Lat.blendS spot i a b (-(B / g)) (A / g) s
noncomputable def gC(t:Nat->Nat)(spot i:Nat)(A B g a b:Int)(s:Lat.Mat × Lat.Mat):Lat.Mat × Lat.Mat:=Lat.shrS t spot (spot+1) (Tz spot i A B g a b s) (i-(spot+1))
noncomputable def pJ(t:Nat->Nat)(spot i:Nat)(A B g a b:Int)(s:Lat.Mat × Lat.Mat):Lat.Mat × Lat.Mat:=Lat.shrS t i (spot+1) (gC t spot i A B g a b s) (i-(spot+1))
structure HM(n W:Nat)(t:Nat->Nat)(spot i:Nat)(s:Lat.Mat × Lat.Mat)(Nx:Lat.Mat × Lat.Mat->Prop):Prop where
 bo:BO n W s
 hd:qN W t spot i s.1
 oth:s.1 i (t spot)≠0/\(s.1 i (t spot)).natAbs<L9
 add:∀k,s.1 i (t spot)=k*s.1 spot (t spot)->W1 n W t i (spot+1) i (Lat.addS i spot (-k) s)/\Nx (PJ t spot i k s)
 ble:∀g a b,Lat.Shares (s.1 spot (t spot)) (s.1 i (t spot)) g a b->W1 n W t spot (spot+1) i (Tz spot i (s.1 spot (t spot)) (s.1 i (t spot)) g a b s)/\W1 n W t i (spot+1) i (gC t spot i (s.1 spot (t spot)) (s.1 i (t spot)) g a b s)/\Nx (pJ t spot i (s.1 spot (t spot)) (s.1 i (t spot)) g a b s)
structure NF(n W i:Nat)(t:Nat->Nat)(s0:Lat.Mat × Lat.Mat)(I:Nat->Lat.Mat × Lat.Mat->Prop):Prop where
 start:I 0 s0
 ok:∀spot s,spot<=i->I spot s->∃c,c<W/\s.1 i c≠0
 skip:∀spot s,spot<i->I spot s->(∀c,c<=t spot->s.1 i c=0)->I (spot+1) s
 meet:∀spot s,spot<i->I spot s->(∀c,c<t spot->s.1 i c=0)->s.1 i (t spot)≠0->HM n W t spot i s (I (spot+1))
noncomputable def F9(W:Nat)(u:Nat->Int)(st:Nat):Prop:=(∀c,c<st->u c=0)/\u st≠0/\st<W
theorem F9.one{W W':Nat}{u:Nat->Int}{a b:Nat}(h:F9 W u a)(k:F9 W' u b):a=b:=by
 rcases qn8 a b with e | e | e
 . exact absurd (k.1 a e) h.2.1
 . exact e
 . exact absurd (h.1 b e) k.2.1
theorem F9.ex{W:Nat}{u:Nat->Int}(h:∃c,c<W/\u c≠0):∃st,F9 W u st:=by
 obtain⟨c,hc,h0⟩:=h
 induction c using Nat.strongRecOn with
 | _ c ih =>
   by_cases z:∃d,d<c/\u d≠0
   . obtain⟨d,hd,hd0⟩:=z;exact ih d hd O9m hd0
   . refine⟨c,fun d hd=>?_,h0,hc⟩;exact qe6 fun k=>z ⟨d,hd,k⟩
structure o7(n W:Nat)(J:Nat->(Nat->Nat)->Lat.Mat × Lat.Mat->Prop):Prop where
 step:∀i t s,i<n->J i t s->∃I,NF n W i t s I/\∀spot st s',spot<=i->I spot s'->F9 W (s'.1 i) st->(spot<i->st<t spot) →
  AY n W (Lat.insT t spot st) i (Lat.insS i spot st s')/\J (i+1) (Lat.insT t spot st) (Lat.downS (Lat.insT t spot st) i (Lat.insS i spot st s') (i+1))
theorem Zc{w n:Nat}{f g:Nat->Int}{h:Nat->Int}(h1:∀c,c<w->h c=f c)(h2:∀a,a<n->h (w+a)=g a):VI w f++VI n g=VI (w+n) h:=by
 apply qo0;intro j;by_cases e1:j<w
 . rw[qj8 (by rw[By];exact e1),Cw e1,Cw (by omega),h1 j e1]
 . rw[qm8 (by rw[By];omega),By];by_cases e2:j<w+n
   . rw[Cw (by omega),Cw e2,←h2 (j-w) (by omega),show w+(j-w)=j by omega]
   . rw[qf2 (by rw[By];omega),qf2 (by rw[By];omega)]
theorem KA{w n:Nat}{f:Nat->Int}:cutV (VI (w+n) f) (some (w:Int)) none=VI n fun a=>f (w+a):=by
 have e:=Zc (w:=w) (n:=n) (f:=f) (g:=fun a=>f (w+a)) (h:=f) (fun _ _=>rfl) (fun _ _=>rfl);have s1:HT.sIx (w+n) 0 (some (w:Int))=w:=by rw[HT.sIx_nat];omega
 unfold cutV;rw[By,s1,←e,List.drop_append_of_le_length (by rw[By];omega),List.drop_of_length_le (by rw[By];omega),List.nil_append];apply ql4;rw[By];simp only[HT.sIx];omega
theorem QI{w n:Nat}{f:Nat->Int}:cutV (VI (w+n) f) none (some (w:Int))=VI w f:=by
 have e:=Zc (w:=w) (n:=n) (f:=f) (g:=fun a=>f (w+a)) (h:=f) (fun _ _=>rfl) (fun _ _=>rfl);have s1:HT.sIx (w+n) (w+n) (some (w:Int))=w:=by rw[HT.sIx_nat];omega
 have s2:HT.sIx (w+n) 0 none=0:=rfl;unfold cutV;rw[By,s1,s2,List.drop_zero,qr8,←e,List.take_append_of_le_length (by rw[By];omega),ql4 (by rw[By];omega)]
section
variable(K:W.Frag)(CL CS CW:Addr)
noncomputable def Q5(K:W.Frag)(CL CS CW:Addr):Sp:=fun vs H Q _=>∃(v:V) (L r b:Addr) (sv:Option V) (N:Addr->Prop) (n w:Nat) (T P PB:Lat.Mat) (J:Nat->(Nat->Nat)->Lat.Mat × Lat.Mat->Prop),vs=[v,.int w,.ref L]/\Rep K H v (dT n w T)/\LX H CL L r b sv n n (P,PB) N/\n<=60/\w<=60/\o7 n (w+n) J/\(∀t,J 0 t (Lat.beside w T P,PB))/\(∀i t s,J i t s->∀j,j<i->t j<w+n) ∧
 ∀(tp D L' r' b':Addr) (as:List Addr) (t:Nat->Nat) (s:Lat.Mat × Lat.Mat) (H':Hp),Aj H H'->J n t s->Fe K H' tp [.ref D,.ref L']->TA H' D as n w s.1->LX H' CL L' r' b' none n n (fun x a=>s.1 x (w+a),s.2) N->H D=none->H L'=none->H r'=none->H b'=none->Q (.ref tp) H'
noncomputable def Op:Sp:=fun vs H Q _=>∃(c:Addr) (W st:Nat) (u:Nat->Int),vs=[.ref c]/\SqL K H c (VI W u)/\F9 W u st/\W<=1000/\Q (.int (st:Int)) H
noncomputable def Hx(_K:W.Frag)(CL CS CW:Addr):Sp:=fun vs H Q _=>∃(H0:Hp) (p q:Addr) (M:Addr->Prop) (n W:Nat) (t:Nat->Nat) (cnt:Nat) (s:Lat.Mat × Lat.Mat) (i f:Nat),vs=[.ref p,.int i,.int f]/\SX CS H0 H p q M n W t cnt s/\i<n/\f<=cnt/\(i<f\/cnt<=i)/\qN W t f cnt s.1/\W1 n W t i f cnt s ∧
 ∀H',SX CS H0 H' p q M n W t cnt (Lat.shrS t i f s (cnt-f))->Q .non H'
noncomputable def Sk(_K:W.Frag)(CL CS CW:Addr):Sp:=fun vs H Q _=>∃(H0:Hp) (p q:Addr) (M:Addr->Prop) (n W:Nat) (t:Nat->Nat) (i:Nat) (s:Lat.Mat × Lat.Mat),vs=[.ref p]/\SX CS H0 H p q M n W t (i+1) s/\AY n W t i s ∧
 ∀H',SX CS H0 H' p q M n W t (i+1) (Lat.downS t i s (i+1))->Q .non H'
noncomputable def Zp(_K:W.Frag)(CL CS CW:Addr):Sp:=fun vs H Q _=>∃(H0:Hp) (p q:Addr) (M:Addr->Prop) (n W:Nat) (t:Nat->Nat) (spot i:Nat) (s:Lat.Mat × Lat.Mat) (Nx:Lat.Mat × Lat.Mat->Prop),vs=[.ref p,.int spot,.int i]/\SX CS H0 H p q M n W t i s/\spot<i/\i<n/\HM n W t spot i s Nx ∧
 ∀H' s',SX CS H0 H' p q M n W t i s'->Nx s'->Q .non H'
noncomputable def Sl(_K:W.Frag)(CL CS CW:Addr):Sp:=fun vs H Q _=>∃(H0:Hp) (p q:Addr) (M:Addr->Prop) (n W:Nat) (t:Nat->Nat) (i:Nat) (s:Lat.Mat × Lat.Mat) (I:Nat->Lat.Mat × Lat.Mat->Prop),vs=[.ref p,.int i]/\SX CS H0 H p q M n W t i s/\i<n/\NF n W i t s I/\(∀j,j<i->t j<W) ∧
 ∀H' spot st s',spot<=i->I spot s'->F9 W (s'.1 i) st->(spot<i->st<t spot)->SX CS H0 H' p q M n W (Lat.insT t spot st) (i+1) (Lat.insS i spot st s')->Q .non H'
noncomputable def Zq(_K:W.Frag)(CL CS CW:Addr):Sp:=fun vs H Q _=>∃(p dx:Addr) (r b:V),vs=[.ref p,r,b]/\H p=some (.ins CS dx [])/\∀q H' fs,H q=none->fs=putF "starts" (.ref q) (putF "backs" b (putF "rows" r []))->SameX p H H'->H' q=some (.lst [])->H' p=some (.ins CS dx fs)->Q .non H'
end
end Hb
namespace L2
open PySem PySem.Spec PyProof.Rows PySem.SeqAt
section
variable{X:Cx}{n:Nat}{K:W.Frag}
theorem eG(hc:X.calm=true):E7 X (.builtin "any") (fun xs H Q=>∃(p:Addr) (bs:List Bool),xs=[.ref p]/\SqL X.K H p (bs.map V.bl)/\Q (.bl (bs.any id)) H):=by
 intro Ab s σ H xs us Q I r h;obtain⟨p,bs,rfl,hq,q⟩:=h;obtain⟨u,rfl,ru⟩:=Om r;cases ru;obtain⟨its,rv,pl,hz⟩:=I.list hq;have hh:X.A.handled=none:=I.ok.hd hc
 have rel:∀(i:Nat) (v:Value),its.toArray[i]?=some v->∃b,bs[i]?=some b/\v=.bool b:=fun i v e=>by
  have e':its[i]?=some v:=by simpa using e
  have hlt:i<its.length:=(qb2.mp e').1;have l1:=rv.length;rw[qa2]at l1;have hb:bs[i]?=some (bs[i]'(O9m)):=by simp<;>omega
  obtain⟨u,hu,ru⟩:=rv.get (i:=i) (x:=V.bl (bs[i]'(O9m))) (by rw[qb7,hb];rfl);rw[e']at hu;cases hu;exact⟨_,hb,ru⟩
 refine call_any_walk (qp0 pl.isList ?_);refine⟨s.heap.objs.size,[s.heap.objs.size,p],[s.heap.objs.size],its.toArray.size,_,_,fun i=>(bs[i]?).getD false,rfl,Walks.list (show X.A.in1.handled=none from hh) s.heap.objs.size p ?_ its.toArray,⟨⟨_,qb5 _ rfl,rfl,rfl⟩,?_⟩,?_,fun h' tk k=>?_⟩
 . obtain⟨o,_,ho,_⟩:=pl;exact qb8 (qa7 ho)
 . exact pl.isList.at fun o e=>qa3 _ e
 . intro i v s' Q' E' hv hQ;obtain⟨b,hb,rfl⟩:=rel i v hv;dsimp only at hQ;rw[hb]at hQ;exact qi8 hQ
 . have e:(List.range its.toArray.size).any (fun i=>(bs[i]?).getD false)=bs.any id:=by
    have l1:=rv.length;rw[qa2]at l1;rw[qb3,←l1];rw[ql1,List.any_eq_true,List.any_eq_true];constructor
    . rintro ⟨i,hi,hx⟩;have hlt:=qj7.mp hi;have hb:bs[i]?=some bs[i]:=by simp
      rw[hb]at hx;exact⟨_,qk0 hlt,hx⟩
    . rintro ⟨b,hb,hx⟩;obtain⟨i,hi⟩:=qm3 hb;refine⟨i,qj7.mpr (qb2.mp hi).1,?_⟩;rw[hi];exact hx
   rw[e];have I1:Bu X Ab σ H { s with heap:=h',toks:=tk }:=I.kept (fun b o e=>k b o (by simp;exact qb8 (qa7 e)) (qa3 _ e));exact⟨.bl (bs.any id),H,I1,rfl,q⟩
theorem EJ:bootBuiltins "any"=some (.builtin "any"):=by decide +kernel
theorem aB(hc:X.calm=true)(hK:X.K=K:=by rfl):E7 X (.builtin "any") (fun xs H Q=>∃(p:Addr) (bs:List Bool),xs=[.ref p]/\SqL K H p (bs.map V.bl)/\Q (.bl (bs.any id)) H):=by subst hK;exact eG hc
end
end L2
namespace Hb
open PySem L2
noncomputable def LM:List Str:=["straighten","step","put_in_order","share"]
section
variable{K:W.Frag}{H H':Hp}
theorem Uc{nm a:Addr}(h:a≠nm):O7 H (fun a=>a=nm) a=H a:=O6 h
theorem dP{nm a:Addr}(h:a=nm):O7 H (fun a=>a=nm) a=none:=Ub h
theorem KI{p C dx:Addr}{fs:List (Str × V)}{a:Addr}{xs:List V}(h:SqL K H a xs)(hp:H p=some (.ins C dx fs))(sx:SameX p H H'):SqL K H' a xs:=by
 rcases h with(h|⟨o,h⟩) | h
 . exact .inl (.inl (sx _ _ (E5 h hp (by intro z;cases z)) h))
 . exact .inl (.inr ⟨o,sx _ _ (E5 h hp (by intro z;cases z)) h⟩)
 . exact .inr h
theorem bD{p C dx:Addr}{fs:List (Str × V)}{a:Addr}{xs:List V}(h:Fe K H a xs)(hp:H p=some (.ins C dx fs))(sx:SameX p H H'):Fe K H' a xs:=by
 rcases h with(h|⟨o,h⟩) | h
 . exact .inl (.inl (sx _ _ (E5 h hp (by intro z;cases z)) h))
 . exact .inl (.inr ⟨o,sx _ _ (E5 h hp (by intro z;cases z)) h⟩)
 . exact .inr h
theorem ON{nm:Addr}{ys:List V}{o:HO}{a:Addr}{xs:List V}(h:Fe K H a xs)(hn:H nm=some (.lst ys)):Fe K (upd H nm o) a xs:=by
 rcases h with(h|⟨u,h⟩) | h
 . exact .inl (.inl (by rw[Bb (E5 h hn (by intro z;cases z))];exact h))
 . exact .inl (.inr ⟨u,by rw[Bb (E5 h hn (by intro z;cases z))];exact h⟩)
 . exact .inr h
theorem FF{m i:Nat}{f:Nat->Int}{x:Int}(hi:i<m):(VI m f).set i (.int x)=(Ga m fun k=>if k=i then x else f k).map V.int:=by
 show _=VI m _;apply qo0;intro j;rw[ql5,By];by_cases hj:i=j
 . subst hj;rw[if_pos rfl,if_pos hi,Cw hi,if_pos rfl]
 . rw[if_neg hj];by_cases h2:j<m
   . rw[Cw h2,Cw h2,if_neg fun z=>hj z.symm]
   . rw[qf2 (by rw[By];omega),qf2 (by rw[By];omega)]
theorem uG{p C dx:Addr}{fs:List (Str × V)}{v:V}{n w:Nat}{f:Nat->Nat->Int}(h:Rep K H v (dT n w f))(hp:H p=some (.ins C dx fs))(sx:SameX p H H'):Rep K H' v (dT n w f):=by
 obtain⟨a,us,rfl,hq,hl,hr⟩:=Hi h;refine GX (KI hq hp sx) hl fun i hi=>?_;have e:=qb0 (l:=us) (i:=i) O9m;obtain⟨_,b,eb,hb⟩:=hr i _ e;exact⟨b,by rw[e,eb],KI hb hp sx⟩
end
theorem LX.x{H H':Hp}{C p r b:Addr}{sv:Option V}{n W:Nat}{s:Lat.Mat × Lat.Mat}{N:Addr->Prop}{q D dx:Addr}{fs:List (Str × V)}(x:LX H C p r b sv n W s N)(hq:H q=some (.ins D dx fs))(hqp:q≠p)(sx:SameX q H H')(kp:Kp H H'):LX H' C p r b sv n W s N:=by
 obtain⟨dx,fs,h1,h2⟩:=x.ob;obtain⟨as,a1,a2⟩:=x.rw;obtain⟨bs,b1,b2⟩:=x.bk;exact⟨⟨dx,fs,sx _ _ hqp.symm h1,h2⟩,⟨as,a1.x hq sx,a2⟩,⟨bs,b1.x hq sx,b2⟩,x.ne,x.nr,x.nb,fun a ha=>kp a (x.nn a ha)⟩
theorem LX.more{H H':Hp}{C p r b:Addr}{sv:Option V}{n W:Nat}{s:Lat.Mat × Lat.Mat}{N N':Addr->Prop}(x:LX H C p r b sv n W s N)(e:Aj H H')(h:∀a,N' a->N a\/H a=none)(hn:∀a,N' a->H' a≠none):LX H' C p r b sv n W s N':=by
 obtain⟨dx,fs,h1,h2⟩:=x.ob;obtain⟨as,a1,a2⟩:=x.rw;obtain⟨bs,b1,b2⟩:=x.bk;refine⟨⟨dx,fs,e _ _ h1,h2⟩,⟨as,a1.same e,fun a ha=>⟨(a2 a ha).1,(a2 a ha).2.1,fun z=>?_⟩⟩,⟨bs,b1.same e,fun a ha=>⟨(b2 a ha).1,(b2 a ha).2.1,fun z=>?_⟩⟩,x.ne,fun z=>?_,fun z=>?_,hn⟩
 . exact(h a z).elim (a2 a ha).2.2 (a1.there.2 a ha)
 . exact(h a z).elim (b2 a ha).2.2 (b1.there.2 a ha)
 . exact(h r z).elim x.nr a1.there.1
 . exact(h b z).elim x.nb b1.there.1
structure WX(K:W.Frag)(CL CW:Addr)(H0 H:Hp)(p L R nm:Addr)(n w:Nat)(M:Option Lat.Mat)(l r:Lat.Mat × Lat.Mat)(ns:List Int):Prop where
 ob:∃tv dx fs,H p=some (.ins CW dx fs)/\fs.lookup ("table":Str)=some tv/\fs.lookup ("width":Str)=some (.int (w:Int))/\fs.lookup ("left":Str)=some (.ref L)/\fs.lookup ("right":Str)=some (.ref R)/\fs.lookup ("numbers":Str)=some (.ref nm)/\(∀m∈LM,fs.lookup m=none)/\fs.length<=10/\∀M',M=some M'->Rep K (O7 H fun a=>a=nm) tv (dT n w M')
 li:∃r1 b1 r2 b2,LX H CL L r1 b1 none n n l (fun a=>a=nm\/a=r2\/a=b2)/\LX H CL R r2 b2 none w w r (fun a=>a=nm)/\H0 r1=none/\H0 b1=none/\H0 r2=none/\H0 b2=none
 nu:H nm=some (.lst (ns.map V.int))
 same:Aj H0 H
 fr:H0 p=none/\H0 L=none/\H0 R=none/\H0 nm=none
 ne:p≠L/\p≠R/\L≠R
 sm:n<=60/\w<=60
noncomputable def ES(m:Nat)(M:Lat.Mat):List Int:=((List.range m).map fun i=>M i i).filter fun x=>decide (x≠0)
theorem WX.keep{K:W.Frag}{CL CW:Addr}{H0 H H':Hp}{p L R nm:Addr}{n w:Nat}{M:Option Lat.Mat}{l r:Lat.Mat × Lat.Mat}{ns:List Int}(x:WX K CL CW H0 H p L R nm n w M l r ns)(s:Aj H H'):WX K CL CW H0 H' p L R nm n w M l r ns:=by
 obtain⟨tv,dx,fs,hp,l1,l2,l3,l4,l5,l6,l7,hrep⟩:=x.ob;obtain⟨r1,b1,r2,b2,lx,ly,f⟩:=x.li;exact⟨⟨tv,dx,fs,s _ _ hp,l1,l2,l3,l4,l5,l6,l7,fun M' e=>Rep.same (FH s) (hrep M' e)⟩,⟨r1,b1,r2,b2,lx.keep s,ly.keep s,f⟩,s _ _ x.nu,x.same.trans s,x.fr,x.ne,x.sm⟩
theorem WX.num{K:W.Frag}{CL CW:Addr}{H0 H:Hp}{p L R nm:Addr}{n w:Nat}{M:Option Lat.Mat}{l r:Lat.Mat × Lat.Mat}{ns ns':List Int}(x:WX K CL CW H0 H p L R nm n w M l r ns):WX K CL CW H0 (upd H nm (.lst (ns'.map V.int))) p L R nm n w M l r ns':=by
 obtain⟨tv,dx,fs,hp,l1,l2,l3,l4,l5,l6,l7,hrep⟩:=x.ob;obtain⟨r1,b1,r2,b2,lx,ly,f⟩:=x.li;have tE:p≠nm:=E5 hp x.nu (by intro z;cases z)
 have go:∀{q r b:Addr}{m:Nat}{s:Lat.Mat × Lat.Mat}{N:Addr->Prop},LX H CL q r b none m m s N->N nm->LX (upd H nm (.lst (ns'.map V.int))) CL q r b none m m s N:=fun {q r b m s N} y hN=>by
  obtain⟨d2,f2,e1,e2⟩:=y.ob;obtain⟨as,a1,a2⟩:=y.rw;obtain⟨bs,b1,b2⟩:=y.bk;refine⟨⟨d2,f2,by rw[Bb (E5 e1 x.nu (by intro z;cases z))];exact e1,e2⟩,⟨as,a1.put (fun z=>y.nr (z▸hN)) fun a ha z=>(a2 a ha).2.2 (z▸hN),a2⟩,⟨bs,b1.put (fun z=>y.nb (z▸hN)) fun a ha z=>(b2 a ha).2.2 (z▸hN),b2⟩,y.ne,y.nr,y.nb,fun a ha z=>?_⟩;by_cases e:a=nm
  . rw[e,Ae]at z;cases z
  . rw[Bb e]at z;exact y.nn a ha z
 refine⟨⟨tv,dx,fs,by rw[Bb tE];exact hp,l1,l2,l3,l4,l5,l6,l7,fun M' e=>Rep.same (Wj fun a o n e=>by rw[Bb n];exact e) (hrep M' e)⟩,⟨r1,b1,r2,b2,go lx (.inl rfl),go ly rfl,f⟩,Ae,fun a o e=>by rw[Bb (Bj e x.fr.2.2.2)];exact x.same _ _ e,x.fr,x.ne,x.sm⟩
theorem WX.drop{K:W.Frag}{CL CW:Addr}{H0 H:Hp}{p L R nm:Addr}{n w:Nat}{M:Option Lat.Mat}{l r:Lat.Mat × Lat.Mat}{ns:List Int}(x:WX K CL CW H0 H p L R nm n w M l r ns):WX K CL CW H0 H p L R nm n w none l r ns:=by
 obtain⟨tv,dx,fs,hp,l1,l2,l3,l4,l5,l6,l7,_⟩:=x.ob;exact⟨⟨tv,dx,fs,hp,l1,l2,l3,l4,l5,l6,l7,fun M' e=>by cases e⟩,x.li,x.nu,x.same,x.fr,x.ne,x.sm⟩
theorem WX.left{K:W.Frag}{CL CW:Addr}{H0 H H1 H':Hp}{p L R nm r1 b1 r2 b2 r' b':Addr}{n w:Nat}{M:Option Lat.Mat}{l r l':Lat.Mat × Lat.Mat}{ns:List Int}(x:WX K CL CW H0 H p L R nm n w M l r ns)(lx:LX H CL L r1 b1 none n n l (fun a=>a=nm\/a=r2\/a=b2))(ly:LX H CL R r2 b2 none w w r (fun a=>a=nm))(f3:H0 r2=Option.none)(f4:H0 b2=Option.none)
 (s:Aj H H1) (sx:SameX L H1 H') (h1:H1 r'=Option.none) (h2:H1 b'=Option.none) (y:LX H' CL L r' b' Option.none n n l' (fun a=>a=nm\/a=r2\/a=b2)):WX K CL CW H0 H' p L R nm n w Option.none l' r ns/\LX H' CL R r2 b2 Option.none w w r (fun a=>a=nm):=by
 obtain⟨tv,dx,fs,hp,l1,l2,l3,l4,l5,l6,l7,_⟩:=x.ob;obtain⟨dl,fl,hL,_⟩:=lx.ob;obtain⟨zZ,zW,hL',_⟩:=y.ob;obtain⟨n1,n2,n3⟩:=x.ne;have kp:Kp H1 H':=Kp.x sx hL';have lz:=(ly.keep s).x (s _ _ hL) n3 sx kp;have s0:=x.same.trans s;exact⟨⟨⟨tv,dx,fs,sx _ _ n1 (s _ _ hp),l1,l2,l3,l4,l5,l6,l7,fun M' e=>by cases e⟩,⟨r',b',r2,b2,y,lz,s0.free h1,s0.free h2,f3,f4⟩,sx _ _ (E5 x.nu hL (by intro z;cases z)) (s _ _ x.nu),sx.same s0 x.fr.2.1,x.fr,x.ne,x.sm⟩,lz⟩
theorem WX.right{K:W.Frag}{CL CW:Addr}{H0 H H':Hp}{p L R nm r1 b1 r2 b2:Addr}{n w:Nat}{M:Option Lat.Mat}{l r r':Lat.Mat × Lat.Mat}{ns:List Int}(x:WX K CL CW H0 H p L R nm n w M l r ns)(lx:LX H CL L r1 b1 Option.none n n l (fun a=>a=nm\/a=r2\/a=b2))(ly:LX H CL R r2 b2 Option.none w w r (fun a=>a=nm))(f1:H0 r1=Option.none)(f2:H0 b1=Option.none)(f3:H0 r2=Option.none)(f4:H0 b2=Option.none)
 (fr:Q0 r2 b2 H H') (kp:Kp H H') (y:LX H' CL R r2 b2 Option.none w w r' (fun a=>a=nm)):WX K CL CW H0 H' p L R nm n w Option.none l r' ns/\LX H' CL L r1 b1 Option.none n n l (fun a=>a=nm\/a=r2\/a=b2):=by
 obtain⟨tv,dx,fs,hp,l1,l2,l3,l4,l5,l6,l7,_⟩:=x.ob;obtain⟨dl,fl,hL,YF⟩:=lx.ob;obtain⟨as,a1,a2⟩:=lx.rw;obtain⟨bs,b3,b4⟩:=lx.bk;obtain⟨EU,c1,_⟩:=ly.rw;obtain⟨QH,c2,_⟩:=ly.bk;have no:∀a C d f,H a=some (.ins C d f)->H' a=some (.ins C d f):=fun a C d f e=>fr _ _ (E5 e c1.2.1 (by intro z;cases z)) (E5 e c2.2.1 (by intro z;cases z)) e
 have lz:LX H' CL L r1 b1 Option.none n n l (fun a=>a=nm\/a=r2\/a=b2):=⟨⟨dl,fl,no _ _ _ _ hL,YF⟩,⟨as,a1.keep (fun o e=>fr _ _ (fun z=>lx.nr (.inr (.inl z))) (fun z=>lx.nr (.inr (.inr z))) e) fun a ha o e=>fr _ _ (fun z=>(a2 a ha).2.2 (.inr (.inl z))) (fun z=>(a2 a ha).2.2 (.inr (.inr z))) e,a2⟩,
  ⟨bs,b3.keep (fun o e=>fr _ _ (fun z=>lx.nb (.inr (.inl z))) (fun z=>lx.nb (.inr (.inr z))) e) fun a ha o e=>fr _ _ (fun z=>(b4 a ha).2.2 (.inr (.inl z))) (fun z=>(b4 a ha).2.2 (.inr (.inr z))) e,b4⟩,lx.ne,lx.nr,lx.nb,fun a ha=>kp a (lx.nn a ha)⟩
 exact⟨⟨⟨tv,dx,fs,no _ _ _ _ hp,l1,l2,l3,l4,l5,l6,l7,fun M' e=>by cases e⟩,⟨r1,b1,r2,b2,lz,y,f1,f2,f3,f4⟩,fr _ _ (fun z=>ly.nr z.symm) (fun z=>ly.nb z.symm) x.nu,fun a o e=>fr _ _ (Bj e f3) (Bj e f4) (x.same _ _ e),x.fr,x.ne,x.sm⟩,lz⟩
theorem L4(i:Nat)(M:Lat.Mat):ES (i+1) M=if M i i=0 then ES i M else ES i M++[M i i]:=by
 unfold ES;rw[List.range_succ,qc8,List.filter_append];by_cases h:M i i=0<;>simp[h]
theorem jD(i:Nat)(M:Lat.Mat):(ES i M).length<=i:=by
 unfold ES;refine qa1 (List.length_filter_le _ _) ?_;rw[qa2,qn9];exact qa0 _
structure Oi(n w:Nat)(M:Lat.Mat)(l r:Lat.Mat × Lat.Mat)(Nx:Lat.Mat->Lat.Mat × Lat.Mat->Lat.Mat × Lat.Mat->Prop):Prop where
 ex:∃J1,o7 n (w+n) J1/\(∀t,J1 0 t (Lat.beside w M l.1,l.2))/\(∀i t s,J1 i t s->∀j,j<i->t j<w+n)/\∀t1 s1,J1 n t1 s1 →
  ∃J2,o7 w (n+w) J2/\(∀t,J2 0 t (Lat.beside n (fun i j=>s1.1 j i) r.1,r.2))/\(∀i t s,J2 i t s->∀j,j<i->t j<n+w)/\∀t2 s2,J2 w t2 s2 →
    Nx (fun i j=>s2.1 j i) (fun x a=>s1.1 x (w+a),s1.2) (fun x a=>s2.1 x (n+a),s2.2)
section
variable(K:W.Frag)(CL CS CW:Addr)
noncomputable def Lb:Sp:=fun vs H Q _=>∃(v:V) (n w:Nat) (M:Lat.Mat),vs=[v]/\Rep K H v (dT n w M)/\n<=1000/\w<=1000/\(Lat.Straight n w M->∀H',Aj H H'->Q (.bl true) H')/\(¬Lat.Straight n w M->∀H',Aj H H'->Q (.bl false) H')
noncomputable def Zu(K:W.Frag)(CL CS CW:Addr):Sp:=fun vs H Q _=>∃(H0:Hp) (p dx:Addr) (v:V) (n w:Nat) (M:Lat.Mat),vs=[.ref p,v,.int (w:Int)]/\Aj H0 H/\H0 p=none/\H p=some (.ins CW dx [])/\Rep K H0 v (dT n w M)/\n<=60/\w<=60 ∧
 ∀L R nm H',WX K CL CW H0 H' p L R nm n w (some M) (Lat.one,Lat.one) (Lat.one,Lat.one) []->Q .non H'
noncomputable def Zt(K:W.Frag)(CL CS CW:Addr):Sp:=fun vs H Q _=>∃(H0:Hp) (p L R nm:Addr) (n w:Nat) (M:Lat.Mat) (l r:Lat.Mat × Lat.Mat) (ns:List Int) (Nx:Lat.Mat->Lat.Mat × Lat.Mat->Lat.Mat × Lat.Mat->Prop),vs=[.ref p]/\WX K CL CW H0 H p L R nm n w (some M) l r ns/\Oi n w M l r Nx ∧
 ∀L' R' M' l' r' H',Nx M' l' r'->WX K CL CW H0 H' p L' R' nm n w (some M') l' r' ns->Q .non H'
noncomputable def Lm(K:W.Frag)(CL CS CW:Addr):Sp:=fun vs H Q _=>∃(H0:Hp) (p L R nm:Addr) (n w:Nat) (M:Lat.Mat) (l r:Lat.Mat × Lat.Mat) (U:Nat->Lat.Mat->Lat.Mat × Lat.Mat->Lat.Mat × Lat.Mat->Prop),vs=[.ref p]/\WX K CL CW H0 H p L R nm n w (some M) l r []/\Oi n w M l r (fun M' l' r'=>∃m,U m M' l' r') ∧
 (∀m M' l' r',U m M' l' r'->¬Lat.Straight n w M'->Oi n w M' l' r' (fun M2 l2 r2=>∃m',m'<m/\U m' M2 l2 r2)) ∧
 ∀L' R' m M' l' r' H',U m M' l' r'->Lat.Straight n w M'->WX K CL CW H0 H' p L' R' nm n w (some M') l' r' (ES (min n w) M')->Q .non H'
structure Ze(n w:Nat)(i j:Nat)(f:Nat->Int)(l r:Lat.Mat × Lat.Mat):Prop where
 p1:0<f i/\(f i).natAbs<L9
 p2:f j≠0/\(f j).natAbs<L9
 bl:BO n n l/\BO n n (Lat.addS i j 1 l)
 br:BO w w r
noncomputable def lV(i j:Nat)(g:Int)(f:Nat->Int):Nat->Int:=Lat.put2 f i j g (f i / g*f j)
noncomputable def NK(i j:Nat)(g b:Int)(f:Nat->Int)(l:Lat.Mat × Lat.Mat):Lat.Mat × Lat.Mat:=Lat.addS j i (-(b*f j / g)) (Lat.addS i j 1 l)
noncomputable def kJ(i j:Nat)(g a b:Int)(f:Nat->Int)(r:Lat.Mat × Lat.Mat):Lat.Mat × Lat.Mat:=Lat.blendS i j a b (-(f j / g)) (f i / g) r
noncomputable def V5(K:W.Frag)(CL CS CW:Addr):Sp:=fun vs H Q _=>∃(H0:Hp) (p L R nm:Addr) (n w m i j:Nat) (l r:Lat.Mat × Lat.Mat) (f:Nat->Int),vs=[.ref p,.int (i:Int),.int (j:Int)]/\WX K CL CW H0 H p L R nm n w none l r (Ga m f)/\i<j/\j<m/\m<=n/\m<=w/\Ze n w i j f l r ∧
 (f i∣f j->Q .non H)/\∀g a b H',Lat.Shares (f i) (f j) g a b->WX K CL CW H0 H' p L R nm n w none (NK i j g b f l) (kJ i j g a b f r) (Ga m (lV i j g f))->Q .non H'
noncomputable def V6(K:W.Frag)(CL CS CW:Addr):Sp:=fun vs H Q _=>∃(H0:Hp) (p L R nm:Addr) (n w m:Nat) (l r:Lat.Mat × Lat.Mat) (f:Nat->Int) (V:Nat->(Nat->Int)->Lat.Mat × Lat.Mat->Lat.Mat × Lat.Mat->Prop),vs=[.ref p]/\WX K CL CW H0 H p L R nm n w none l r (Ga m f)/\m<=n/\m<=w/\V 0 f l r ∧
 (∀d i j f l r,V d f l r->d<5*m+m*m->i<j->j<m->Ze n w i j f l r/\(f i∣f j->V (d+1) f l r)/\∀g a b,Lat.Shares (f i) (f j) g a b->V (d+1) (lV i j g f) (NK i j g b f l) (kJ i j g a b f r)) ∧
 ∀d f' l' r' H',V d f' l' r'->Lat.ChainTo m m f'->WX K CL CW H0 H' p L R nm n w none l' r' (Ga m f')->Q .non H'
end
structure G8(n w:Nat)(A:Lat.Mat)(Fin:Nat->(Nat->Int)->Lat.Mat × Lat.Mat->Lat.Mat × Lat.Mat->Prop):Prop where
 ex:∃(U:Nat->Lat.Mat->Lat.Mat × Lat.Mat->Lat.Mat × Lat.Mat->Prop) (Y:Nat->Nat->(Nat->Int)->Lat.Mat × Lat.Mat->Lat.Mat × Lat.Mat->Prop),Oi n w A (Lat.one,Lat.one) (Lat.one,Lat.one) (fun M l r=>∃m,U m M l r) ∧
  (∀m M l r,U m M l r->¬Lat.Straight n w M->Oi n w M l r (fun M' l' r'=>∃m',m'<m/\U m' M' l' r')) ∧
  (∀m M l r,U m M l r->Lat.Straight n w M->∃k f,ES (min n w) M=Ga k f/\k<=n/\k<=w/\Y k 0 f l r) ∧
  (∀k d i j f l r,Y k d f l r->d<5*k+k*k->i<j->j<k->Ze n w i j f l r/\(f i∣f j->Y k (d+1) f l r)/\∀g a b,Lat.Shares (f i) (f j) g a b->Y k (d+1) (lV i j g f) (NK i j g b f l) (kJ i j g a b f r)) ∧
  ∀k d f l r,Y k d f l r->Fin k f l r
structure aY(K:W.Frag)(H H':Hp)(tp nm r1 D1 D2 b2:Addr)(n w k:Nat)(f:Nat->Int)(l r:Lat.Mat × Lat.Mat):Prop where
 same:Aj H H'
 tup:Fe K H' tp [.ref nm,.ref r1,.ref D1,.ref D2,.ref b2]
 num:H' nm=some (.lst (VI k f))
 left:Rep K H' (.ref r1) (dT n n l.1)
 lback:Rep K H' (.ref D1) (dT n n fun i j=>l.2 j i)
 right:Rep K H' (.ref D2) (dT w w fun i j=>r.1 j i)
 rback:Rep K H' (.ref b2) (dT w w r.2)
 new:∀a,a=nm\/a=r1\/a=D1\/a=D2\/a=b2->H a=none/\∃us,H' a=some (.lst us)/\us.length<=60
section
variable(K:W.Frag)
end
end Hb
namespace Hb
open Lat
section
variable{C:Nat->Prop}{δ:Nat}
theorem BB.bo{n W β:Nat}{s:Mat × Mat}(h:BB n W C δ β s)(hb:β<=big):BO n W s:=⟨(h.mono hb).1,(h.mono hb).2.1⟩
theorem Zm{n W w i:Nat}{G:Nat->Prop}{R0 B0:Mat}{t:Nat->Nat}{π b β:Nat}(H:Hj n W w i G R0 B0 t π b)(hW:W=w+n)(dl:E4 n w R0 B0)(bb:BB n W C δ β (R0,B0))(hb:β+E8 π b i<=big)(hπ:π<=8990)(NP:∀j,j<i->G (t j))
 (hG:∀spot (s:Mat × Mat) st,spot<=i->C9 n W w i G R0 B0 t π b spot s.1 s.2->F9 W (s.1 i) st->G st)
 (hd:∀t1 Y R1 B1 R2 B2,kC n W w i G R0 B0 t1 Y R1 B1->Lh n W w i R1 B1 t1 0 R2 B2->∀j,j<=i->(R2 j (t1 j)).natAbs<L9) :
 ∃I,NF n W i t (R0,B0) I/\∀spot st s',spot<=i->I spot s'->F9 W (s'.1 i) st->(spot<i->st<t spot) →
   AY n W (insT t spot st) i (insS i spot st s')/\G st/\kC n W w i G R0 B0 (insT t spot st) (b+i+3+2*π+i*(π+1)) (insS i spot st s').1 (insS i spot st s').2 ∧
   Lh n W w i (insS i spot st s').1 (insS i spot st s').2 (insT t spot st) 0 (downS (insT t spot st) i (insS i spot st s') (i+1)).1 (downS (insT t spot st) i (insS i spot st s') (i+1)).2 ∧
   BB n W C δ (β+E8 π b i) (downS (insT t spot st) i (insS i spot st s') (i+1)):=by
 have hi:=H.hi
 have lE:∀spot,spot<=i->spot*cM π i<=E8 π b i:=fun spot hs=>by
  unfold E8;exact qa1 (qb1 _ hs) (qc4 _ _)
 refine⟨fun spot s=>C9 n W w i G R0 B0 t π b spot s.1 s.2/\BB n W C δ (β+spot*cM π i) s,⟨⟨C9.start H,by rw[Nat.zero_mul];exact bb⟩,?_,?_,?_⟩,?_⟩
 . rintro spot s _ ⟨p,_⟩;obtain⟨c,hc,h0⟩:=(p.good.dual dl).row hi;exact⟨w+c,O9m,h0⟩
 . rintro spot s hs ⟨p,q⟩ hz;refine⟨p.skip hz,q.mono ?_⟩;rw[qd4];omega
 . rintro spot s hs ⟨p,q⟩ hz h0;have g8:=lE (spot+1) hs;rw[qd4,qd1]at g8;have en:β+(spot+1)*cM π i=β+spot*cM π i+cM π i:=by rw[qd4,qd1];omega
   have lA:(s.1 spot (t spot)).natAbs<=2 ^ π:=by rw[p.old spot _ (qa0 _) hs];exact H.hd spot hs
   have lB:=p.pv spot (qa0 _) hs;refine⟨BB.bo q O9m,fun j hj1 hj2=>⟨H.lt j hj2,p.pos j hj2,HR (π:=π) ?_ O9m⟩,⟨h0,HR lB O9m⟩,fun k hk=>?_,fun g a b' sh=>?_⟩
   . rw[p.old j _ hj1 hj2];exact H.hd j hj2
   . obtain⟨m1,m2,m3⟩:=p.meetAdd H hs hz hk q;refine⟨fun d hd=>BB.bo (m3 d O9m) O9m,m1,?_⟩;rw[en];exact m3 _ O9m
   . obtain⟨m1,m2,m3,m4⟩:=p.meetBlend H hs hz (sh.blend (p.pos spot hs) lA lB) q;refine⟨fun d hd=>BB.bo (m3 d O9m) O9m,fun d hd=>BB.bo (m4 d O9m) O9m,m1,?_⟩;rw[en];exact m4 _ O9m
 . rintro spot st s' hs ⟨p,q⟩ hB hex;have vU:=hG spot s' st hs p hB;obtain⟨e1,e2,e3,e4,e5⟩:=IQ H p hs hB.1 hB.2.1 hB.2.2 vU NP hex q;refine⟨fun d hd'=>⟨fun j hj1 hj2=>?_,fun m hm=>BB.bo (e5 d hd' m O9m) hb⟩,vU,e1,e2,e4 _ (qa0 _)⟩;obtain⟨dn,_,_⟩:=Ug e1 hi (e3.mono (qk4 (lE i (qa0 _)) β)) d O9m;have hh:=hd _ _ _ _ _ _ e1 e2 j O9m;rw[e2.hd j (by omega)]at hh;have hx:=dn.hd j O9m;refine⟨e1.lt j O9m,(dn.s0).pos j O9m,?_⟩;rw[hx];exact hh
end
noncomputable abbrev JF(n w:Nat)(M:Mat):Nat->(Nat->Nat)->Mat × Mat->Prop:=fun i t s=>Db n (w+n) w i (fun c=>c<w+n) M one t s.1 s.2
theorem Rc{n w b0 D π b β:Nat}{M:Mat}(hM:∀r c,r<n->c<w+n->(M r c).natAbs<=2 ^ b0)(dets:K8 n (fun c=>c<w+n) M D)(h1:D<=2 ^ π)(h2:n*D<=2 ^ b)(h3:b0<=π)(h4:b0<=b)(hβ:b<β)(VJ:n+b0<β)(hbig:∀i,i<n->β+E8 π b i<=big)(hπ:π<=8990)(dl:E4 n w M one) :
 o7 n (w+n) (JF n w M):=by
 refine⟨fun i t s hi hJ=>?_⟩;have iD:i*D<=2 ^ b:=qa1 (qb1 _ (qc3 hi)) h2;have H:=DS hM dets hJ hi h1 iD h3 h4;have bb:BB n (w+n) (fun _=>False) 0 β (s.1,s.2):=N8 hM dets (fun k a=>rfl) hJ (qc3 hi) iD h4 hβ VJ
 obtain⟨I,P,e⟩:=Zm H rfl (hJ.good.dual dl) bb (hbig i hi) hπ hJ.pg (fun _ _ _ _ _ hB=>hB.2.2) fun t1 Y R1 B1 R2 B2 I1 D1 j hj=>by
  have:=(hJ.next I1 D1).headD dets (show i+1<=n from hi) (show j<i+1 by omega);exact HR (qa1 this h1) O9m
 refine⟨I,P,fun spot st s' hs hI hB hex=>?_⟩;obtain⟨e1,_,e3,e4,_⟩:=e spot st s' hs hI hB hex;exact⟨e1,hJ.next e3 e4⟩
theorem JF.lt{n w:Nat}{M:Mat}:∀i t s,JF n w M i t s->∀j,j<i->t j<w+n:=fun _ _ _ h j hj=>h.st.lt j hj
noncomputable def JL(n w r:Nat)(M B0:Mat)(kt:Nat->Nat)(hd:Nat->Int)(π b η β:Nat):Nat->(Nat->Nat)->Mat × Mat->Prop:=fun i t s =>
 (i<=r/\Cl n (w+n) w r i (fun c=>c<w) M B0 kt hd t s.1 s.2/\BB n (w+n) (Rb n r kt) (β-(η+1)) (β+Dj π b i) s) ∨
 (r<=i/\Cl n (w+n) w r i (fun c=>c<w+n) M B0 kt hd t s.1 s.2/\W3 n r i kt (η+1+Dj π b r+(i-r)*(η+1)) s.1/\BB n (w+n) (Rb n r kt) (β-(η+1)) (β+Dj π b r+Mz (η+1+Dj π b r) η r (i-r)) s/\∀j,j<i->(s.1 j (t j)).natAbs<L9)
theorem JL.lt{n w r:Nat}{M B0:Mat}{kt:Nat->Nat}{hd:Nat->Int}{π b η β:Nat}:∀i t s,JL n w r M B0 kt hd π b η β i t s->∀j,j<i->t j<w+n:=fun _ _ _ h j hj=>by
 rcases h with⟨_,h,_⟩|⟨_,h,_⟩<;>exact h.st.st.lt j hj
theorem Ra{n w r E π b η β:Nat}{e:Int}{T P PB:Mat}{kt:Nat->Nat}{hd:Nat->Int}(g:F8 n w r E e T)(xW:0<e)(K:R7 n (w+n) w r kt hd (beside w T P))(dl:E4 n w (beside w T P) PB)(hη:∀j,r<=j->j<n->hd j<=2 ^ η)
 (hβ:η+1<=β) (hbig:β+Li π b η r n<=big) (hE:E<=2 ^ π) (he:e.natAbs<=2 ^ π) (hb:n*E<=2 ^ b) (XG:π<=b) (hπ:π<=8990) (zT:η<=8990) :
 o7 n (w+n) (JL n w r (beside w T P) PB kt hd π b η β):=by
 have rn:=g.sq.rn;have dets:=Rg (P:=P) g.dets;have mT:∀{i:Nat}{t:Nat->Nat}{s:Mat × Mat},i<=r->Cl n (w+n) w r i (fun c=>c<w) (beside w T P) PB kt hd t s.1 s.2->∀j,j<i->(s.1 j (t j)).natAbs<L9:=fun hi h j hj=>HR (qa1 (h.st.headD dets hi hj) hE) O9m
 have vJ:∀j,r<=j->j<n->(hd j).natAbs<=2 ^ η:=fun j h1 h2=>by
  have p:=K.pos j h1 h2;have q:=hη j h1 h2;have:((hd j).natAbs:Int)<=((2 ^ η:Nat):Int):=by rw[Int.natAbs_of_nonneg (by omega)];exact_mod_cast q
  exact_mod_cast this
 refine⟨fun i t s hi hJ=>?_⟩;by_cases hir:i<r
 . obtain⟨_,h,bb⟩:i<=r/\Cl n (w+n) w r i (fun c=>c<w) (beside w T P) PB kt hd t s.1 s.2/\BB n (w+n) (Rb n r kt) (β-(η+1)) (β+Dj π b i) s:=by
    rcases hJ with hJ|⟨h,_⟩
    . exact hJ
    . omega
   have H:=DI g (qc4 w n) h hir hE he (qa1 (qb1 _ (qc3 hi)) hb) XG;have tm:Dj π b (i+1)<=Dj π b r:=cK π b hir;have wJ:Dj π b (i+1)=Dj π b i+E8 π b i:=rfl;have tn:Dj π b r<=Li π b η r n:=qc4 _ _
   have hG:∀spot (s':Mat × Mat) st,spot<=i->C9 n (w+n) w i (fun c=>c<w) s.1 s.2 t π b spot s'.1 s'.2->F9 (w+n) (s'.1 i) st->st<w:=fun spot s' st hs p hB=>by
    obtain⟨c,hc,h0⟩:=iF xW g.sq (fun k c _ hc=>beside_lo hc) hir ((h.st.good.mono (qk3 i)).trans p.good) (qa0 _) dl;rcases qf5 c st with z | z
    . exact absurd (hB.1 c z) h0
    . exact qa4 z hc
   obtain⟨I,Pu,ev⟩:=Zm (C:=Rb n r kt) (δ:=β-(η+1)) (β:=β+Dj π b i) H rfl (h.st.good.dual dl) bb O9m hπ h.st.pg hG fun t1 Y R1 B1 R2 B2 I1 D1 j hj=>by
    have:=(h.st.next I1 D1).headD dets (show i+1<=r from hir) (show j<i+1 by omega);exact HR (qa1 this hE) O9m
   refine⟨I,Pu,fun spot st s' hs hI hB hex=>?_⟩;obtain⟨e1,e2,e3,e4,e5⟩:=ev spot st s' hs hI hB hex;exact⟨e1,.inl ⟨hir,h.next hir e2 hs e3 e4,by rw[wJ,←qo4];exact e5⟩⟩
 . have HS:r<=i:=O9m
   obtain⟨h,ab,bb,h9⟩:Cl n (w+n) w r i (fun c=>c<w+n) (beside w T P) PB kt hd t s.1 s.2/\W3 n r i kt (η+1+Dj π b r+(i-r)*(η+1)) s.1/\BB n (w+n) (Rb n r kt) (β-(η+1)) (β+Dj π b r+Mz (η+1+Dj π b r) η r (i-r)) s/\∀j,j<i->(s.1 j (t j)).natAbs<L9:=by
    rcases hJ with⟨h1,h,bb⟩|⟨_,h⟩
    . have e:i=r:=O9m
      subst e;refine⟨h.wide fun c hc=>O9m,?_,?_,mT (qa0 _) h⟩
      . rw[ql9,Nat.zero_mul];exact JZ bb rn hβ
      . rw[ql9];exact bb
    . exact h
   have XN:r+(i-r)=i:=O9m
   have row:∀c,s.1 i c=beside w T P i c:=fun c=>h.st.good.rest i c (qa0 _);have zero:∀c,c<kt i->s.1 i c=0:=fun c hc=>by rw[row];exact K.zero i c HS hi hc
   have hd0:0<s.1 i (kt i):=by rw[row,K.head i HS hi];exact K.pos i HS hi
   have sQ:=K.lt i HS hi;have bg:F9 (w+n) (s.1 i) (kt i):=⟨zero,O9m,sQ⟩
   have em:Mz (η+1+Dj π b r) η r (i-r+1)=Mz (η+1+Dj π b r) η r (i-r)+(η+1+Dj π b r+(i-r)*(η+1)+(r+(i-r))+3):=rfl;have zY:Mz (η+1+Dj π b r) η r (i-r+1)<=Mz (η+1+Dj π b r) η r (n-r):=dU _ _ _ O9m;have tn:Li π b η r n=Dj π b r+Mz (η+1+Dj π b r) η r (n-r):=rfl;rw[XN]at em;refine⟨fun _ s'=>s'=s,⟨rfl,?_,fun _ _ _ hs _=>hs,?_⟩,?_⟩
   . rintro spot _ _ rfl;exact⟨kt i,sQ,O9m⟩
   . rintro spot _ hs rfl hz h0;exact absurd (h.skip K HS hi hs (qa0 _)) h0
   . rintro spot st s' hs e hB hex;have e:=e.symm;subst e;have uC:=hB.one bg;subst uC
     have yS:spot=i:=by
      rcases qf5 spot i with z | z
      . exact absurd (h.skip K HS hi z (qc3 (hex z))) hB.2.1
      . omega
     subst yS
     have uD:insS spot spot (kt spot) s=s:=by
      have m1:moveS spot spot s=s:=by
       show(moveR s.1 spot spot,moveR s.2 spot spot)=s;rw[Mq,Mq]
      rw[insS,m1,if_neg (by omega)]
     rw[uD];obtain⟨k1,k2,k3⟩:=h.last K HS hi (fun c hc=>hc) sQ (C:=Rb n r kt) (δ:=β-(η+1)) bb (fun k hk=>ab k spot hk (qa0 _) hi);have hbd:β+Dj π b r+Mz (η+1+Dj π b r) η r (spot-r)+(η+1+Dj π b r+(spot-r)*(η+1)+spot+3)<=big:=O9m
     have st':=k1.st.st
     have hh:∀d,d<=spot+1->∀j,j<=spot->(downS (insT t spot (kt spot)) spot s d).1 j (insT t spot (kt spot) j)=s.1 j (insT t spot (kt spot) j):=fun d hd j hj=>by
      obtain⟨l1,_⟩:=k2 d hd;have:=l1.rows j (insT t spot (kt spot) j);rw[this];split
      . rename_i z
        have tl:insT t spot (kt spot) j<kt spot:=by
         have:=st'.inc j spot z.2 O9m;have e:insT t spot (kt spot) spot=kt spot:=by unfold insT;rw[if_neg (by omega),if_pos rfl]
         omega
        rw[zero _ tl,qi0,Int.add_zero]
      . rfl
     have vL:∀j,j<=spot->(s.1 j (insT t spot (kt spot) j)).natAbs<L9:=fun j hj=>by
      unfold insT;rcases qf5 j spot with z | z
      . rw[if_pos z];exact h9 j z
      . have:j=spot:=O9m
        subst this;rw[if_neg (by omega),if_pos rfl,row,K.head j HS hi];exact HR (vJ j HS hi) O9m
     have hpos:∀j,j<=spot->0<s.1 j (insT t spot (kt spot) j):=fun j hj=>by
      have:=st'.pos j O9m;rw[hh (spot+1) (qa0 _) j hj]at this;exact this
     refine⟨fun d hd=>⟨fun j hj1 hj2=>⟨st'.lt j hj2,by rw[hh d (by omega) j (by omega)];exact hpos j O9m,by rw[hh d (by omega) j (by omega)];exact vL j O9m⟩,fun m hm=>?_⟩,.inr ⟨O9m,k1,?_,?_,fun j hj=>by rw[hh (spot+1) (qa0 _) j (by omega)];exact vL j O9m⟩⟩
     . rcases qf5 m d with z | z
       . have:=k3 d O9m m z;rw[this];exact BB.bo (k2 d O9m).2 hbd
       . have e:m=d:=O9m
         subst e;exact BB.bo (k2 (m+1) O9m).2 hbd
     . have:=h.above K HS hi vJ ab (k2 (spot+1) (qa0 _)).1;rw[show spot+1-r=(spot-r)+1 by omega,qd4,qd1];have e:η+1+Dj π b r+((spot-r)*(η+1)+(η+1))=η+1+Dj π b r+(spot-r)*(η+1)+η+1:=O9m
       rw[e];exact this
     . rw[show spot+1-r=(spot-r)+1 by omega,em];have:=(k2 (spot+1) (qa0 _)).2;rw[show β+Dj π b r+(Mz (η+1+Dj π b r) η r (spot-r)+(η+1+Dj π b r+(spot-r)*(η+1)+spot+3))=β+Dj π b r+Mz (η+1+Dj π b r) η r (spot-r)+(η+1+Dj π b r+(spot-r)*(η+1)+spot+3) by omega];exact this
theorem fW{M:Mat}{k:Nat}(hp:∀x,x<k->0<M x x):∀m,k<=m->(∀x,k<=x->x<m->M x x=0)->ES m M=Ga k fun x=>M x x:=by
 have base:∀j,j<=k->ES j M=Ga j fun x=>M x x:=fun j=>by
  induction j with
  | zero=>intro _;rfl
  | succ j ih =>
    intro hj;have:=hp j O9m;rw[L4,if_neg (by omega),ih (by omega),Oy]
 intro m
 induction m with
 | zero=>intro h _;exact base 0 (qa8 _)▸(by rw[show k=0 by omega])
 | succ m ih =>
   intro h hz;by_cases e:k=m+1
   . subst e;exact base _ (qa0 _)
   . rw[L4,if_pos (hz m (by omega) (by omega)),ih (by omega) fun x h1 h2=>hz x h1 (by omega)]
noncomputable abbrev Kb:Nat:=67000000
noncomputable def BF(n:Nat)(s:Mat × Mat):Prop:=Bits n n Kb s.1/\Bits n n Kb s.2
noncomputable def Mj(n:Nat)(s:Mat × Mat):Prop:=∀a b,a<n->b<n->pT n s.2 s.1 a b=if a=b then 1 else 0
theorem Mj.one(n:Nat):Mj n (Lat.one,Lat.one):=fun a b ha hb=>by
 show Aq (fun k=>Lat.one k a*Lat.one k b) n=_;rw[Ch ha fun k _ hk=>by unfold Lat.one;rw[if_neg hk,qs1]];unfold Lat.one;rw[if_pos rfl,qc0]
theorem Mj.go{n w:Nat}{T:Mat}{l:Mat × Mat}{R B:Mat}(h:Mj n l)(e:∀a b,pT n B R a b=pT n l.2 (beside w T l.1) a b):Mj n (fun x a=>R x (w+a),B):=fun a b ha hb=>by
 have:=e a (w+b);rw[←h a b ha hb];refine Eq.trans this ?_;exact Az fun k _=>by rw[beside_hi]
theorem FT(i j:Nat):(one i j).natAbs<=1:=by
 unfold one;split<;>decide
theorem Qw{n w W b:Nat}{T P:Mat}(hT:∀i c,i<n->c<w->(T i c).natAbs<=2 ^ b)(hP:∀i c,i<n->c<W->(P i c).natAbs<=2 ^ b):∀i c,i<n->c<w+W->(beside w T P i c).natAbs<=2 ^ b:=fun i c hi hc=>by
 unfold beside;split
 . rename_i h;exact hT i c hi h
 . exact hP i (c-w) hi O9m
theorem Re{n w W b:Nat}{T P:Mat}(hT:∀i c,i<n->c<w->(T i c).natAbs<2 ^ b)(hP:Bits n W b P):Bits n (w+W) b (beside w T P):=fun i c hi hc=>by
 unfold beside;split
 . rename_i h;exact hT i c hi h
 . exact hP i (c-w) hi O9m
theorem Jg{n w W b:Nat}{R:Mat}(h:Bits n (w+W) b R):Bits n W b fun x a=>R x (w+a):=fun i c hi hc=>h i (w+c) hi O9m
theorem Jf{n W b b':Nat}{R:Mat}(h:Bits n W b R)(hb:b<=b'):Bits n W b' R:=fun i c hi hc=>qa6 (h i c hi hc) (qe1 (by decide) hb)
theorem MK{e:Int}{D π:Nat}(h:e<=D)(hD:D<=2 ^ π)(h0:0<e):e.natAbs.log2<=π/\e.natAbs<=2 ^ π:=by
 have h1:e.natAbs<=2 ^ π:=by
  have:e.natAbs<=D:=O9m
  exact qa1 this hD
 refine⟨?_,h1⟩;have:e.natAbs.log2<π+1:=(qq5 O9m).mpr (qa4 h1 (qg1 (by decide) O9m));omega
theorem JL.done{n w r π b η β c:Nat}{M B0:Mat}{kt:Nat->Nat}{hd:Nat->Int}{t:Nat->Nat}{s:Mat × Mat}(rn:r<=n)(h:JL n w r M B0 kt hd π b η β n t s)(hc:Li π b η r n<=c):(∃G,Cl n (w+n) w r n G M B0 kt hd t s.1 s.2)/\Bits n (w+n) (β+c) s.1/\Bits n n (β+c) s.2:=by
 have e:Li π b η r n=Dj π b r+Mz (η+1+Dj π b r) η r (n-r):=rfl;rcases h with⟨h0,h,bb⟩|⟨h0,h,_,bb,_⟩
 . have en:n=r:=O9m
   subst en;have:=bb.mono (show β+Dj π b n<=β+c by omega);exact⟨⟨_,h⟩,this.1,this.2.1⟩
 . have:=bb.mono (show _<=β+c by omega);exact⟨⟨_,h⟩,this.1,this.2.1⟩
structure o8(n w b0 D π b β D2 π2 b2 β2 C1 C2:Nat):Prop where
 dπ:D<=2 ^ π
 nb:n*D<=2 ^ b
 wb:w*D<=2 ^ b
 b0π:b0<=π
 πb:π<=b
 bβ:b<β
 nβ:n+b0<β
 st:∀i,i<n->β+E8 π b i<=big
 π9:π<=8990
 d2:∀i,i<=w->HV i*(2 ^ b) ^ i<=D2
 dπ2:D2<=2 ^ π2
 wb2:w*D2<=2 ^ b2
 bπ2:b<=π2
 πb2:π2<=b2
 bβ2:b2<β2
 wβ2:w+b<β2
 st2:∀i,i<w->β2+E8 π2 b2 i<=big
 π92:π2<=8990
 c1:∀r,r<=n->r<=w->Li π b π r n<=C1
 c2:∀r,r<=n->r<=w->Li π b π2 r w<=C2
 f1:β+(min n w*(π+2)+1)*C1+(5*min n w+min n w*min n w+1)*(2*π+4)<=Kb
 f2:β2+(min n w*(π+2)+1)*C2+(5*min n w+min n w*min n w+1)*(π+2)<=Kb
structure QJ(n w b0 D π b β D2 π2 b2 β2 C1 C2:Nat):Prop where
 c:o8 n w b0 D π b β D2 π2 b2 β2 C1 C2
 d:∀i,i<=n->HV i*(2 ^ b0) ^ i<=D
section
variable{n w b0 D π b β D2 π2 b2 β2 C1 C2:Nat}{A:Mat}
noncomputable def UW(n w D π β π2 β2 C1 C2:Nat)(A:Mat)(m:Nat)(M:Mat)(l r:Mat × Mat):Prop:=∃(k:Nat) (e:Int) (kl kr:Nat->Nat) (hl hr:Nat->Int),Oh n w k D π m e A M l.1 l.2 r.1 r.2 kl kr hl hr/\m<=min n w*(π+2)/\e<=D/\(∀j,k<=j->j<n->hl j<=2 ^ π)/\(∀j,k<=j->j<w->hr j<=2 ^ π2) ∧
 Bits n n (β+(min n w*(π+2)-m)*C1) l.1/\Bits n n (β+(min n w*(π+2)-m)*C1) l.2/\Bits w w (β2+(min n w*(π+2)-m)*C2) r.1/\Bits w w (β2+(min n w*(π+2)-m)*C2) r.2/\Mj n l/\Mj w r
theorem GL(p:o8 n w b0 D π b β D2 π2 b2 β2 C1 C2)(hA:∀i c,i<n->c<w->(A i c).natAbs<=2 ^ b0)(dets:K8 n (fun c=>c<w+n) (beside w A one) D):Oi n w A (one,one) (one,one) (fun M l r=>∃m,UW n w D π β π2 β2 C1 C2 A m M l r):=by
 have o0:∀b i j,(one i j).natAbs<=2 ^ b:=fun b i j=>qa1 (FT i j) qg9;have hM:=Qw (W:=n) hA fun i c _ _=>o0 b0 i c;refine⟨JF n w (beside w A one),Rc hM dets p.dπ p.nb p.b0π (qa1 p.b0π p.πb) p.bβ p.nβ p.st p.π9 (Pe n w A),fun t=>Db.start _ _ _ _ _ _ t,JF.lt,fun t1 s1 h1=>?_⟩;have hR:∀i c,i<w->c<n->((fun i j=>s1.1 j i) i c:Int).natAbs<=2 ^ b:=fun i c hi hc=>qa1 (h1.rowD dets (qa0 _) (fun c h=>h) hc (show i<w+n by omega)) p.nb;have NS:=Qw (W:=w) hR fun i c _ _=>o0 b i c;have gR:K8 w (fun c=>c<n+w) (beside n (tr s1.1) one) D2:=Sr NS p.d2;refine⟨JF w n (beside n (fun i j=>s1.1 j i) one),Rc NS gR p.dπ2 p.wb2 p.bπ2 (qa1 p.bπ2 p.πb2) p.bβ2 p.wβ2 p.st2 p.π92 (Pe w n _),fun t=>Db.start _ _ _ _ _ _ t,JF.lt,fun t2 s2 h2=>?_⟩;have wB:=N8 hM dets (fun k a=>rfl) h1 (qa0 _) p.nb (qa1 p.b0π p.πb) p.bβ p.nβ;have WA:=N8 NS gR (fun k a=>rfl) h2 (qa0 _) p.wb2 (qa1 p.bπ2 p.πb2) p.bβ2 p.wβ2;obtain⟨k,e,kn,kw,he,wk,hl,hr⟩:=t5 (L:=π) dets gR h1 h2
 have up:∀{x:Int}{a q:Nat},x<=a->a<=2 ^ q->x<=2 ^ q:=fun {x a q} h1 h2=>by
  exact qp7 h1 (by exact_mod_cast h2)
 have km:k*(π+2)<=min n w*(π+2):=qb1 _ O9m;exact⟨k*(π+2),k,e,_,_,_,_,wk,km,he,fun j _ h=>up (hl j h) p.dπ,fun j _ h=>up (hr j h) p.dπ2,Jf (Jg wB.1) (qc4 _ _),Jf wB.2.1 (qc4 _ _),Jf (Jg WA.1) (qc4 _ _),Jf WA.2.1 (qc4 _ _),(Mj.one n).go h1.good.pt,(Mj.one w).go h2.good.pt⟩
theorem GD(p:o8 n w b0 D π b β D2 π2 b2 β2 C1 C2){m:Nat}{M:Mat}{l r:Mat × Mat}(h:UW n w D π β π2 β2 C1 C2 A m M l r)(ns:¬Straight n w M):Oi n w M l r (fun M' l' r'=>∃m',m'<m/\UW n w D π β π2 β2 C1 C2 A m' M' l' r'):=by
 obtain⟨k,e,kl,kr,hl,hr,wk,hm,he,ηl,ηr,q1,q2,q3,q4,v1,v2⟩:=h;obtain⟨lg,le⟩:=MK he p.dπ wk.e0;have rn:=wk.going.sq.rn;have rw':=wk.going.sq.rw;have c1:=p.c1 k rn rw';have c2:=p.c2 k rn rw';have f1:=p.f1;have f2:=p.f2;have vP:Kb<=big:=by decide
 have sC:∀C,(min n w*(π+2)-m)*C+C<=(min n w*(π+2)+1)*C:=fun C=>by
  rw[qd4,qd1];exact Nat.add_le_add_right (qb1 _ (Nat.sub_le _ _)) _
 have s1:=sC C1;have s2:=sC C2;have b1:β+(min n w*(π+2)-m)*C1+Li π b π k n<=big:=O9m
 have HZ:β2+(min n w*(π+2)-m)*C2+Li π b π2 k w<=big:=O9m
 have β1:π+1<=β+(min n w*(π+2)-m)*C1:=by have:=p.πb;have:=p.bβ;omega
 have β1':π2+1<=β2+(min n w*(π+2)-m)*C2:=by have:=p.πb2;have:=p.bβ2;omega
 have tb:∀{n' w':Nat}{T:Mat}{x:Nat},π+1<=x->F8 n' w' k D e T->∀i c,i<n'->c<w'->(T i c).natAbs<2 ^ x:=fun {n' w' T x} hx g i c hi hc=>by
  obtain⟨g1,g2⟩:=g.le i c hi hc;have:(T i c).natAbs<=2 ^ π:=O9m
  exact qa4 this (qg1 (by decide) O9m)
 have bl:=Re (tb β1 wk.going) q1;refine⟨JL n w k (beside w M l.1) l.2 kl hl π b π (β+(min n w*(π+2)-m)*C1),Ra wk.going wk.e0 wk.kl wk.dl ηl β1 b1 p.dπ le p.nb p.πb p.π9 p.π9,fun t=>.inl ⟨qa8 _,Cl.start _ _ _ _ _ _ _ _ _ _,wk.kl.bits ηl bl q2 β1⟩,JL.lt,fun t1 u1 j1=>?_⟩;obtain⟨⟨G1,K1⟩,z1,z2⟩:=JL.done rn j1 c1;obtain⟨d1,d2,d3,d4⟩:=N3 wk.e0 wk.going wk.kl K1 wk.told;have ker:R7 w (n+w) n k kr hr (beside n (fun i j=>u1.1 j i) r.1):=wk.kr.table fun i c h1 h2 h3=>d2.sq.row0 i c h1 h2 h3;have dr:E4 w n (beside n (fun i j=>u1.1 j i) r.1) r.2:=Fu wk.dr;have xH:π+1<=β2+(min n w*(π+2)-m)*C2:=by have:=p.πb;have:=p.bπ2;omega
 have br:=Re (tb xH d2) q3;refine⟨JL w n k (beside n (fun i j=>u1.1 j i) r.1) r.2 kr hr π b π2 (β2+(min n w*(π+2)-m)*C2),Ra d2 wk.e0 ker dr ηr β1' HZ p.dπ le p.wb p.πb p.π9 p.π92,fun t=>.inl ⟨qa8 _,Cl.start _ _ _ _ _ _ _ _ _ _,ker.bits ηr br q4 β1'⟩,JL.lt,fun t2 u2 j2=>?_⟩;obtain⟨⟨G2,K2⟩,y1,y2⟩:=JL.done rw' j2 c2;obtain⟨_,nx⟩:=wk.next lg K1 K2;obtain⟨m0,wI⟩:=nx ns
 have en:∀C,(min n w*(π+2)-(m-1))*C=(min n w*(π+2)-m)*C+C:=fun C=>by
  rw[show min n w*(π+2)-(m-1)=min n w*(π+2)-m+1 by omega,qd4,qd1]
 refine⟨m-1,O9m,k,e,kl,kr,hl,hr,wI,O9m,he,ηl,ηr,?_,?_,?_,?_,v1.go K1.st.good.pt,v2.go K2.st.good.pt⟩
 . rw[en,←qo4];exact Jg z1
 . rw[en,←qo4];exact z2
 . rw[en,←qo4];exact Jg y1
 . rw[en,←qo4];exact y2
noncomputable def YS(n w D π β π2 β2 C1 C2:Nat)(A:Mat)(k d:Nat)(f:Nat->Int)(l r:Mat × Mat):Prop:=DiagAt n w k D A l.1 l.2 r.1 r.2 f/\d<=5*k+k*k/\BB n n (fun _=>False) 0 (β+(min n w*(π+2))*C1+d*(2*π+4)) l/\BB w w (fun _=>False) 0 (β2+(min n w*(π+2))*C2+d*(π+2)) r/\Mj n l/\Mj w r
theorem Uh(p:o8 n w b0 D π b β D2 π2 b2 β2 C1 C2)(hA:∀i c,i<n->c<w->(A i c).natAbs<=2 ^ b0)(dets:K8 n (fun c=>c<w+n) (beside w A one) D):G8 n w A (fun k f l r=>DiagAt n w k D A l.1 l.2 r.1 r.2 f/\Mj n l/\Mj w r/\BF n l/\BF w r):=by
 refine⟨UW n w D π β π2 β2 C1 C2 A,YS n w D π β π2 β2 C1 C2 A,GL p hA dets,fun m M l r h ns=>GD p h ns,?_,?_,?_⟩
 . rintro m M l r ⟨k,e,kl,kr,hl,hr,wk,hm,he,ηl,ηr,q1,q2,q3,q4,v1,v2⟩ hS;have dg:=wk.diag hS;have sC:∀C,(min n w*(π+2)-m)*C<=(min n w*(π+2))*C:=fun C=>qb1 _ (Nat.sub_le _ _);have s1:=sC C1;have s2:=sC C2;refine⟨k,fun x=>M x x,fW dg.pos _ (by have:=dg.mn;have:=dg.mw;omega) fun x h1 h2=>dg.zero x h1 O9m O9m,dg.mn,dg.mw,dg,qa8 _,⟨Jf q1 O9m,Jf q2 O9m,fun r c _ z=>z.elim⟩,⟨Jf q3 O9m,Jf q4 O9m,fun r c _ z=>z.elim⟩,v1,v2⟩
 . rintro k d i j f l r ⟨dg,hd,bl,br,v1,v2⟩ hdk hij hj;have mn:=dg.mn;have mw:=dg.mw
   have lf:∀x,x<k->(f x).natAbs<=2 ^ π:=fun x hx=>by
    have h1:=dg.le hx;have h2:=dg.pos x hx;exact qa1 O9m p.dπ
   have kk:5*k+k*k<=5*min n w+min n w*min n w:=by
    have h:k<=min n w:=O9m
    have:=qd9 h h;omega
   have f1:=p.f1;have f2:=p.f2;have vP:Kb<=big:=by decide
   have dm:∀X,d*X+X<=(5*min n w+min n w*min n w+1)*X:=fun X=>by
    have:=qb1 X (show d+1<=5*min n w+min n w*min n w+1 by omega);rw[qd4,qd1]at this;exact this
   have d1:=dm (2*π+4);have d2:=dm (π+2);have cm:∀C,(min n w*(π+2))*C<=(min n w*(π+2)+1)*C:=fun C=>qb1 _ (qk3 _);have e1:=cm C1;have e2:=cm C2;have b1:BB n n (fun _=>False) 0 (β+min n w*(π+2)*C1+d*(2*π+4)+(1+1)) (addS i j 1 l):=bl.add O9m O9m (k:=1) (c:=1) (by decide);have PK:∀{x:Nat},x<=2 ^ π->x<2 ^ (π+1):=fun h=>qa4 h (qg1 (by decide) O9m);refine⟨⟨⟨dg.pos i O9m,HR (lf i O9m) (by have:=p.π9;omega)⟩,⟨by have:=dg.pos j hj;omega,HR (lf j hj) (by have:=p.π9;omega)⟩,⟨BB.bo bl O9m,BB.bo b1 O9m⟩,BB.bo br O9m⟩,fun pY=>⟨dg,O9m,bl.mono (by rw[qd4];omega),br.mono (by rw[qd4];omega),v1,v2⟩,fun g a b' sh=>⟨?_,O9m,?_,?_,?_,?_⟩⟩
   . have:=dg.share hij hj sh;unfold NK kJ lV addS blendS;simp only[qk6];exact this
   . have lb:(b'*f j / g).natAbs<2 ^ (2*π+1):=by
      refine qa4 (qe0 _ _) ?_;rw[qa9];refine qa4 (qd9 (qa1 sh.lb (lf i O9m)) (lf j hj)) ?_;rw[←qc7];exact qg1 (by decide) O9m
     have HZ:=b1.add (p:=j) (q:=i) O9m O9m (k:=-(b'*f j / g)) (c:=2*π+1) (by rw[qb4];exact lb);refine HZ.mono ?_;rw[qd4,qd1];omega
   . have:=br.blend (p:=i) (q:=j) O9m O9m O9m (x:=a) (y:=b') (z:=-(f j / g)) (u:=f i / g) (c:=π+1) (PK (qa1 sh.la (lf j hj))) (PK (qa1 sh.lb (lf i O9m))) (PK (by rw[qb4];exact qa1 (qe0 _ _) (lf j hj))) (PK (qa1 (qe0 _ _) (lf i O9m)));refine this.mono ?_;rw[qd4,qd1];omega
   . intro x y hx hy;rw[←v1 x y hx hy];exact(v9 _ _ (show j<n by omega) (show i<n by omega) O9m _ x y).trans (v9 _ _ (show i<n by omega) (show j<n by omega) O9m _ x y)
   . intro x y hx hy;rw[←v2 x y hx hy];exact Z7 _ _ (show i<w by omega) (show j<w by omega) O9m (sh.blend (π:=π) (dg.pos i O9m) (lf i O9m) (lf j hj)).one x y
 . rintro k d f l r ⟨dg,hd,bl,br,v1,v2⟩;have h:k<=min n w:=by have:=dg.mn;have:=dg.mw;omega
   have kk:=qd9 h h;have f1:=p.f1;have f2:=p.f2;have vP:Kb<=big:=by decide
   have dm:∀X,d*X<=(5*min n w+min n w*min n w+1)*X:=fun X=>qb1 X O9m;have cm:∀C,(min n w*(π+2))*C<=(min n w*(π+2)+1)*C:=fun C=>qb1 _ (qk3 _);have d1:=dm (2*π+4);have d2:=dm (π+2);have e1:=cm C1;have e2:=cm C2;exact⟨dg,v1,v2,⟨(bl.mono (show _<=Kb by omega)).1,(bl.mono (show _<=Kb by omega)).2.1⟩,⟨(br.mono (show _<=Kb by omega)).1,(br.mono (show _<=Kb by omega)).2.1⟩⟩
theorem DU(p:QJ n w b0 D π b β D2 π2 b2 β2 C1 C2)(hA:∀i c,i<n->c<w->(A i c).natAbs<=2 ^ b0):G8 n w A (fun k f l r=>DiagAt n w k D A l.1 l.2 r.1 r.2 f/\Mj n l/\Mj w r/\BF n l/\BF w r) :=
 Uh p.c hA (Sr (Qw (W:=n) hA fun i c _ _=>qa1 (FT i c) qg9) p.d)
end
noncomputable def Pj(n:Nat)(f:Nat->Bool):Bool:=(List.range n).all f
theorem F7{n:Nat}{f:Nat->Bool}(h:Pj n f=true):∀i,i<n->f i=true:=fun i hi=>qh8.mp h i (qj7.mpr hi)
noncomputable def uB(n b0 π:Nat):Bool:=Pj (n+1) fun i=>decide (HV i*(2 ^ b0) ^ i<=2 ^ π)
noncomputable def bJ(n w b0 π b β π2 b2 β2 C1 C2:Nat):Bool :=
 (decide (n*2 ^ π<=2 ^ b/\w*2 ^ π<=2 ^ b/\b0<=π/\π<=b/\b<β/\n+b0<β)&&(Pj n (fun i=>decide (β+E8 π b i<=big))&&(decide (π<=8990) &&
 (Pj (w+1) (fun i=>decide (HV i*(2 ^ b) ^ i<=2 ^ π2))&&(decide (w*2 ^ π2<=2 ^ b2/\b<=π2/\π2<=b2/\b2<β2/\w+b<β2)&&(Pj w (fun i=>decide (β2+E8 π2 b2 i<=big))&&(decide (π2<=8990) &&
 (Pj (min n w+1) (fun r=>decide (Li π b π r n<=C1/\Li π b π2 r w<=C2)) &&
 decide (β+(min n w*(π+2)+1)*C1+(5*min n w+min n w*min n w+1)*(2*π+4)<=Kb/\β2+(min n w*(π+2)+1)*C2+(5*min n w+min n w*min n w+1)*(π+2)<=Kb)))))))))
theorem Z6{n w b0 π b β π2 b2 β2 C1 C2:Nat}(h:bJ n w b0 π b β π2 b2 β2 C1 C2=true):o8 n w b0 (2 ^ π) π b β (2 ^ π2) π2 b2 β2 C1 C2:=by
 unfold bJ at h;simp only[qc5,qr7]at h;obtain⟨⟨h2,h3,h4,h5,h6,h7⟩,h8,h9,k1,⟨k2,k3,k4,k5,k6⟩,k7,k8,k9,m1,m2⟩:=h
 exact⟨qa0 _,h2,h3,h4,h5,h6,h7,fun i hi=>qc2 (F7 h8 i hi),h9,fun i hi=>qc2 (F7 k1 i O9m),qa0 _,k2,k3,k4,k5,k6,fun i hi=>qc2 (F7 k7 i hi),k8,
  fun r hr hw=>(qc2 (F7 k9 r O9m):_/\_).1,fun r hr hw=>(qc2 (F7 k9 r O9m):_/\_).2,m1,m2⟩
noncomputable def FP(n w b0 π b β π2 b2 β2 C1 C2:Nat):Bool:=uB n b0 π&&bJ n w b0 π b β π2 b2 β2 C1 C2
theorem BI{n w b0 π b β π2 b2 β2 C1 C2:Nat}(h:FP n w b0 π b β π2 b2 β2 C1 C2=true):QJ n w b0 (2 ^ π) π b β (2 ^ π2) π2 b2 β2 C1 C2:=by
 obtain⟨h1,h2⟩:=qm4.mp h;exact⟨Z6 h2,fun i hi=>qc2 (F7 h1 i O9m)⟩
end Hb
namespace Lat
open Hb
theorem iE{n:Nat}{P PB P':Mat}(h:∀a b,a<n->b<n->pT n PB P a b=if a=b then 1 else 0)(x:Nat):∀c,c<n->P' x c=Aq (fun u=>Aq (fun a=>P' x a*PB u a) n*P u c) n:=fun c hc=>by
 have e:Aq (fun u=>Aq (fun a=>P' x a*PB u a) n*P u c) n=Aq (fun a=>P' x a*pT n PB P a c) n:=by
  rw[Az fun u _=>(P3 _ _ _).symm,Gc];refine Az fun a _=>?_;show _=P' x a*Aq (fun k=>PB k a*P k c) n;rw[←B9];exact Az fun k _=>by rw[qe9]
 rw[e,Ch hc fun a ha ne=>by rw[h a c ha hc,if_neg ne,qi0],h c c hc hc,if_pos rfl,qq7]
end Lat
namespace Hb
open PySem L2
noncomputable def BK(c kind:Int):Int:=if kind%4=3 then(c*(1000003:Int) ^ (9:Int).toNat+c)%(2*(10:Int) ^ (20:Int).toNat+1)-(10:Int) ^ (20:Int).toNat else if kind%4=2 then c*48271%2000003-1000001 else if kind%4=1 then c%7-3 else(c%9-4)*(c / 9%2)
theorem ME{c kind:Int}(h:0<=kind)(h2:kind<=1):(BK c kind).natAbs<=2 ^ 2:=by
 unfold BK;have h3:c / 9%2=0\/c / 9%2=1:=O9m
 rw[if_neg (by omega),if_neg (by omega)];split
 . omega
 . rcases h3 with h3 | h3<;>rw[h3]<;>omega
noncomputable def Drawn(h w b0:Nat):Prop:=(h<=7/\w<=8/\b0=4)\/(h<=4/\w<=5/\b0=22)\/(h<=2/\w<=3/\b0=69)
theorem G8.mono{n w:Nat}{A:Lat.Mat}{F F':Nat->(Nat->Int)->Lat.Mat × Lat.Mat->Lat.Mat × Lat.Mat->Prop}(h:G8 n w A F)(k:∀a f l r,F a f l r->F' a f l r):G8 n w A F':=by
 obtain⟨U,Y,a1,a2,a3,a4,a5⟩:=h.ex;exact⟨U,Y,a1,a2,a3,a4,fun k' d f l r y=>k _ _ _ _ (a5 k' d f l r y)⟩
structure Pw(K:W.Frag)(H:Hp)(tp nm r1 D1 D2 b2:Addr)(n w k:Nat)(f:Nat->Int)(l r:Lat.Mat × Lat.Mat):Prop where
 tup:Fe K H tp [.ref nm,.ref r1,.ref D1,.ref D2,.ref b2]
 num:SqL K H nm (VI k f)
 left:Rep K H (.ref r1) (dT n n l.1)
 lback:Rep K H (.ref D1) (dT n n fun i j=>l.2 j i)
 right:Rep K H (.ref D2) (dT w w fun i j=>r.1 j i)
 rback:Rep K H (.ref b2) (dT w w r.2)
theorem aY.r{K:W.Frag}{H H':Hp}{tp nm r1 D1 D2 b2:Addr}{n w k:Nat}{f:Nat->Int}{l r:Lat.Mat × Lat.Mat}(x:aY K H H' tp nm r1 D1 D2 b2 n w k f l r):Pw K H' tp nm r1 D1 D2 b2 n w k f l r:=⟨x.tup,.of x.num,x.left,x.lback,x.right,x.rback⟩
theorem Pw.same{K:W.Frag}{H H':Hp}{tp nm r1 D1 D2 b2:Addr}{n w k:Nat}{f:Nat->Int}{l r:Lat.Mat × Lat.Mat}(x:Pw K H tp nm r1 D1 D2 b2 n w k f l r)(s:Aj H H'):Pw K H' tp nm r1 D1 D2 b2 n w k f l r:=⟨s.seqT x.tup,s.seq x.num,Rep.same s x.left,Rep.same s x.lback,Rep.same s x.right,Rep.same s x.rback⟩
section
variable(K:W.Frag)
noncomputable def Sq(_K:W.Frag):Sp:=fun vs H Q _=>∃(c kind:Int),vs=[.int c,.int kind]/\c.natAbs<2 ^ (Ex+65)/\Q (.int (BK c kind)) H
noncomputable def V7:Sp:=fun vs H Q _=>∃(a:Addr) (ns:List Int) (b h w:Nat) (kind:Int),vs=[.ref a,.int b,.int h,.int w,.int kind]/\SqL K H a (ns.map V.int)/\ns.length<=63/\(∀x∈ns,x.natAbs<2 ^ Ex)/\b<=10000/\h<=60/\w<=60 ∧
 jE H h w (fun i j=>BK (spreadV ns ((b+i*w+j:Nat):Int)) kind) Q
end
end Hb
namespace Lat
open Hb
noncomputable def mulV(w:Nat)(A:Mat)(x:Nat->Int):Nat->Int:=fun i=>Aq (fun j=>A i j*x j) w
theorem n6(n w:Nat)(A:Mat)(p x:Nat->Int):Mx n w A p x=Aq (fun a=>p a*mulV w A x a) n:=rfl
theorem NB{w:Nat}{Q QB:Mat}(h:∀a b,a<w->b<w->pT w QB Q a b=if a=b then 1 else 0)(x:Nat->Int):∀c,c<w->x c=Aq (fun y=>Aq (fun a=>x a*QB y a) w*Q y c) w:=iE (P':=fun _=>x) h 0
noncomputable def numAt(f:Nat->Int)(k i:Nat):Int:=if i<k then f i else 0
noncomputable def Bar(f:Nat->Int)(k:Nat)(s:Nat->Int)(i:Nat):Prop:=¬numAt f k i∣s i
section
variable{n w k E:Nat}{A P PB Q QB:Mat}{f:Nat->Int}
theorem DiagAt.seen(h:DiagAt n w k E A P PB Q QB f)(hr:∀a b,a<w->b<w->pT w QB Q a b=if a=b then 1 else 0){x:Nat->Int}{i:Nat}(hi:i<n):Aq (fun a=>P i a*mulV w A x a) n=numAt f k i*(if i<w then Aq (fun a=>x a*QB i a) w else 0):=by
 have mw:=h.mw;rw[←n6,Mw (p':=P i) (q':=fun c=>Aq (fun y=>Aq (fun a=>x a*QB y a) w*Q y c) w) (fun _ _=>rfl) (fun c hc=>NB hr x c hc),Ip,R6]
 have e:∀y,y<w->Aq (fun a=>x a*QB y a) w*Mx w n (tr A) (Q y) (P i)=if y=i then numAt f k i*Aq (fun a=>x a*QB i a) w else 0:=fun y hy=>by
  rw[←Ip,h.diag i y hi hy];unfold numAt;by_cases z:y=i
  . subst z;rw[if_pos rfl,if_pos rfl];by_cases z2:y<k
    . rw[if_pos z2,qe7]
    . rw[if_neg z2,h.zero y (by omega) hi hy,qi0,qs1]
  . rw[if_neg fun q=>z q.symm,if_neg z,qi0]
 rw[Az e];by_cases z:i<w
 . rw[Ch z fun y _ ne=>if_neg ne,if_pos rfl,if_pos z]
 . rw[B6 fun y hy=>if_neg (by omega),if_neg z,qi0]
theorem DiagAt.noBar(h:DiagAt n w k E A P PB Q QB f)(hr:∀a b,a<w->b<w->pT w QB Q a b=if a=b then 1 else 0){x v:Nat->Int}(hx:∀i,i<n->mulV w A x i=v i){i:Nat}(hi:i<n):¬Bar f k (fun i=>Aq (fun a=>P i a*v a) n) i:=fun b=>b (by
 have e:Aq (fun a=>P i a*v a) n=Aq (fun a=>P i a*mulV w A x a) n:=Az fun a ha=>by rw[hx a ha]
 show numAt f k i∣Aq (fun a=>P i a*v a) n;rw[e,h.seen hr hi];exact Int.dvd_mul_right _ _)
theorem DiagAt.made(h:DiagAt n w k E A P PB Q QB f)(hl:∀a b,a<n->b<n->pT n PB P a b=if a=b then 1 else 0){v:Nat->Int}(hb:∀i,i<n->¬Bar f k (fun i=>Aq (fun a=>P i a*v a) n) i):∀i,i<n->mulV w A (fun j=>Aq (fun y=>Q y j*(if y<k then Aq (fun a=>P y a*v a) n / f y else 0)) w) i=v i:=by
 have mn:=h.mn;have mw:=h.mw
 have key:∀y,y<n->Aq (fun a=>P y a*mulV w A (fun j=>Aq (fun y=>Q y j*(if y<k then Aq (fun a=>P y a*v a) n / f y else 0)) w) a) n=Aq (fun a=>P y a*v a) n:=fun y hy=>by
  rw[←n6,Mw (p':=P y) (q':=fun c=>Aq (fun u=>(if u<k then Aq (fun a=>P u a*v a) n / f u else 0)*Q u c) w) (fun _ _=>rfl) (fun c hc=>Az fun u _=>qe7 _ _),Ip,R6]
  have e:∀u,u<w->(if u<k then Aq (fun a=>P u a*v a) n / f u else 0)*Mx w n (tr A) (Q u) (P y)=if u=y then(if y<k then Aq (fun a=>P y a*v a) n / f y*f y else 0) else 0:=fun u hu=>by
   rw[←Ip,h.diag y u hy hu];by_cases z:u=y
   . subst z;rw[if_pos rfl,if_pos rfl];split
     . rfl
     . rw[qs1]
   . rw[if_neg z,if_neg (show ¬y=u from fun q=>z q.symm),qi0]
  rw[Az e];have dv:numAt f k y∣Aq (fun a=>P y a*v a) n:=Classical.byContradiction fun q=>hb y hy q;unfold numAt at dv;by_cases z:y<k
  . rw[Ch (show y<w by omega) fun u _ ne=>if_neg ne,if_pos rfl,if_pos z];rw[if_pos z]at dv;exact qq8 dv
  . rw[if_neg z]at dv;rw[Int.zero_dvd.mp dv]
    exact B6 fun u hu=>by
     by_cases q:u=y
     . rw[if_pos q,if_neg z]
     . rw[if_neg q]
 intro i hi
 have un:∀u:Nat->Int,u i=Aq (fun y=>PB y i*Aq (fun a=>P y a*u a) n) n:=fun u=>by
  have e:Aq (fun y=>PB y i*Aq (fun a=>P y a*u a) n) n=Aq (fun a=>pT n PB P i a*u a) n:=by
   rw[Az fun y _=>(B9 _ _ _).symm,Gc];refine Az fun a _=>?_;show _=Aq (fun k=>PB k i*P k a) n*u a;rw[←P3];exact Az fun y _=>(qe9 _ _ _).symm
  rw[e,Ch hi fun a ha ne=>by rw[hl i a hi ha,if_neg fun q=>ne q.symm,qs1],hl i i hi hi,if_pos rfl,qc0]
 rw[un (mulV w A _),un v];exact Az fun y hy=>by rw[key y hy]
theorem DiagAt.rows(h:DiagAt n w k E A P PB Q QB f)(hr:∀a b,a<w->b<w->pT w QB Q a b=if a=b then 1 else 0){i j:Nat}(hi:i<n)(hj:j<w):numAt f k i∣Aq (fun a=>P i a*A a j) n:=by
 have:=h.seen hr (x:=fun c=>if c=j then 1 else 0) hi
 have e:∀a,mulV w A (fun c=>if c=j then 1 else 0) a=A a j:=fun a=>by
  unfold mulV;rw[Ch hj fun c _ ne=>by show A a c*(if c=j then 1 else 0)=0;rw[if_neg ne,qi0]];show A a j*(if j=j then 1 else 0)=A a j;rw[if_pos rfl,qq7]
 rw[Az fun a _=>by rw[e a]]at this;rw[this];exact Int.dvd_mul_right _ _
end
end Lat
namespace Hb
open PySem L2
noncomputable def nH(n w:Nat)(A:Lat.Mat)(u:Nat->Int):Prop:=∃x,∀i,i<n->Lat.mulV w A x i=u i
noncomputable abbrev qI:Nat:=134000700
theorem oY(a b:Int):decide (V.int a=V.int b)=decide (a=b):=by
 by_cases z:a=b
 . rw[z];simp
 . rw[qf0 z,qf0 (fun q=>z (V.int.inj q))]
noncomputable def Zh(n w:Nat)(A:Lat.Mat)(k:Nat)(f:Nat->Int)(l r:Lat.Mat × Lat.Mat):Prop:=∃E,E<L9/\Lat.DiagAt n w k E A l.1 l.2 r.1 r.2 f/\Mj n l/\Mj w r/\BF n l/\BF w r
theorem yZ{n w k E:Nat}{A P PB Q QB:Lat.Mat}{f:Nat->Int}(h:Lat.DiagAt n w k E A P PB Q QB f)(hE:E<L9){x:Nat}(hx:x<k):(f x).natAbs<L9:=by
 have h1:=h.le hx;have h2:=h.pos x hx;exact qa4 (show(f x).natAbs<=E by omega) hE
theorem cV{n w b0 π b β π2 b2 β2 C1 C2:Nat}{A:Lat.Mat}(h:FP n w b0 π b β π2 b2 β2 C1 C2=true)(hA:∀i c,i<n->c<w->(A i c).natAbs<=2 ^ b0):G8 n w A (Zh n w A):=(DU (BI h) hA).mono fun _ _ _ _ z=>⟨_,HR (qa0 _) (qa1 (BI h).c.π9 (by decide)),z⟩
section
variable(K:W.Frag)
noncomputable def Jj:Sp:=fun vs H Q _=>∃(a:Addr) (k i:Nat) (f:Nat->Int),vs=[.ref a,.int (i:Int)]/\SqL K H a (VI k f)/\Q (.int (Lat.numAt f k i)) H
noncomputable def La(_K:W.Frag):Sp:=fun vs H Q _=>∃(v d:Int),vs=[.int v,.int d]/\0<=d/\Q (.bl (decide (d∣v))) H
noncomputable def Jk:Sp:=fun vs H Q _=>∃(a b:Addr) (k n:Nat) (f s:Nat->Int),vs=[.ref a,.ref b]/\SqL K H a (VI k f)/\SqL K H b (VI n s)/\n<=1000/\(∀x,x<k->0<f x) ∧
 ((∀i,i<n->¬Lat.Bar f k s i)->∀H',Aj H H'->Q .non H')/\∀i,i<n->Lat.Bar f k s i->∀H',Aj H H'->Q (.int (i:Int)) H'
end
theorem SE:(Pj 5 fun n=>Pj 5 fun w=>FP n w 26 109 111 112 449 451 452 24816 24816)=true:=by decide +kernel
section
variable(K:W.Frag)
end
structure zC where
 T:Nat->Nat->Int
 f:Nat->Nat->Int
 l:Nat->Nat->Int
 lb:Nat->Nat->Int
 r:Nat->Nat->Int
 rb:Nat->Nat->Int
noncomputable def dot(x y:Nat->Int)(n:Nat):Int:=Aq (fun k=>x k*y k) n
noncomputable def dl(a b:Nat):Int:=if b=a then 1 else 0
structure Good(h w:Nat)(S:zC):Prop where
 l1:∀r s,r<h->s<h->dot (S.l r) (S.lb s) h=dl r s
 l2:∀a b,a<h->b<h->Aq (fun k=>S.lb k a*S.l k b) h=dl a b
 r1:∀r s,r<w->s<w->dot (S.r r) (S.rb s) w=dl r s
 r2:∀a b,a<w->b<w->Aq (fun k=>S.rb k a*S.r k b) w=dl a b
 now:∀i j,i<h->j<w->S.f i j=dot (fun b=>dot (S.l i) (fun a=>S.T a b) h) (S.r j) w
noncomputable def unit:Nat->Nat->Int:=fun i j=>if j=i then 1 else 0
end Hb
namespace Lat
open Hb
theorem Sd(g:Nat->Int):∀n,Aq g (n+1)=g 0+Aq (fun j=>g (j+1)) n
 | 0=>by show Aq g 0+g 0=_;show 0+g 0=g 0+0;omega
 | n+1=>by
   show Aq g (n+1)+g (n+1)=g 0+(Aq (fun j=>g (j+1)) n+g (n+1))
   rw[Sd g n,Int.add_assoc]
noncomputable def X2(A:Mat)(j:Nat):Mat:=fun r c=>A (r+1) (if c<j then c else c+1)
theorem bU:∀(n:Nat) (A:Mat),det (n+1) A=Aq (fun j=>sgi j*A 0 j*det n (X2 A j)) (n+1)
 | 0,A=>rfl
 | n+1,A=>by
   have e:∀i j,i<n+1->j<n+1->det n (X2 (Fh A (i+1)) j)=det n (Fh (X2 A (j+1)) i):=fun i j _ _=>Dc fun r c _ _=>by
    show A (if r+1<i+1 then r+1 else r+1+1) ((if c<j then c else c+1)+1)=A ((if r<i then r else r+1)+1) (if c+1<j+1 then c+1 else c+1+1)
    congr 1
    . split<;>split<;>omega
    . split<;>split<;>omega
   show Aq (fun i=>sgi i*A i 0*det (n+1) (Fh A i)) (n+1+1)=_;rw[Sd,Sd (fun j=>sgi j*A 0 j*det (n+1) (X2 A j))];have e0:det (n+1) (Fh A 0)=det (n+1) (X2 A 0):=rfl;rw[e0]
   congr 1
   have l:Aq (fun i=>sgi (i+1)*A (i+1) 0*det (n+1) (Fh A (i+1))) (n+1)=Aq (fun i=>Aq (fun j=>sgi (i+1)*A (i+1) 0*(sgi j*A 0 (j+1)*det n (X2 (Fh A (i+1)) j))) (n+1)) (n+1):=Az fun i _=>by
    rw[bU n,B9];rfl
   have r:Aq (fun j=>sgi (j+1)*A 0 (j+1)*det (n+1) (X2 A (j+1))) (n+1)=Aq (fun j=>Aq (fun i=>sgi (j+1)*A 0 (j+1)*(sgi i*A (i+1) 0*det n (Fh (X2 A (j+1)) i))) (n+1)) (n+1):=Az fun j _=>by
    rw[B9];rfl
   rw[l,r,Gc];refine Az fun j hj=>Az fun i hi=>?_;rw[e i j hi hj,Sw,Sw]
   grind
theorem det_flip:∀(n:Nat) (A:Mat),det n (fun r c=>A c r)=det n A
 | 0,_=>rfl
 | n+1,A=>by
   rw[bU n A];refine Az fun i hi=>?_;rw[←det_flip n (X2 A i)];rfl
noncomputable def Mins(n w:Nat)(A:Mat)(D:Nat):Prop:=∀(k:Nat) (r c:Nat->Nat),(∀x,x<k->r x<n)->(∀y,y<k->c y<w)->(det k fun x y=>A (r x) (c y)).natAbs<=D
theorem mQ(k:Nat)(r:Nat->Nat):(∃x y,x<k/\y<k/\x≠y/\r x=r y)\/∀x y,x<k->y<k->r x=r y->x=y:=by
 by_cases h:∃x y,x<k/\y<k/\x≠y/\r x=r y
 . exact .inl h
 . exact .inr fun x y hx hy e=>Classical.byContradiction fun z=>h ⟨x,y,hx,hy,z,e⟩
theorem gS{k:Nat}(M:Mat)(s:Nat->Nat){y0:Nat}(h0:y0<k):(det k fun x y=>M x (s (if y=0 then y0 else if y=y0 then 0 else y))).natAbs=(det k fun x y=>M x (s y)).natAbs:=by
 by_cases z:y0=0
 . subst z
   congr 1
   exact Dc fun x y _ _=>by
    by_cases q:y=0
    . rw[if_pos q,q]
    . rw[if_neg q,if_neg q]
 rw[←det_flip k fun x y=>M x (s y),←det_flip k fun x y=>M x (s (if y=0 then y0 else if y=y0 then 0 else y))];have e:=j3 (A:=fun y x=>M x (s y)) (show 0<k by omega) h0 (fun q=>z q.symm) (fun x=>M x (s 0)) (fun x=>M x (s y0))
 have e1:Cd (Cd (fun y x=>M x (s y)) 0 fun x=>M x (s 0)) y0 (fun x=>M x (s y0))=fun y x=>M x (s y):=by
  rw[show Cd (fun y x=>M x (s y)) 0 (fun x=>M x (s 0))=fun y x=>M x (s y) from F0 (fun y x=>M x (s y)) 0];exact F0 (fun y x=>M x (s y)) y0
 have e2:Cd (Cd (fun y x=>M x (s y)) 0 fun x=>M x (s y0)) y0 (fun x=>M x (s 0))=fun y x=>M x (s (if y=0 then y0 else if y=y0 then 0 else y)):=by
  funext y x
  unfold Cd;by_cases q:y=y0
  . rw[if_pos q,if_neg (by omega),if_pos q]
  . rw[if_neg q];by_cases q2:y=0
    . rw[if_pos q2,if_pos q2]
    . rw[if_neg q2,if_neg q2,if_neg q]
 rw[e1,e2]at e;show(det k fun y x=>M x (s (if y=0 then y0 else if y=y0 then 0 else y))).natAbs=(det k fun y x=>M x (s y)).natAbs;rw[e,qb4]
theorem Rf{n w D:Nat}{A:Mat}(h:Mins n w A D):∀(k:Nat) (r s:Nat->Nat),(∀x,x<k->r x<n)->(∀y,y<k->s y<w+n)->(det k fun x y=>beside w A one (r x) (s y)).natAbs<=D
 | 0,r,s,hr,hs=>h 0 r s hr fun y hy=>O9m
 | k+1,r,s,hr,hs=>by
   rcases mQ (k+1) r with⟨x,y,hx,hy,ne,e⟩ | inj
   . rw[det_alike hx hy ne fun z _=>by rw[e]];exact qa8 _
   by_cases z:∃y,y<k+1/\w<=s y
   . obtain⟨y0,hy,q⟩:=z;rw[←gS (fun x y=>beside w A one (r x) y) s hy]
     have first:∀s':Nat->Nat,w<=s' 0->(∀y,y<k+1->s' y<w+n)->(det (k+1) fun x y=>beside w A one (r x) (s' y)).natAbs<=D:=fun s' h0 hs'=>by
      show(Aq (fun i=>sgi i*beside w A one (r i) (s' 0)*det k (Fh (fun x y=>beside w A one (r x) (s' y)) i)) (k+1)).natAbs<=D;have ih:∀i,i<k+1->(det k (Fh (fun x y=>beside w A one (r x) (s' y)) i)).natAbs<=D:=fun i hi=>Rf h k (fun x=>r (if x<i then x else x+1)) (fun y=>s' (y+1)) (fun x hx=>hr _ (by split<;>omega)) fun y hy=>hs' _ O9m
      have cell:∀x,beside w A one (r x) (s' 0)=if r x=s' 0-w then 1 else 0:=fun x=>by
       unfold beside one;rw[if_neg (by omega)]
      by_cases z:∃i,i<k+1/\r i=s' 0-w
      . obtain⟨i,hi,e⟩:=z
        rw[Ch hi fun x hx ne=>by
         rw[cell,if_neg fun q=>ne (inj x i hx hi (q.trans e.symm))];simp]
        rw[qa9,qa9,Rw,qd1,cell,if_pos e];show 1*_<=D;rw[qd1];exact ih i hi
      . rw[B6 fun x hx=>by
         rw[cell,if_neg fun q=>z ⟨x,hx,q⟩];simp]
        exact qa8 _
     exact first (fun y=>s (if y=0 then y0 else if y=y0 then 0 else y)) q fun y hy'=>hs _ (by split;omega;split<;>omega)
   . have e:det (k+1) (fun x y=>beside w A one (r x) (s y))=det (k+1) fun x y=>A (r x) (s y):=Dc fun x y _ hy=>beside_lo (qh1 fun q=>z ⟨y,hy,q⟩);rw[e];exact h (k+1) r s hr fun y hy=>qh1 fun q=>z ⟨y,hy,q⟩
theorem Mins.dets{n w D:Nat}{A:Mat}(h:Mins n w A D):K8 n (fun c=>c<w+n) (beside w A one) D:=fun i hi s hs=>Rf h i (fun x=>x) s (fun x hx=>O9m) hs
end Lat
namespace Hb
open PySem L2
structure Uu(K:W.Frag)(H:Hp)(v:V)(n w:Nat)(t:TH):Prop where
 rep:Ke K H v t
 sz:rY t
 w60:w<=60
 good:Dm (w:Int) t=true->∃A:Lat.Mat,Rep K H v (dT n w A)/\n<=40/\G8 n w A (Zh n w A)
structure r6(K:W.Frag)(H:Hp)(u:V)(e:DE):Prop where
 rep:Fv K H u e
 sz:iH e
 bits:∀n:Nat,Dp (n:Int) e=true->∃(a:Addr) (x:Nat->Int),u=.ref a/\SqL K H a (VI n x)/\∀i,i<n->(x i).natAbs<2 ^ 200
section
variable(K:W.Frag)
noncomputable def Jz:Sp:=fun vs H Q _=>∃(v:V) (e:DE) (w:Int),vs=[v,.int w]/\Fv K H v e/\iH e/\∀H',Aj H H'->Q (.bl (Dp w e)) H'
noncomputable def Jy:Sp:=fun vs H Q _=>∃(v:V) (t:TH) (w:Int),vs=[v,.int w]/\Ke K H v t/\rY t/\∀H',Aj H H'->Q (.bl (Dm w t)) H'
end
section
variable(K:W.Frag)(C:Addr)
noncomputable def Fz:Sp:=fun vs H Q E=>∃(v:V) (n w:Nat) (t:TH),vs=[v,.int (w:Int)]/\Uu K H v n w t/\(Dm (w:Int) t=false->∀H',Aj H H'->E (.ref C) none H') ∧
 (Dm (w:Int) t=true->∀(A:Lat.Mat) (tp nm r1 D1 D2 b2:Addr) (k:Nat) (f:Nat->Int) (l r:Lat.Mat × Lat.Mat) (H':Hp),Rep K H v (dT n w A)->n<=40->Zh n w A k f l r->Lat.ChainTo k k f->k<=n->k<=w->aY K H H' tp nm r1 D1 D2 b2 n w k f l r->Q (.ref tp) H')
noncomputable def Rv:Sp:=fun vs H Q E=>∃(v:V) (n w:Nat) (t:TH),vs=[v,.int (w:Int)]/\Uu K H v n w t/\(Dm (w:Int) t=false->∀H',Aj H H'->E (.ref C) none H')/\(Dm (w:Int) t=true->∀(x:V) (H':Hp),Aj H H'->Q x H')
noncomputable def Sm(K:W.Frag)(CL CT C:Addr):Sp:=fun vs H Q E=>∃(p dx:Addr) (v:V) (n w:Nat) (t:TH),vs=[.ref p,v,.int (w:Int)]/\H p=some (.ins CT dx [])/\Uu K H v n w t/\(Dm (w:Int) t=false->∀H',Aj H H'->E (.ref C) none H')/\(Dm (w:Int) t=true->∀H',SameX p H H'->Q .non H')
noncomputable def Nn:Sp:=fun vs H Q E=>∃(v u:V) (n w:Nat) (t:TH) (e:DE),vs=[v,.int (w:Int),u]/\Uu K H v n w t/\r6 K H u e ∧
 ((Dm (w:Int) t&&Dp (n:Int) e)=false->∀H',Aj H H'->E (.ref C) none H')/\((Dm (w:Int) t&&Dp (n:Int) e)=true->∀(A:Lat.Mat) (a:Addr) (x:Nat->Int) (tp nm r1 D1 D2 b2:Addr) (k:Nat) (f:Nat->Int) (l r:Lat.Mat × Lat.Mat) (H':Hp),u=.ref a->SqL K H a (VI n x)->(∀i,i<n->(x i).natAbs<2 ^ 200)->n<=40->Zh n w A k f l r->k<=n->k<=w->Pw K H' tp nm r1 D1 D2 b2 n w k f l r->Aj H H'->Q (.ref tp) H')
noncomputable def Oq:Sp:=fun vs H Q E=>∃(v u:V) (n w:Nat) (t:TH) (e:DE),vs=[v,.int (w:Int),u]/\Uu K H v n w t/\r6 K H u e ∧
 ((Dm (w:Int) t&&Dp (n:Int) e)=false->∀H',Aj H H'->E (.ref C) none H')/\((Dm (w:Int) t&&Dp (n:Int) e)=true->∀(x:V) (H':Hp),Aj H H'->Q x H')
end
end Hb
namespace L2
open PySem PySem.Spec PyProof.Rows
section
variable{P:Program}{w:World}{K:W.Frag}{mg:Str->Option Value}{base:Heap}{ds:List Value}
end
end L2
namespace L2
open PySem PySem.Spec PyProof.Rows PySem.W
section
variable{X:Cx}{J:XJ}{j k:Nat}{C:Addr}{ps:List Str}{sp:Sp}{m:Str}{pos apos:Pos}{e o:Expr}{es:List Expr}{ta:TE}{t:TA}
end
section
variable{P:Program}{w:World}{K:Frag}{mg:Str->Option Value}{base:Heap}{ds:List Value}
end
structure HasCX(P:Program)(w:World)(K:Frag)(mg:Str->Option Value)(base:Heap)(C:Addr)(ps:List Str)(k:Nat)(sp:Sp):Prop where
 ex:∃(f:Addr) (fd:FuncData),Mk K C f/\Gb K fd ps []/\Cj P w K mg base (Zi P w) k f fd ps sp
noncomputable def LQ(C:Addr)(sp:Sp)(J:XJ)(t:TA):TE:=fun σ H Q=>t σ H fun vs H1=>∀x dx,H1 x=none->H1 dx=none->dx≠x →
 sp (.ref x::vs) (upd (upd H1 dx (.own x)) x (.ins C dx [])) (fun v H2=>v=.non/\Q (.ref x) H2) (fun cls ed H3=>J cls ed σ H3)
section
variable{X:Cx}{J:XJ}{j k:Nat}{C:Addr}{ps:List Str}{dvs:List V}{sp:Sp}{m x:Str}{p pos apos:Pos}{e o:Expr}{es:List Expr}{ta:TE}{t:TA}
theorem cR{Ab:LAObj}{σ:St}{H:Hp}{s:Shared}{Q:VK}{us:List Value}{vs:List V}{f:Addr}{fd:FuncData}(M:Mk X.K C f)(F:Cj X.prog X.w X.K X.mg X.base (Zi X.prog X.w) k f fd ps sp)(hr:Eg (k+1) X.A)(hb:Gb X.K fd ps [])(hx:W2 X J)
 (I:Bu X Ab σ H s) (r:Cg vs us)
 (h:∀x dx,H x=none->H dx=none->dx≠x->sp (.ref x::vs) (upd (upd H dx (.own x)) x (.ins C dx [])) (fun v H2=>v=.non/\Q (.ref x) H2) (fun cls ed H3=>J cls ed σ H3)) :
 wpAny (model X.prog X.w) X.A (call (.ref C) us) (EP X Ab σ Q) X.xe s:=by
 have hq:=h (s.heap.objs.size+1) s.heap.objs.size (I.hok.fresh (qk3 _)) (I.hok.fresh (qa0 _)) (qb8 (qo5 _));have I2:=Bu.made (C:=C) I;have r2:Cg (V.ref (s.heap.objs.size+1)::vs) (Value.ref (s.heap.objs.size+1)::us):=.cons rfl r
 have hl:(Value.ref (s.heap.objs.size+1)::us).length=ps.length:=by
  have e:=r2.length;rw[F.len _ _ _ _ hq]at e;exact e.symm
 have hb1:=hb _ (Value.ref (s.heap.objs.size+1)::us) I2.kIn (by rw[qh4];exact hl);rw[qh4]at hb1
 refine wpAny_call (d6 (f:=f) I.kIn M.makes M.init (qn3.mp M.fn) (codeAny_mono (F.run _ X.stack _ _ ⟨Value.ref (s.heap.objs.size+1)::us,[]⟩ (Value.ref (s.heap.objs.size+1)::us) _ _ _ (hr.make C us [])
  (I2.env0.make C us []) hb1 r2 hq) fun r s' hq'=>?_))
 cases r with
 | error u =>
   obtain⟨e,cls,a0,B,H',dx,rfl,q1,q2,q3,q4,q5,dE,q6⟩:=hq';exact hx _ _ ⟨e,cls,a0,dx,σ,H',rfl,⟨B,_,_,I2.nopin,q1,q2,q3,q4,q5,dE⟩,q6⟩
 | ok fl =>
   cases fl with
   | ret u =>
     obtain⟨v,H',I3,rv,ev,q3⟩:=I2.after hq';subst ev;exact⟨rv,⟨V.ref (s.heap.objs.size+1),H',I3,rfl,q3⟩⟩
   | next=>exact False.elim hq'
   | brk=>exact False.elim hq'
   | cont=>exact False.elim hq'
theorem fO(hx:W2 X J)(h:HasCX X.prog X.w X.K X.mg X.base C ps j sp)(hr:Eg k X.A)(hg:Gl X x)(hm:X.mg x=some (.ref C))(ha:PA X (e::es) t)(hk:j+1<=k:=by decide)(hdb:(x==("__debug__":Str))=false:=by decide)
 (he:starEach (e::es) X.env=(false,eval e X.env)::starEach es X.env:=by rfl) (hpl:(backTo pos (starEach es X.env)).any (·.1)=false:=by rfl):PE X (.Call (.Name x p) (e::es) [] pos) (LQ C sp J t):=by
 obtain⟨f,fd,M,hb,F⟩:=h.ex;intro Ab s σ H Q I hw;refine qi1 (Hn I hg hm ?_ hdb);refine qh9 (h₀:=X.base) I.ok.mod.kin M.kp (Ed (ha pos Ab s σ H _ I hw) fun us s1 ⟨vs,H1,I1,r,q⟩=>⟨I1.kIn,?_⟩) he hpl;exact cR M F (hr.mono hk) hb hx I1 r q
end
end L2
namespace L2
open PySem PySem.Spec PyProof.Rows
theorem Wb{X:Cx}{e:Expr}{es:List Expr}{te:TE}{t:TA}(ha:nG X e te)(hr:LG X es t)(hs:starEach (e::es) X.env=(false,eval e X.env)::starEach es X.env:=by rfl):LG X (e::es) (fD te t):=⟨Aa ha.h hr.h hs⟩
theorem IW{X:Cx}{es:List Expr}{pos:Pos}{t:TA}(h:LG X es t):nG X (.List es pos) (oK t):=⟨Fn h.h⟩
theorem iW{X:Cx}{a b:Expr}{ta tb:TE}{pos:Pos}{op:Operator}{r:R2}(ho:Pr X (binaryOp op) r)(ha:PE X a ta)(hb:nG X b tb):nG X (.BinOp a op b pos) (lQ r ta tb):=⟨Bn ho ha hb.h⟩
end L2
namespace Hb
open PySem L2
noncomputable def nV(e:DE):Prop:=∀w:Int,Dp w e=true->∃ns:List Int,e=.d (.lst (Ea ns))/\∀n∈ns,n.natAbs<=4
structure IA(e:DE):Prop where
 sz:iH e
 fin:L2.Fin 10000 4 (Dx e)
 sm:nV e
noncomputable def NU(h:Nat)(t:TH):Prop:=∀es,t=.rows es->es.length=h/\∀e∈es,nV e
theorem UA{ps:List PyData}(h:∀p∈ps,L2.Fin 220 2 p)(hl:ps.length<=42):L2.Fin 10000 4 (.list ps)/\L2.Fin 10000 4 (.tuple ps):=by
 obtain⟨h1,h2,h3,h4⟩:=Rz h;have h5:=listText_len_le (PyData.shownAll ps);have h7:=tupleText_len_le (PyData.shownAll ps);refine⟨⟨by simpa only[PyData.showable]using h1,?_,by simp only[PyData.depth];omega⟩,⟨by simpa only[PyData.showable]using h1,?_,by simp only[PyData.depth];omega⟩⟩
 . simp only[PyData.shown];omega
 . simp only[PyData.shown];omega
theorem sH{ds:List L2.D}(hl:ds.length<=42)(h:∀d∈ds,Ml d):L2.Fin 10000 4 (Dx (.d (.lst ds)))/\L2.Fin 10000 4 (Dx (.d (.tup ds))):=by
 refine UA (ps:=toPDs ds) (fun p hp=>?_) (by rw[Ij,qa2];exact hl);rw[Ij]at hp;obtain⟨d,hd,rfl⟩:=qf7.mp hp;exact(h d hd).1
theorem No{ns:List Int}(h:∀n∈ns,n.natAbs<=4):∀d∈Ea ns,Ml d:=Wm fun n hn=>qa4 (h n hn) (by decide)
theorem Ov{ns:List Int}(hl:ns.length<=42)(h:∀n∈ns,n.natAbs<=4):IA (.d (.lst (Ea ns))) :=
 ⟨by show(Ea ns).length<=1000;rw[show(Ea ns).length=ns.length from qa2 ..];omega,(sH (by rw[show(Ea ns).length=ns.length from qa2 ..];exact hl) (No h)).1,fun _ _=>⟨ns,rfl,h⟩⟩
theorem BJ{ns:List Int}(hl:ns.length<=42)(h:∀n∈ns,n.natAbs<=4):IA (.d (.tup (Ea ns))) :=
 ⟨trivial,(sH (by rw[show(Ea ns).length=ns.length from qa2 ..];exact hl) (No h)).2,fun _ z=>by cases z⟩
theorem Gf{e:DE}(h1:X9 "list" e=false)(h2:L2.Fin 220 2 (Dx e)):IA e :=
 ⟨by cases e with
  | nul=>trivial
  | d d=>cases d<;>first | trivial | (simp[X9,g7]at h1),h2.mono (by decide) (by decide),fun w z=>by rw[S9 (by rw[h1];decide)]at z;cases z⟩
theorem jC{ns:List Int}{j:Nat}{d:L2.D}(hl:ns.length<=42)(h:∀n∈ns,n.natAbs<=4)(hj:j<ns.length)(gd:Ml d)(hw:Di d=false):IA (.d (.lst ((Ea ns).set j d))):=by
 have hl2:((Ea ns).set j d).length=ns.length:=by rw[qi2];exact qa2 ..
 refine⟨by show((Ea ns).set j d).length<=1000;omega,(sH O9m fun x hx=>?_).1,fun w z=>?_⟩
 . rcases qg6 hx with hx | rfl
   . exact No h x hx
   . exact gd
 . have:(decide ((((Ea ns).set j d).length:Int)=w)&&((Ea ns).set j d).all Di)=true:=z;rw[Y8 (i:=j) (x:=d) (by rw[qo8 (by rw[show(Ea ns).length=ns.length from qa2 ..];exact hj)]) hw,qn1]at this;cases this
noncomputable def Nb(e:DE)(j:Nat):Int:=match e with
 | .d (.lst ds)=>(match ds[j]? with | some (.int n)=>n | _=>0)
 | _=>0
theorem Tv(ns:List Int)(j:Nat):Nb (.d (.lst (Ea ns))) j=ns.getD j 0:=by
 show(match (Ea ns)[j]? with | some (.int n)=>n | _=>0)=_;rw[show(Ea ns)[j]?=(ns[j]?).map L2.D.int from qb7 ..,qd5];cases ns[j]?<;>rfl
theorem nV.row{w:Nat}{e:DE}(h:nV e)(hr:Dp (w:Int) e=true):e=.d (dL w (Nb e))/\∀j,(Nb e j).natAbs<=4:=by
 obtain⟨ns,rfl,hn⟩:=h w hr
 have hl:ns.length=w:=by
  have h1:(decide (((Ea ns).length:Int)=(w:Int))&&(Ea ns).all Di)=true:=hr;have h2:=qc2 (qm4.mp h1).1;rw[show(Ea ns).length=ns.length from qa2 ..]at h2;omega
 refine⟨?_,fun j=>?_⟩
 . unfold dL
   rw[show Ga w (Nb (.d (.lst (Ea ns))))=ns by
    rw[←hl];exact(We fun i _=>Tv ns i).trans (mK ns)]
 . rw[Tv,qd5];cases hj:ns[j]? with
   | none=>decide
   | some x=>exact hn x (qe2 hj)
theorem IA.askW{K:W.Frag}{H:Hp}{u:V}{e:DE}(h:IA e)(hr:Fv K H u e):r6 K H u e where
 rep:=hr
 sz:=h.sz
 bits:=fun n hn=>by
  obtain⟨e1,e2⟩:=h.sm.row hn;rw[e1]at hr;obtain⟨a,rfl,ha⟩:=lD (show Rep K H u (dL n (Nb e)) from hr);exact⟨a,_,rfl,ha,fun i _=>qa4 (e2 i) (by decide)⟩
theorem pI{n:Nat}{A:Lat.Mat}(hA:∀i j,(A i j).natAbs<=4):Lat.Mins n 1 A (2 ^ 2):=fun k r c hr hc=>by
 rw[←Lat.det_flip]
 match k,hr,hc with
 | 0,_,_=>exact(by decide:(1:Int).natAbs<=2 ^ 2)
 | 1,hr,hc =>
   rw[show Lat.det 1 (fun x y=>A (r y) (c x))=A (r 0) (c 0) by simp[Lat.det,Aq,Lat.sgi]];exact hA _ _
 | k+2,hr,hc =>
   rw[Lat.det_alike (n:=k+2) (p:=0) (q:=1) (by omega) (by omega) (by decide) fun z _=>by
    have h0:=hc 0 (by omega);have h1:=hc 1 (by omega);show A (r z) (c 0)=A (r z) (c 1);rw[show c 0=c 1 by omega]]
   decide
noncomputable def Zd(h w:Nat):Prop:=(h<=4/\w<=4)\/(h<=41/\w=1)
theorem wV:(Pj 41 fun n=>bJ n 1 2 2 8 43 8 8 10 3957 18)=true:=by decide +kernel
theorem Zd.plan{h w:Nat}{A:Lat.Mat}(s:Zd h w)(TX:h<=40)(hA:∀i j,(A i j).natAbs<=4):G8 h w A (Zh h w A):=by
 rcases s with⟨h1,h2⟩|⟨h1,rfl⟩
 . exact cV (F7 (F7 SE h O9m) w O9m) fun i j _ _=>qa1 (hA i j) (by decide)
 . have p:=Z6 (F7 wV h O9m);exact(Uh p (fun i j _ _=>hA i j) (pI hA).dets).mono fun _ _ _ _ z=>⟨_,HR (qa0 _) (qa1 p.π9 (by decide)),z⟩
theorem NU.ask{K:W.Frag}{H:Hp}{v:V}{h w:Nat}{t:TH}(s:NU h t)(f:Nl t)(z:Zd h w)(hr:Ke K H v t):Uu K H v h w t where
 rep:=hr
 sz:=f.sz
 w60:=by rcases z with⟨_,_⟩|⟨_,_⟩<;>omega
 good:=fun hb=>by
  cases t with
  | one e=>cases (show false=true from hb)
  | rows es =>
    obtain⟨hl,hs⟩:=s es rfl;obtain⟨b1,b2⟩:=qm4.mp (show(decide (es.length<=40)&&es.all (Dp (w:Int)))=true from hb);have TX:h<=40:=by have:=qc2 b1;omega
    obtain⟨a,vs,rfl,hq,hvs⟩:=hr
    have uV:∀i,i<h->es.getD i .nul=.d (dL w (Nb (es.getD i .nul)))/\∀j,(Nb (es.getD i .nul) j).natAbs<=4:=fun i hi=>by
     have hm:es.getD i .nul∈es:=by rw[qd5,qb0 (by omega)];exact qk0 _
     exact(hs _ hm).row (qh8.mp b2 _ hm)
    refine⟨fun i j=>if i<h then Nb (es.getD i .nul) j else 0,⟨a,vs,rfl,hq,?_⟩,TX,z.plan TX fun i j=>?_⟩
    . refine Xl (by rw[hvs.len,hl];simp) fun i u d h1 h2=>?_;obtain⟨e,he,rG⟩:=hvs.get h1;have hi:i<h:=by rw[←hl];exact(qb2.mp he).1
      have ee:es.getD i .nul=e:=by rw[qd5,he];rfl
      have hd:d=dL w (fun j=>if i<h then Nb (es.getD i .nul) j else 0):=by
       rw[qb7,qk5 hi]at h2;simpa using h2.symm
      have e1:=(uV i hi).1;rw[ee]at e1;rw[hd,ee];simp only[if_pos hi];rw[e1]at rG;exact rG
    . show(if i<h then Nb (es.getD i .nul) j else 0).natAbs<=4;by_cases hi:i<h
      . rw[if_pos hi];exact(uV i hi).2 j
      . rw[if_neg hi];decide
theorem Uu.same{K:W.Frag}{H H':Hp}{v:V}{h w:Nat}{t:TH}(s:Aj H H')(a:Uu K H v h w t):Uu K H' v h w t :=
 ⟨Ke.same s a.rep,a.sz,a.w60,fun hb=>by obtain⟨A,h1,h2,h3⟩:=a.good hb;exact⟨A,Rep.same s h1,h2,h3⟩⟩
theorem r6.same{K:W.Frag}{H H':Hp}{u:V}{e:DE}(s:Aj H H')(a:r6 K H u e):r6 K H' u e :=
 ⟨Fv.same s a.rep,a.sz,fun n hb=>by obtain⟨x,y,h1,h2,h3⟩:=a.bits n hb;exact⟨x,y,h1,s.seq h2,h3⟩⟩
noncomputable def Hh(which:Int)(h w:Nat)(t:TH)(e:DE):Bool:=Dm (w:Int) t&&(if which=2\/which=3 then Dp (h:Int) e else true)
noncomputable def c9:List Bool:=(List.range 16).map fun k=>decide (k=0) || decide (k=6)
noncomputable def kN(n:Int):List Bool:=(List.range 16).map fun(k:Nat)=>(Ea [0,n]).any fun e=>eqD e (.int (k:Int))
theorem fT:kN 6=c9:=by decide
theorem kL{K:W.Frag}{H:Hp}:∀bs:List Bool,Reps K H (bs.map V.bl) (bs.map L2.D.bl)
 | []=>rfl
 | b::bs=>⟨.bl b,bs.map V.bl,rfl,rfl,kL bs⟩
theorem oR{K:W.Frag}{H:Hp}{a:Addr}{bs:List Bool}(h:H a=some (.lst (bs.map V.bl))):Rep K H (.ref a) (.lst (bs.map L2.D.bl)):=⟨a,_,rfl,.of h,kL bs⟩
theorem lC:∀bs:List Bool,deps (bs.map L2.D.bl)=0
 | []=>rfl
 | b::bs=>by show max (dep (.bl b)) (deps (bs.map L2.D.bl))=0;rw[lC bs];rfl
theorem BE{α:Type}{xs:List α}{r:Nat}{v:α}(h:r<xs.length):xs.take r++[v]++xs.drop (r+1)=xs.set r v:=by
 rw[List.set_eq_take_append_cons_drop,if_pos h,qo1];rfl
section
variable(K:W.Frag)
noncomputable def W9:Sp:=fun vs H Q _=>∃(a:Addr) (ns:List Int) (way to:Int),vs=[.ref a,.int way,.int to]/\SqL K H a (ns.map V.int)/\ns.length<=41/\(∀n∈ns,n.natAbs<=4) ∧
 ∀(v:V) (e:DE) (H':Hp),Aj H H'->Fv K H' v e->IA e->Q v H'
noncomputable def Sn:Sp:=fun vs H Q _=>∃(u:V) (way to:Int) (h w:Nat) (f:Nat->Nat->Int),vs=[u,.int way,.int to]/\Rep K H u (dT h w f)/\h<=41/\w<=40/\(∀i j,(f i j).natAbs<=4) ∧
 ∀(v:V) (t:TH) (H':Hp),Aj H H'->Ke K H' v t->Nl t->NU h t->Q v H'
noncomputable def V3(_K:W.Frag)(C:Addr):Sp:=fun vs H Q _=>∃(e:Addr),vs=[.ref e]/\H e=some (JS e (.ref C))/\∀(M:Addr) (H':Hp),Aj H H'->H' M=some (.lst (c9.map V.bl))->Q (.ref M) H'
noncomputable def Zr(_K:W.Frag):Sp:=fun vs H Q _=>∃(n:Int),vs=[.int n]/\∀(M:Addr) (H':Hp),Aj H H'->H' M=some (.lst ((kN n).map V.bl))->Q (.ref M) H'
noncomputable def Zs(C:Addr):Sp:=fun vs H Q E=>∃(which:Int) (v u:V) (h w:Nat) (t:TH) (e:DE),vs=[.int which,v,.int (w:Int),u]/\Uu K H v h w t/\r6 K H u e ∧
 (Hh which h w t e=false->∀H',Aj H H'->E (.ref C) none H')/\(Hh which h w t e=true->∀H',Aj H H'->Q .non H')
noncomputable def V4:Sp:=fun vs H Q _=>∃(which:Int) (v u:V) (h w:Nat) (t:TH) (e:DE),vs=[.int which,v,.int (w:Int),u]/\Uu K H v h w t/\r6 K H u e/\∀H',Aj H H'->Q (.int (if Hh which h w t e then 0 else 1)) H'
end
theorem K9{S:St}{p0:Hp->Prop}{G:St->Hp->Prop}(k:∀H,p0 H->G S H):∀σ H,(σ=S/\p0 H)->G σ H:=by
 rintro _ H ⟨rfl,h0⟩;exact k H h0
theorem Q3{S:St}{p0 p1:Hp->Prop}{G:St->Hp->Prop}(k:∀H,p0 H->p1 H->G S H):∀σ H,(σ=S/\p0 H/\p1 H)->G σ H:=by
 rintro _ H ⟨rfl,h0,h1⟩;exact k H h0 h1
theorem R8{A0:Type}{S:A0->St}{p0 p1:A0->Hp->Prop}{G:St->Hp->Prop}(k:∀x0 H,p0  x0 H->p1  x0 H->G (S x0) H):∀σ H,(∃x0,σ=S x0/\p0 x0 H/\p1 x0 H)->G σ H:=by
 rintro _ H ⟨x0,rfl,h0,h1⟩;exact k x0 H h0 h1
theorem AZ{A0:Type}{S:A0->St}{p0 p1 p2:A0->Hp->Prop}{G:St->Hp->Prop}(k:∀x0 H,p0  x0 H->p1  x0 H->p2  x0 H->G (S x0) H):∀σ H,(∃x0,σ=S x0/\p0 x0 H/\p1 x0 H/\p2 x0 H)->G σ H:=by
 rintro _ H ⟨x0,rfl,h0,h1,h2⟩;exact k x0 H h0 h1 h2
theorem aZ{A0:Type}{S:A0->St}{p0 p1 p2 p3 p4 p5:A0->Hp->Prop}{G:St->Hp->Prop}(k:∀x0 H,p0  x0 H->p1  x0 H->p2  x0 H->p3  x0 H->p4  x0 H->p5  x0 H->G (S x0) H):∀σ H,(∃x0,σ=S x0/\p0 x0 H/\p1 x0 H/\p2 x0 H/\p3 x0 H/\p4 x0 H/\p5 x0 H)->G σ H:=by
 rintro _ H ⟨x0,rfl,h0,h1,h2,h3,h4,h5⟩;exact k x0 H h0 h1 h2 h3 h4 h5
theorem KG{A0 A1:Type}{S:A0->A1->St}{p0:A0->A1->Hp->Prop}{G:St->Hp->Prop}(k:∀x0 x1 H,p0  x0 x1 H->G (S x0 x1) H):∀σ H,(∃x0 x1,σ=S x0 x1/\p0 x0 x1 H)->G σ H:=by
 rintro _ H ⟨x0,x1,rfl,h0⟩;exact k x0 x1 H h0
theorem kG{A0 A1:Type}{S:A0->A1->St}{p0 p1:A0->A1->Hp->Prop}{G:St->Hp->Prop}(k:∀x0 x1 H,p0  x0 x1 H->p1  x0 x1 H->G (S x0 x1) H):∀σ H,(∃x0 x1,σ=S x0 x1/\p0 x0 x1 H/\p1 x0 x1 H)->G σ H:=by
 rintro _ H ⟨x0,x1,rfl,h0,h1⟩;exact k x0 x1 H h0 h1
theorem kF{A0 A1:Type}{S:A0->A1->St}{p0 p1 p2:A0->A1->Hp->Prop}{G:St->Hp->Prop}(k:∀x0 x1 H,p0  x0 x1 H->p1  x0 x1 H->p2  x0 x1 H->G (S x0 x1) H):∀σ H,(∃x0 x1,σ=S x0 x1/\p0 x0 x1 H/\p1 x0 x1 H/\p2 x0 x1 H)->G σ H:=by
 rintro _ H ⟨x0,x1,rfl,h0,h1,h2⟩;exact k x0 x1 H h0 h1 h2
theorem oF{A0 A1:Type}{S:A0->A1->St}{p0 p1 p2 p3:A0->A1->Hp->Prop}{G:St->Hp->Prop}(k:∀x0 x1 H,p0  x0 x1 H->p1  x0 x1 H->p2  x0 x1 H->p3  x0 x1 H->G (S x0 x1) H):∀σ H,(∃x0 x1,σ=S x0 x1/\p0 x0 x1 H/\p1 x0 x1 H/\p2 x0 x1 H/\p3 x0 x1 H)->G σ H:=by
 rintro _ H ⟨x0,x1,rfl,h0,h1,h2,h3⟩;exact k x0 x1 H h0 h1 h2 h3
theorem OE{A0 A1 A2:Type}{S:A0->A1->A2->St}{p0 p1:A0->A1->A2->Hp->Prop}{G:St->Hp->Prop}(k:∀x0 x1 x2 H,p0  x0 x1 x2 H->p1  x0 x1 x2 H->G (S x0 x1 x2) H):∀σ H,(∃x0 x1 x2,σ=S x0 x1 x2/\p0 x0 x1 x2 H/\p1 x0 x1 x2 H)->G σ H:=by
 rintro _ H ⟨x0,x1,x2,rfl,h0,h1⟩;exact k x0 x1 x2 H h0 h1
theorem oE{A0 A1 A2:Type}{S:A0->A1->A2->St}{p0 p1 p2:A0->A1->A2->Hp->Prop}{G:St->Hp->Prop}(k:∀x0 x1 x2 H,p0  x0 x1 x2 H->p1  x0 x1 x2 H->p2  x0 x1 x2 H->G (S x0 x1 x2) H):∀σ H,(∃x0 x1 x2,σ=S x0 x1 x2/\p0 x0 x1 x2 H/\p1 x0 x1 x2 H/\p2 x0 x1 x2 H)->G σ H:=by
 rintro _ H ⟨x0,x1,x2,rfl,h0,h1,h2⟩;exact k x0 x1 x2 H h0 h1 h2
theorem OD{A0 A1 A2:Type}{S:A0->A1->A2->St}{p0 p1 p2 p3 p4:A0->A1->A2->Hp->Prop}{G:St->Hp->Prop}(k:∀x0 x1 x2 H,p0  x0 x1 x2 H->p1  x0 x1 x2 H->p2  x0 x1 x2 H->p3  x0 x1 x2 H->p4  x0 x1 x2 H->G (S x0 x1 x2) H):∀σ H,(∃x0 x1 x2,σ=S x0 x1 x2/\p0 x0 x1 x2 H/\p1 x0 x1 x2 H/\p2 x0 x1 x2 H/\p3 x0 x1 x2 H/\p4 x0 x1 x2 H)->G σ H:=by
 rintro _ H ⟨x0,x1,x2,rfl,h0,h1,h2,h3,h4⟩;exact k x0 x1 x2 H h0 h1 h2 h3 h4
theorem OC{A0 A1 A2 A3:Type}{S:A0->A1->A2->A3->St}{p0:A0->A1->A2->A3->Hp->Prop}{G:St->Hp->Prop}(k:∀x0 x1 x2 x3 H,p0  x0 x1 x2 x3 H->G (S x0 x1 x2 x3) H):∀σ H,(∃x0 x1 x2 x3,σ=S x0 x1 x2 x3/\p0 x0 x1 x2 x3 H)->G σ H:=by
 rintro _ H ⟨x0,x1,x2,x3,rfl,h0⟩;exact k x0 x1 x2 x3 H h0
theorem OB{A0 A1 A2 A3:Type}{S:A0->A1->A2->A3->St}{p0 p1 p2:A0->A1->A2->A3->Hp->Prop}{G:St->Hp->Prop}(k:∀x0 x1 x2 x3 H,p0  x0 x1 x2 x3 H->p1  x0 x1 x2 x3 H->p2  x0 x1 x2 x3 H->G (S x0 x1 x2 x3) H):∀σ H,(∃x0 x1 x2 x3,σ=S x0 x1 x2 x3/\p0 x0 x1 x2 x3 H/\p1 x0 x1 x2 x3 H/\p2 x0 x1 x2 x3 H)->G σ H:=by
 rintro _ H ⟨x0,x1,x2,x3,rfl,h0,h1,h2⟩;exact k x0 x1 x2 x3 H h0 h1 h2
theorem KD{A0 A1 A2 A3:Type}{S:A0->A1->A2->A3->St}{p0 p1 p2 p3 p4:A0->A1->A2->A3->Hp->Prop}{G:St->Hp->Prop}(k:∀x0 x1 x2 x3 H,p0  x0 x1 x2 x3 H->p1  x0 x1 x2 x3 H->p2  x0 x1 x2 x3 H->p3  x0 x1 x2 x3 H->p4  x0 x1 x2 x3 H->G (S x0 x1 x2 x3) H):∀σ H,(∃x0 x1 x2 x3,σ=S x0 x1 x2 x3/\p0 x0 x1 x2 x3 H/\p1 x0 x1 x2 x3 H/\p2 x0 x1 x2 x3 H/\p3 x0 x1 x2 x3 H/\p4 x0 x1 x2 x3 H)->G σ H:=by
 rintro _ H ⟨x0,x1,x2,x3,rfl,h0,h1,h2,h3,h4⟩;exact k x0 x1 x2 x3 H h0 h1 h2 h3 h4
theorem oB{A0 A1 A2 A3 A4 A5:Type}{S:A0->A1->A2->A3->A4->A5->St}{p0 p1 p2 p3:A0->A1->A2->A3->A4->A5->Hp->Prop}{G:St->Hp->Prop}(k:∀x0 x1 x2 x3 x4 x5 H,p0  x0 x1 x2 x3 x4 x5 H->p1  x0 x1 x2 x3 x4 x5 H->p2  x0 x1 x2 x3 x4 x5 H->p3  x0 x1 x2 x3 x4 x5 H->G (S x0 x1 x2 x3 x4 x5) H):∀σ H,(∃x0 x1 x2 x3 x4 x5,σ=S x0 x1 x2 x3 x4 x5/\p0 x0 x1 x2 x3 x4 x5 H/\p1 x0 x1 x2 x3 x4 x5 H/\p2 x0 x1 x2 x3 x4 x5 H/\p3 x0 x1 x2 x3 x4 x5 H)->G σ H:=by
 rintro _ H ⟨x0,x1,x2,x3,x4,x5,rfl,h0,h1,h2,h3⟩;exact k x0 x1 x2 x3 x4 x5 H h0 h1 h2 h3
theorem kD{A0 A1 A2 A3 A4 A5 A6 A7:Type}{S:A0->A1->A2->A3->A4->A5->A6->A7->St}{p0 p1 p2 p3 p4 p5 p6 p7:A0->A1->A2->A3->A4->A5->A6->A7->Hp->Prop}{G:St->Hp->Prop}(k:∀x0 x1 x2 x3 x4 x5 x6 x7 H,p0  x0 x1 x2 x3 x4 x5 x6 x7 H->p1  x0 x1 x2 x3 x4 x5 x6 x7 H->p2  x0 x1 x2 x3 x4 x5 x6 x7 H->p3  x0 x1 x2 x3 x4 x5 x6 x7 H->p4  x0 x1 x2 x3 x4 x5 x6 x7 H->p5  x0 x1 x2 x3 x4 x5 x6 x7 H->p6  x0 x1 x2 x3 x4 x5 x6 x7 H->p7  x0 x1 x2 x3 x4 x5 x6 x7 H->G (S x0 x1 x2 x3 x4 x5 x6 x7) H):∀σ H,(∃x0 x1 x2 x3 x4 x5 x6 x7,σ=S x0 x1 x2 x3 x4 x5 x6 x7/\p0 x0 x1 x2 x3 x4 x5 x6 x7 H/\p1 x0 x1 x2 x3 x4 x5 x6 x7 H/\p2 x0 x1 x2 x3 x4 x5 x6 x7 H/\p3 x0 x1 x2 x3 x4 x5 x6 x7 H/\p4 x0 x1 x2 x3 x4 x5 x6 x7 H/\p5 x0 x1 x2 x3 x4 x5 x6 x7 H/\p6 x0 x1 x2 x3 x4 x5 x6 x7 H/\p7 x0 x1 x2 x3 x4 x5 x6 x7 H)->G σ H:=by
 rintro _ H ⟨x0,x1,x2,x3,x4,x5,x6,x7,rfl,h0,h1,h2,h3,h4,h5,h6,h7⟩;exact k x0 x1 x2 x3 x4 x5 x6 x7 H h0 h1 h2 h3 h4 h5 h6 h7
theorem OA{A0 A1 A2 A3 A4 A5 A6 A7 A8:Type}{S:A0->A1->A2->A3->A4->A5->A6->A7->A8->St}{p0 p1 p2:A0->A1->A2->A3->A4->A5->A6->A7->A8->Hp->Prop}{G:St->Hp->Prop}(k:∀x0 x1 x2 x3 x4 x5 x6 x7 x8 H,p0  x0 x1 x2 x3 x4 x5 x6 x7 x8 H->p1  x0 x1 x2 x3 x4 x5 x6 x7 x8 H->p2  x0 x1 x2 x3 x4 x5 x6 x7 x8 H->G (S x0 x1 x2 x3 x4 x5 x6 x7 x8) H):∀σ H,(∃x0 x1 x2 x3 x4 x5 x6 x7 x8,σ=S x0 x1 x2 x3 x4 x5 x6 x7 x8/\p0 x0 x1 x2 x3 x4 x5 x6 x7 x8 H/\p1 x0 x1 x2 x3 x4 x5 x6 x7 x8 H/\p2 x0 x1 x2 x3 x4 x5 x6 x7 x8 H)->G σ H:=by
 rintro _ H ⟨x0,x1,x2,x3,x4,x5,x6,x7,x8,rfl,h0,h1,h2⟩;exact k x0 x1 x2 x3 x4 x5 x6 x7 x8 H h0 h1 h2
theorem lM{A0 A1 A2 A3 A4 A5 A6 A7 A8 A9 lI:Type}{S:A0->A1->A2->A3->A4->A5->A6->A7->A8->A9->lI->St}{p0 p1 p2 p3:A0->A1->A2->A3->A4->A5->A6->A7->A8->A9->lI->Hp->Prop}{G:St->Hp->Prop}(k:∀x0 x1 x2 x3 x4 x5 x6 x7 x8 x9 Fx H,p0  x0 x1 x2 x3 x4 x5 x6 x7 x8 x9 Fx H->p1  x0 x1 x2 x3 x4 x5 x6 x7 x8 x9 Fx H->p2  x0 x1 x2 x3 x4 x5 x6 x7 x8 x9 Fx H->p3  x0 x1 x2 x3 x4 x5 x6 x7 x8 x9 Fx H->G (S x0 x1 x2 x3 x4 x5 x6 x7 x8 x9 Fx) H):∀σ H,(∃x0 x1 x2 x3 x4 x5 x6 x7 x8 x9 Fx,σ=S x0 x1 x2 x3 x4 x5 x6 x7 x8 x9 Fx/\p0 x0 x1 x2 x3 x4 x5 x6 x7 x8 x9 Fx H/\p1 x0 x1 x2 x3 x4 x5 x6 x7 x8 x9 Fx H/\p2 x0 x1 x2 x3 x4 x5 x6 x7 x8 x9 Fx H/\p3 x0 x1 x2 x3 x4 x5 x6 x7 x8 x9 Fx H)->G σ H:=by
 rintro _ H ⟨x0,x1,x2,x3,x4,x5,x6,x7,x8,x9,Fx,rfl,h0,h1,h2,h3⟩;exact k x0 x1 x2 x3 x4 x5 x6 x7 x8 x9 Fx H h0 h1 h2 h3
theorem LL{A0 A1 A2 A3 A4 A5 A6 A7 A8 A9 lI:Type}{S:A0->A1->A2->A3->A4->A5->A6->A7->A8->A9->lI->St}{p0 p1 p2 p3 p4 p5 p6 p7:A0->A1->A2->A3->A4->A5->A6->A7->A8->A9->lI->Hp->Prop}{G:St->Hp->Prop}(k:∀x0 x1 x2 x3 x4 x5 x6 x7 x8 x9 Fx H,p0  x0 x1 x2 x3 x4 x5 x6 x7 x8 x9 Fx H->p1  x0 x1 x2 x3 x4 x5 x6 x7 x8 x9 Fx H->p2  x0 x1 x2 x3 x4 x5 x6 x7 x8 x9 Fx H->p3  x0 x1 x2 x3 x4 x5 x6 x7 x8 x9 Fx H->p4  x0 x1 x2 x3 x4 x5 x6 x7 x8 x9 Fx H->p5  x0 x1 x2 x3 x4 x5 x6 x7 x8 x9 Fx H->p6  x0 x1 x2 x3 x4 x5 x6 x7 x8 x9 Fx H->p7  x0 x1 x2 x3 x4 x5 x6 x7 x8 x9 Fx H->G (S x0 x1 x2 x3 x4 x5 x6 x7 x8 x9 Fx) H):∀σ H,(∃x0 x1 x2 x3 x4 x5 x6 x7 x8 x9 Fx,σ=S x0 x1 x2 x3 x4 x5 x6 x7 x8 x9 Fx/\p0 x0 x1 x2 x3 x4 x5 x6 x7 x8 x9 Fx H/\p1 x0 x1 x2 x3 x4 x5 x6 x7 x8 x9 Fx H/\p2 x0 x1 x2 x3 x4 x5 x6 x7 x8 x9 Fx H/\p3 x0 x1 x2 x3 x4 x5 x6 x7 x8 x9 Fx H/\p4 x0 x1 x2 x3 x4 x5 x6 x7 x8 x9 Fx H/\p5 x0 x1 x2 x3 x4 x5 x6 x7 x8 x9 Fx H/\p6 x0 x1 x2 x3 x4 x5 x6 x7 x8 x9 Fx H/\p7 x0 x1 x2 x3 x4 x5 x6 x7 x8 x9 Fx H)->G σ H:=by
 rintro _ H ⟨x0,x1,x2,x3,x4,x5,x6,x7,x8,x9,Fx,rfl,h0,h1,h2,h3,h4,h5,h6,h7⟩;exact k x0 x1 x2 x3 x4 x5 x6 x7 x8 x9 Fx H h0 h1 h2 h3 h4 h5 h6 h7
theorem EX{A0 A1 A2 A3 A4 A5 A6 A7 A8 A9 lI wG wF:Type}{S:A0->A1->A2->A3->A4->A5->A6->A7->A8->A9->lI->wG->wF->St}{p0 p1 p2 p3 p4 p5 p6 p7 p8:A0->A1->A2->A3->A4->A5->A6->A7->A8->A9->lI->wG->wF->Hp->Prop}{G:St->Hp->Prop}(k:∀x0 x1 x2 x3 x4 x5 x6 x7 x8 x9 Fx Sa R9 H,p0  x0 x1 x2 x3 x4 x5 x6 x7 x8 x9 Fx Sa R9 H->p1  x0 x1 x2 x3 x4 x5 x6 x7 x8 x9 Fx Sa R9 H->p2  x0 x1 x2 x3 x4 x5 x6 x7 x8 x9 Fx Sa R9 H->p3  x0 x1 x2 x3 x4 x5 x6 x7 x8 x9 Fx Sa R9 H->p4  x0 x1 x2 x3 x4 x5 x6 x7 x8 x9 Fx Sa R9 H->p5  x0 x1 x2 x3 x4 x5 x6 x7 x8 x9 Fx Sa R9 H->p6  x0 x1 x2 x3 x4 x5 x6 x7 x8 x9 Fx Sa R9 H->p7  x0 x1 x2 x3 x4 x5 x6 x7 x8 x9 Fx Sa R9 H->p8  x0 x1 x2 x3 x4 x5 x6 x7 x8 x9 Fx Sa R9 H->G (S x0 x1 x2 x3 x4 x5 x6 x7 x8 x9 Fx Sa R9) H):∀σ H,(∃x0 x1 x2 x3 x4 x5 x6 x7 x8 x9 Fx Sa R9,σ=S x0 x1 x2 x3 x4 x5 x6 x7 x8 x9 Fx Sa R9/\p0 x0 x1 x2 x3 x4 x5 x6 x7 x8 x9 Fx Sa R9 H/\p1 x0 x1 x2 x3 x4 x5 x6 x7 x8 x9 Fx Sa R9 H/\p2 x0 x1 x2 x3 x4 x5 x6 x7 x8 x9 Fx Sa R9 H/\p3 x0 x1 x2 x3 x4 x5 x6 x7 x8 x9 Fx Sa R9 H/\p4 x0 x1 x2 x3 x4 x5 x6 x7 x8 x9 Fx Sa R9 H/\p5 x0 x1 x2 x3 x4 x5 x6 x7 x8 x9 Fx Sa R9 H/\p6 x0 x1 x2 x3 x4 x5 x6 x7 x8 x9 Fx Sa R9 H/\p7 x0 x1 x2 x3 x4 x5 x6 x7 x8 x9 Fx Sa R9 H/\p8 x0 x1 x2 x3 x4 x5 x6 x7 x8 x9 Fx Sa R9 H)->G σ H:=by
 rintro _ H ⟨x0,x1,x2,x3,x4,x5,x6,x7,x8,x9,Fx,Sa,R9,rfl,h0,h1,h2,h3,h4,h5,h6,h7,h8⟩;exact k x0 x1 x2 x3 x4 x5 x6 x7 x8 x9 Fx Sa R9 H h0 h1 h2 h3 h4 h5 h6 h7 h8
theorem Eb{S:St}{G:St->Hp->Prop}{H0:Hp}(k:G S H0):∀σ H,(σ=S/\H0=H)->G σ H:=by
 rintro _ _ ⟨rfl,rfl⟩;exact k
theorem oG{S:St}{p0:Hp->Prop}{G:St->Hp->Prop}{H0:Hp}(k:p0 H0->G S H0):∀σ H,(σ=S/\H0=H/\p0 H)->G σ H:=by
 rintro _ _ ⟨rfl,rfl,h0⟩;exact k h0
theorem OF{A0 A1:Type}{S:A0->A1->St}{p0:A0->A1->Hp->Prop}{G:St->Hp->Prop}{H0:Hp}(k:∀x0 x1,p0  x0 x1 H0->G (S x0 x1) H0):∀σ H,(∃x0 x1,σ=S x0 x1/\H0=H/\p0 x0 x1 H)->G σ H:=by
 rintro _ _ ⟨x0,x1,rfl,rfl,h0⟩;exact k x0 x1 h0
end Hb
namespace L2
open PySem PySem.Spec PyProof.Rows
noncomputable def D9(K:W.Frag)(n:Str)(st:Stmt):Prop:=∃(f:Addr) (fd:FuncData),W.nsIn K mainGlobals n=some (some (.ref f))/\Ey K n n st f fd
noncomputable def Ox(K:W.Frag)(C:Addr)(n q:Str)(st:Stmt):Prop:=∃(f:Addr) (fd:FuncData),W.findIn K (.ref C) n=some (some (.ref f))/\W.isFn K (.ref f)=true/\Ey K n q st f fd
noncomputable def BA(x q:Str)(st:Stmt)(ps:List Str):Prop:=∀(kV doc pm:Value) (an:OAddr) (Dk ct:Value) (us:List Value),us.length=ps.length->bindArgs (W.fnOf x q (Gn st) (E3 st) (Ar st) .none kV doc pm an Dk ct) ⟨us,[]⟩=pure (ps.zip us)
section
variable{P:Program}{w:World}{K:W.Frag}{mg:Str->Option Value}{base h:Heap}
theorem Cs(X:K.In h)(G:h.Ns mainGlobals mg){n:Str}{st:Stmt}{ps:List Str}{k:Nat}{sp:Sp}(d:D9 K n st)(ok:∀{f fd},Ey K n n st f fd->Cj P w K mg base Fw k f fd ps sp)(hb:BA n n st ps):Has P w K mg base n ps k sp:=by
 obtain⟨f,fd,a,F⟩:=d;exact⟨_,_,qh5 X G a,F.kp,F.binds hb,ok F⟩
theorem Ky(X:K.In h)(G:h.Ns mainGlobals mg){n:Str}{st:Stmt}{ps:List Str}{k:Nat}{sp:Sp}(d:D9 K n st)(ok:∀{f fd},Ey K n n st f fd->Cj P w K mg base (Zi P w) k f fd ps sp)(hb:BA n n st ps):HasX P w K mg base n ps k sp:=by
 obtain⟨f,fd,a,F⟩:=d;exact⟨_,_,qh5 X G a,F.kp,F.binds hb,ok F⟩
theorem jP(X:K.In h)(G:h.Ns mainGlobals mg){n:Str}{st:Stmt}{ps:List Str}{k:Nat}{sp:Sp}(d:D9 K n st)(ok:∀{f fd},Ey K n n st f fd->CB P w K mg base k f fd ps sp)(hb:BA n n st ps):HasN P w K mg base n ps k sp:=by
 obtain⟨f,fd,a,F⟩:=d;exact⟨_,_,qh5 X G a,F.kp,F.binds hb,ok F⟩
theorem Jd{C:Addr}{n q:Str}{st:Stmt}{ps:List Str}{k:Nat}{sp:Sp}(d:Ox K C n q st)(ok:∀{f fd},Ey K n q st f fd->Cj P w K mg base Fw k f fd ps sp)(hb:BA n q st ps):Iq P w K mg base C n ps k sp:=by
 obtain⟨f,fd,a,b,F⟩:=d;exact⟨_,_,⟨a,b,F.kp⟩,F.binds hb,ok F⟩
theorem bP{C:Addr}{q:Str}{st:Stmt}{ps:List Str}{k:Nat}{sp:Sp}(m:PySem.W.makesIn K C=true)(kc:W.keepIn K (.ref C)=true)(d:Ox K C "__init__" q st)(ok:∀{f fd},Ey K "__init__" q st f fd->Cj P w K mg base Fw k f fd ps sp)(hb:BA "__init__" q st ps):o9 P w K mg base C ps k sp:=by
 obtain⟨f,fd,a,b,F⟩:=d;exact⟨_,_,⟨m,a,b,kc⟩,F.binds hb,ok F⟩
theorem GI{C:Addr}{q:Str}{st:Stmt}{ps:List Str}{k:Nat}{sp:Sp}(m:PySem.W.makesIn K C=true)(kc:W.keepIn K (.ref C)=true)(d:Ox K C "__init__" q st)(ok:∀{f fd},Ey K "__init__" q st f fd->Cj P w K mg base (Zi P w) k f fd ps sp)(hb:BA "__init__" q st ps):HasCX P w K mg base C ps k sp:=by
 obtain⟨f,fd,a,b,F⟩:=d;exact⟨_,_,⟨m,a,b,kc⟩,F.binds hb,ok F⟩
end
end L2
namespace Hb
open PySem L2
noncomputable def Gs(i:Nat):Stmt:=PySem.Challenge.pw_holebook_k31_what_no_table_is.main.body.getD i (.Pass ⟨0,0,0,0⟩)
structure Gq(K:W.Frag)(mg:Str->Option Value)(Am At Be Bg Ax Ay Ad Bd Bp Bh Av As Bf Bo Aw Au Ag Ac Ai Ao:Addr):Prop where
 m_HoleError:mg "HoleError"=some (.ref Am)
 k_HoleError:PySem.W.ktsIn K Am "BaseException"=true
 m_NoShape:mg "NoShape"=some (.ref At)
 m_NoText:mg "NoText"=some (.ref Be)
 m_NoName:mg "NoName"=some (.ref Bg)
 m_NoLevel:mg "NoLevel"=some (.ref Ax)
 m_NoChain:mg "NoChain"=some (.ref Ay)
 m_NoTable:mg "NoTable"=some (.ref Ad)
 e_NoTable:PySem.W.excIn K Ad bmV "ValueError.__new__"=true
 x_NoTable:ExcC K Ad
 iv_NoTable:PySem.W.kitOne K (.ref Ad) (.type "ValueError")=some true
 m_NoTurn:mg "NoTurn"=some (.ref Bd)
 m_NoMap:mg "NoMap"=some (.ref Bp)
 m_NoGlue:mg "NoGlue"=some (.ref Bh)
 m_NoPrime:mg "NoPrime"=some (.ref Av)
 m_NoStage:mg "NoStage"=some (.ref As)
 m_NoPair:mg "NoPair"=some (.ref Bf)
 m_NoRow:mg "NoRow"=some (.ref Bo)
 m_NoPiece:mg "NoPiece"=some (.ref Aw)
 m_NoRound:mg "NoRound"=some (.ref Au)
 s_NoTable_HoleError:PySem.W.subIn K (.ref Ad) (.ref Am)=some true
 i_NoTable_NoShape:PySem.W.kitOne K (.ref Ad) (.ref At)=some false
 i_NoTable_NoText:PySem.W.kitOne K (.ref Ad) (.ref Be)=some false
 i_NoTable_NoName:PySem.W.kitOne K (.ref Ad) (.ref Bg)=some false
 i_NoTable_NoLevel:PySem.W.kitOne K (.ref Ad) (.ref Ax)=some false
 i_NoTable_NoChain:PySem.W.kitOne K (.ref Ad) (.ref Ay)=some false
 i_NoTable_NoTable:PySem.W.kitOne K (.ref Ad) (.ref Ad)=some true
 i_NoTable_NoTurn:PySem.W.kitOne K (.ref Ad) (.ref Bd)=some false
 i_NoTable_NoMap:PySem.W.kitOne K (.ref Ad) (.ref Bp)=some false
 i_NoTable_NoGlue:PySem.W.kitOne K (.ref Ad) (.ref Bh)=some false
 i_NoTable_NoPrime:PySem.W.kitOne K (.ref Ad) (.ref Av)=some false
 i_NoTable_NoStage:PySem.W.kitOne K (.ref Ad) (.ref As)=some false
 i_NoTable_NoPair:PySem.W.kitOne K (.ref Ad) (.ref Bf)=some false
 i_NoTable_NoRow:PySem.W.kitOne K (.ref Ad) (.ref Bo)=some false
 i_NoTable_NoPiece:PySem.W.kitOne K (.ref Ad) (.ref Aw)=some false
 i_NoTable_NoRound:PySem.W.kitOne K (.ref Ad) (.ref Au)=some false
 m_Lines:mg "Lines"=some (.ref Ag)
 cl_Lines:Cls K Ag
 na_Lines_rows:NoAttr K Ag "rows"
 na_Lines_backs:NoAttr K Ag "backs"
 m_Stairs:mg "Stairs"=some (.ref Ac)
 cl_Stairs:Cls K Ac
 na_Stairs_rows:NoAttr K Ac "rows"
 na_Stairs_backs:NoAttr K Ac "backs"
 na_Stairs_starts:NoAttr K Ac "starts"
 m_Work:mg "Work"=some (.ref Ai)
 cl_Work:Cls K Ai
 na_Work_table:NoAttr K Ai "table"
 na_Work_width:NoAttr K Ai "width"
 na_Work_left:NoAttr K Ai "left"
 na_Work_right:NoAttr K Ai "right"
 na_Work_numbers:NoAttr K Ai "numbers"
 m_Turner:mg "Turner"=some (.ref Ao)
 cl_Turner:Cls K Ao
 na_Turner_table:NoAttr K Ao "table"
 na_Turner_width:NoAttr K Ao "width"
 na_Turner_left:NoAttr K Ao "left"
 na_Turner_right:NoAttr K Ao "right"
 na_Turner_done:NoAttr K Ao "done"
 x_GAPS:∃a,mg "GAPS"=some (.ref a)/\∀H,Fe K H a (([32,16,8,4,2]:List Int).map V.int)
 x_MOST_ROWS:∃t,mg "MOST_ROWS"=some (.int 40 t)
 n_isinstance:mg "isinstance"=none
 n_int:mg "int"=none
 n_bool:mg "bool"=none
 n_tuple:mg "tuple"=none
 n_zip:mg "zip"=none
 n_all:mg "all"=none
 n_list:mg "list"=none
 n_len:mg "len"=none
 n_range:mg "range"=none
 n_sum:mg "sum"=none
 n_min:mg "min"=none
 n_enumerate:mg "enumerate"=none
 n_any:mg "any"=none
 n_ValueError:mg "ValueError"=none
 n_repr:mg "repr"=none
theorem gA:(["number"]:List Str).Nodup:=by decide +kernel
theorem KS:(["old","new","quotient"]:List Str).Nodup:=by decide +kernel
theorem fY:(["row","width"]:List Str).Nodup:=by decide +kernel
theorem pH:(["j","table"]:List Str).Nodup:=by decide +kernel
theorem pG:(["row","j"]:List Str).Nodup:=by decide +kernel
theorem PF:(["i","size"]:List Str).Nodup:=by decide +kernel
theorem pF:(["j","i"]:List Str).Nodup:=by decide +kernel
theorem PD:(["row","numbers"]:List Str).Nodup:=by decide +kernel
theorem KR:(["one","other"]:List Str).Nodup:=by decide +kernel
theorem kR:(["left","right","a","b"]:List Str).Nodup:=by decide +kernel
theorem MH:(["row"]:List Str).Nodup:=by decide +kernel
theorem FZ:(["row","paper"]:List Str).Nodup:=by decide +kernel
theorem fZ:(["j","number","i"]:List Str).Nodup:=by decide +kernel
theorem FY:(["value","number"]:List Str).Nodup:=by decide +kernel
theorem mH:(["_law_k","_law_at"]:List Str).Nodup:=by decide +kernel
theorem MG:(["_law_k","_law_script"]:List Str).Nodup:=by decide +kernel
section
variable{P:Program}{w:World}{K:W.Frag}{mg:Str->Option Value}{base:Heap}{Am At Be Bg Ax Ay Ad Bd Bp Bh Av As Bf Bo Aw Au Ag Ac Ai Ao:Addr}
noncomputable abbrev Nr:Stmt:=Gs 19
theorem Zy:FnScope ["thing"] ["thing"] (Ar Nr):=B4
theorem Z9{f:Addr}{fd:FuncData}(F:Ey K "is_whole" "is_whole" Nr f fd)(T:Gq K mg Am At Be Bg Ax Ay Ad Bd Bp Bh Av As Bf Bo Aw Au Ag Ac Ai Ao) :Cj P w K mg base Fw 1 f fd ["thing"] (Lk K):=by
 refine F.ok Zy (fun vs H Q E h=>?_) (fun Dk A outer s H vs Q E hr h=>?_)
 . obtain⟨_,_,rfl,_⟩:=h;rfl
 . obtain⟨x,d,rfl,hx,k⟩:=h;refine⟨_,(Al (Bq (Qf (Bc (Ho (K:=K)) T.n_isinstance Bi (Aa (pv 0) (Aa (Hm (v:=.ty "int") rfl T.n_int boot_intT rfl) Af))) (Tg (Xr (Bc (Ho (K:=K)) T.n_isinstance Bi (Aa (pv 0) (Aa (Hm (v:=.ty "bool") rfl T.n_bool Up rfl) Af)))))))),?_⟩;refine⟨_,rfl,_,_,d,rfl,.inl rfl,hx,_,rfl,?_⟩;refine ite2 (fun e=>?_) (fun e=>?_)
   . refine⟨_,rfl,_,_,d,rfl,.inr (.inl rfl),hx,_,rfl,?_⟩;have e2:Di d=!g7 "bool" d:=by unfold Di;rw[e];rfl
     rw[e2]at k;exact k
   . have e2:Di d=false:=by unfold Di;simp[e]
     rw[e2]at k;exact k
noncomputable abbrev Ge:Stmt:=Gs 20
theorem Ct:FnScope ["one","other","last","now","quotient","rest"] ["one","other"] (Ar Ge):=B4
theorem Ou{f:Addr}{fd:FuncData}(F:Ey K "shared_divisor" "shared_divisor" Ge f fd)(T:Gq K mg Am At Be Bg Ax Ay Ad Bd Bp Bh Av As Bf Bo Aw Au Ag Ac Ai Ao) :Cj P w K mg base Fw 1 f fd ["one","other"] (Q6 K):=by
 refine F.ok Ct (fun vs H Q E h=>?_) (fun Dk A outer s H vs Q E hr h=>?_)
 . obtain⟨_,_,rfl,_⟩:=h;rfl
 . obtain⟨n,p,rfl,hA,hB,lA,lB,k⟩:=h
   refine⟨_,(Ah (Bk (i:=2) Ct.nd (Ej (Aa (pv 0) (Aa Ak (Aa Ak Af)))))
    (Ah (Bk (i:=3) Ct.nd (Ej (Aa (pv 1) (Aa Ak (Aa Ak Af)))))
    (Ah (Ot qc9 (Bt Q9 (Bv (B7 (K:=K)) (pv 3) Ak (fun _ _=>rfl)) Ak (Bx _)) (Ah (Bk (i:=4) Ct.nd (Bn Gv (Bv (B7 (K:=K)) (pv 2) Ak (fun _ _=>rfl)) (Bv (B7 (K:=K)) (pv 3) Ak (fun _ _=>rfl))))
    (Ah (Bk (i:=5) Ct.nd (D5 (Er (K:=K)) (by rfl) T.n_tuple Gz (Aa (Dg (N':=["old","new","quotient"]) (cap:=[none,none,some 4]) (by rfl) (by kernel_rfl) (iT (K:=K) (by rfl) T.n_zip (Aa (pv 2) (Aa (pv 3) Af))) (fun _ _ _ _=>(Ja (K:=K) (n:=2) (by rfl) (C8 (Bs (i:=0) KS) (C8 (Bs (i:=1) KS) Ix)))) (fun _ _ _ _=>Da) (fun _ _ _ _=>(Bn Kr (pv 0) (Bn Ee (pv 2) (pv 1))))) Af)))
    (Ah (Bk (i:=2) Ct.nd (pv 3))
    (Al (Bk (i:=3) Ct.nd (pv 5)))))))
    (Ah (Ck (Bt Tk (Bv (B7 (K:=K)) (pv 2) Ak (fun _ _=>rfl)) Ak (Bx _)) (Al (Bq (D5 (Er (K:=K)) (by rfl) T.n_tuple Gz (Aa (Dg (N':=["number"]) (cap:=[none]) (by rfl) (by kernel_rfl) (bN (K:=K) (pv 2)) (fun _ _ _ _=>(Bs (i:=0) gA)) (fun _ _ _ _=>Da) (fun _ _ _ _=>(Lw Hw (pv 0)))) Af)))) Cb)
    (Al (Bq (pv 2))))))),?_⟩
   refine⟨_,rfl,Cc (by simp),fun L0 yG=>?_⟩;have s0:Aj H (upd H L0 (.tup [.int n,.int 1,.int 0])):=Aj.new yG;refine⟨_,rfl,Cc (by simp),fun N0 yD=>?_⟩;have s1:Aj (upd H L0 (.tup [.int n,.int 1,.int 0])) (upd (upd H L0 (.tup [.int n,.int 1,.int 0])) N0 (.tup [.int p,.int 0,.int 1])):=Aj.new yD;refine Fq (fun σ' H'=>σ'=[iS n,iS p,rS L0,rS N0,none,none]/\H'=upd (upd H L0 (.tup [.int n,.int 1,.int 0])) N0 (.tup [.int p,.int 0,.int 1])) ?_ fun N4=>N4 _ _ ⟨rfl,rfl⟩;rintro _ _ ⟨rfl,rfl⟩;refine qs2 (fun σ' H'=>∃(L N:Addr) (a x y u v:Int) (o4 o5:Option V),σ'=[iS n,iS p,rS L,rS N,o4,o5]/\Aj H H'/\Fe K H' L [.int a,.int x,.int y]/\Lat.EuI n p a x y 0 u v) (fun key=>?_) ?_
   . refine⟨fun m σ G=>∃(L N:Addr) (a x y b u v:Int) (o4 o5:Option V),σ=[iS n,iS p,rS L,rS N,o4,o5]/\Aj H G/\Fe K G L [.int a,.int x,.int y]/\Fe K G N [.int b,.int u,.int v]/\Lat.EuI n p a x y b u v/\a.natAbs<L9/\b.natAbs<L9/\m=b.natAbs,⟨_,L0,N0,n,1,0,p,0,1,none,none,rfl,s0.trans s1,.of (s1 _ _ Ae),.of Ae,Lat.EuI.start hA hB,lA,lB,rfl⟩,?_⟩;rintro m σ G ⟨L,N,a,x,y,b,u,v,o4,o5,rfl,s2,hL,hN,hE,la,lb,rfl⟩;refine⟨_,rfl,N,_,_,_,rfl,rfl,hN,rfl,rfl,_,rfl,?_⟩;refine ite2 (fun h1=>?_) (fun h1=>?_)
     . have hb0:¬b=0:=by simpa using h1
       obtain⟨gJ,hlt⟩:=hE.step hA hb0;obtain⟨_,_,_,_,lu,lv⟩:=hE.all hA hB
       have lq:(a.fdiv b).natAbs<L9:=by
        refine qa4 ?_ la;have h3:(a.fdiv b*b).natAbs<=a.natAbs+(a-a.fdiv b*b).natAbs:=O9m
        rw[qa9]at h3;have h4:0<b.natAbs:=Int.natAbs_pos.mpr hb0;refine qf3 fun h5=>?_;have h6:=qb1 b.natAbs (show a.natAbs+1<=(a.fdiv b).natAbs from h5);rw[qd4,qd1]at h6;have h7:=qd2 a.natAbs h4;omega
       have ok:∀z:Int,z.natAbs<L9->IntMulOk (a.fdiv b) z:=fun z hz=>X0 lq hz;refine⟨fun σ' G'=>∃(L N:Addr) (a' x y b' u v:Int) (o4 o5:Option V),σ'=[iS n,iS p,rS L,rS N,o4,o5]/\Aj H G'/\Fe K G' L [.int a',.int x,.int y]/\Fe K G' N [.int b',.int u,.int v]/\Lat.EuI n p a' x y b' u v/\a'.natAbs<L9/\b'.natAbs<L9/\b'.natAbs<b.natAbs,?_,?_⟩
       . rintro σ' G' ⟨L',N',a',x',y',b',u',v',WW,wW,rfl,q1,q2,q3,q4,q5,q6,q7⟩;exact⟨b'.natAbs,q7,L',N',a',x',y',b',u',v',WW,wW,rfl,q1,q2,q3,q4,q5,q6,rfl⟩
       refine⟨_,rfl,L,_,_,_,rfl,rfl,hL,rfl,_,rfl,N,_,_,_,rfl,rfl,hN,rfl,_,_,rfl,rfl,Px.of9 hb0 lb,?_⟩;refine⟨_,rfl,_,rfl,L,N,rfl,⟨_,hL⟩,⟨_,hN⟩,fun D hD=>?_⟩
       have gv:∀(i:Nat) (e f:V),([.int a,.int x,.int y]:List V)[i]?=some e->([.int b,.int u,.int v]:List V)[i]?=some f->∃e' f':Int,e=.int e'/\f=.int f'/\IntMulOk (a.fdiv b) f'/\i<3 ∧
        ([.int (a-a.fdiv b*b),.int (x-a.fdiv b*u),.int (y-a.fdiv b*v)]:List V)[i]?=some (.int (e'-a.fdiv b*f')):=by
        intro i e f he hf
        match i,he,hf with
        | 0,he,hf=>cases he;cases hf;exact⟨a,b,rfl,rfl,ok _ lb,by decide,rfl⟩
        | 1,he,hf=>cases he;cases hf;exact⟨x,u,rfl,rfl,ok _ O9m,by decide,rfl⟩
        | 2,he,hf=>cases he;cases hf;exact⟨y,v,rfl,rfl,ok _ O9m,by decide,rfl⟩
        | i+3,he,hf=>simp at he
       refine aK (K:=K) (a:=L) (b:=N) (xs:=[.int a,.int x,.int y]) (ys:=[.int b,.int u,.int v]) (n:=3) ⟨rfl,rfl⟩ (fun i zs τ G1=>Aj G G1/\G1 D=some (.lst zs)/\zs=([.int (a-a.fdiv b*b),.int (x-a.fdiv b*u),.int (y-a.fdiv b*v)]:List V).take i/\∃o1 o2,τ=[o1,o2,some (.int (a.fdiv b))])
        ⟨Aj.new hD,Ae,rfl,none,none,rfl⟩ (fun i zs τ G1 _ ⟨s3,_⟩=>⟨s3.seqT hL,s3.seqT hN⟩) ?_ ?_
       . rintro i e f zs τ G1 pr he hf ⟨s3,GJ,hzs,o1,o2,rfl⟩ hpr;obtain⟨e',f',rfl,rfl,hok,TN,hnext⟩:=gv i e f he hf;have sp:Aj G1 (upd G1 pr (.tup [.int e',.int f'])):=Aj.new hpr;refine⟨pr,_,rfl,.of Ae,rfl,_,_,rfl,_,_,rfl,rfl,?_⟩;refine⟨_,rfl,_,rfl,_,rfl,_,_,rfl,rfl,hok,_,_,rfl,rfl,?_⟩;refine⟨sp _ _ GJ,small (by rw[hzs,qe3];omega),(s3.trans sp).turn hD,Ae,?_,_,_,rfl⟩;rw[List.take_succ,hnext,hzs];rfl
       . rintro zs τ G1 ⟨s3,GJ,hzs,_⟩;refine⟨D,_,rfl,.inl ⟨.of GJ,fun T1 hT1=>?_⟩⟩;have s4:Aj G1 (upd G1 T1 (.tup zs)):=Aj.new hT1;have MQ:zs=[.int (a-a.fdiv b*b),.int (x-a.fdiv b*u),.int (y-a.fdiv b*v)]:=hzs;have hT2:Fe K (upd G1 T1 (.tup zs)) T1 [.int (a-a.fdiv b*b),.int (x-a.fdiv b*u),.int (y-a.fdiv b*v)]:=by rw[←MQ];exact .of Ae
         exact⟨_,rfl,_,rfl,N,T1,b,u,v,a-a.fdiv b*b,x-a.fdiv b*u,y-a.fdiv b*v,_,_,rfl,(s2.trans s3).trans s4,(s3.trans s4).seqT hN,hT2,gJ,lb,qr9 hlt lb,hlt⟩
     . have hb0:b=0:=by simpa using h1
       subst hb0;exact key _ _ ⟨L,N,a,x,y,u,v,o4,o5,rfl,s2,hL,hE⟩
   refine OA fun L N a x y u v o4 o5 G s2 hL hE=>?_;obtain⟨e1,e2,e3⟩:=hE.last hA hB;refine⟨_,rfl,L,_,_,_,rfl,rfl,hL,rfl,_,_,rfl,rfl,_,rfl,?_⟩;refine ite2 (fun h1=>?_) (fun h1=>?_)
   . have ha:a<0:=by simpa using h1
     refine⟨_,rfl,L,rfl,⟨_,hL⟩,fun D hD=>?_⟩
     refine DZ (K:=K) (a:=L) (xs:=[.int a,.int x,.int y]) (fun i zs τ G1=>Aj G G1/\G1 D=some (.lst zs)/\zs=([.int (-a),.int (-x),.int (-y)]:List V).take i/\∃o1,τ=[o1])
      ⟨Aj.new hD,Ae,rfl,none,rfl⟩ (fun i zs τ G1 _ ⟨s3,_⟩=>s3.seqT hL) ?_ ?_
     . rintro i e zs τ G1 he ⟨s3,GJ,hzs,o1,rfl⟩
       have gv:∃e':Int,e=.int e'/\i<3/\([.int (-a),.int (-x),.int (-y)]:List V)[i]?=some (.int (-e')):=by
        match i,he with
        | 0,he=>cases he;exact⟨a,rfl,by decide,rfl⟩
        | 1,he=>cases he;exact⟨x,rfl,by decide,rfl⟩
        | 2,he=>cases he;exact⟨y,rfl,by decide,rfl⟩
        | i+3,he=>simp at he
       obtain⟨e',rfl,TN,hnext⟩:=gv;refine⟨_,rfl,_,rfl,GJ,small (by rw[hzs,qe3];omega),s3.turn hD,Ae,?_,_,rfl⟩;rw[List.take_succ,hnext,hzs];rfl
     . rintro zs τ G1 ⟨s3,GJ,hzs,_⟩;refine⟨D,_,rfl,.inl ⟨.of GJ,fun T1 hT1=>?_⟩⟩;have s4:Aj G1 (upd G1 T1 (.tup zs)):=Aj.new hT1;have MQ:zs=[.int (-a),.int (-x),.int (-y)]:=hzs;exact k T1 (-a) (-x) (-y) _ ((s2.trans s3).trans s4) (by rw[←MQ];exact .of Ae) (e2 ha)
   . have ha:¬a<0:=by simpa using h1
     exact⟨_,rfl,k L a x y G s2 hL (e1 O9m)⟩
noncomputable abbrev S5:Stmt:=Gs 26
theorem CO:FnScope ["table","j"] ["table","j"] (Ar S5):=B4
theorem cZ{f:Addr}{fd:FuncData}(F:Ey K "column" "column" S5 f fd)(T:Gq K mg Am At Be Bg Ax Ay Ad Bd Bp Bh Av As Bf Bo Aw Au Ag Ac Ai Ao) :Cj P w K mg base Fw 1 f fd ["table","j"] (V1 K):=by
 refine F.ok CO (fun vs H Q E h=>?_) (fun Dk A outer s H vs Q E hr h=>?_)
 . obtain⟨_,_,_,_,_,rfl,_⟩:=h;rfl
 . obtain⟨v,h,w,j,f,rfl,hv,hh,hj,k⟩:=h;obtain⟨a,us,rfl,hq,Mr,Hq⟩:=Hi hv;refine⟨_,(Al (Bq (Dg (N':=["row","j"]) (cap:=[none,some 1]) (by rfl) (by kernel_rfl) (Fi (K:=K) (pv 0)) (fun _ _ _ _=>(Bs (i:=0) pG)) (fun _ _ _ _=>Da) (fun _ _ _ _=>(Bv (Br (K:=K)) (pv 0) (pv 1) (fun _ _=>rfl)))))),?_⟩;refine⟨_,rfl,a,rfl,⟨_,hq⟩,fun D hD=>?_⟩
   refine Ev (K:=K) (a:=a) (xs:=us) (fun i ys τ H1=>Aj H H1/\H1 D=some (.lst ys)/\ys=VI i (fun i=>f i j)/\∃o,τ=[o,iS j])
    ⟨Aj.new hD,Ae,rfl,none,rfl⟩ (fun i ys τ H1 _ ⟨s1,_⟩=>s1.seq hq) ?_ ?_
   . rintro i x ys τ H1 hx ⟨s1,Il,rfl,o,rfl⟩;obtain⟨hi,b,rfl,hb⟩:=Hq i _ hx;refine⟨_,rfl,_,rfl,b,_,_,_,rfl,rfl,s1.seq hb,qJ hj,?_⟩;refine⟨Il,small (by rw[By];omega),s1.turn hD,Ae,?_,_,rfl⟩;rw[Gp]
   . rintro ys τ H1 ⟨s1,Il,rfl,_⟩;rw[Mr]at Il;exact k D H1 hD s1 Il
noncomputable abbrev P9:Stmt:=Gs 28
theorem u9:FnScope ["size","i"] ["size","i"] (Ar P9):=B4
theorem y3{f:Addr}{fd:FuncData}(F:Ey K "one_row" "one_row" P9 f fd)(T:Gq K mg Am At Be Bg Ax Ay Ad Bd Bp Bh Av As Bf Bo Aw Au Ag Ac Ai Ao) :Cj P w K mg base Fw 1 f fd ["size","i"] (Sh K):=by
 refine F.ok u9 (fun vs H Q E h=>?_) (fun Dk A outer s H vs Q E hr h=>?_)
 . obtain⟨_,_,rfl,_⟩:=h;rfl
 . obtain⟨n,i,rfl,hn,k⟩:=h;refine⟨_,(Al (Bq (Dg (N':=["j","i"]) (cap:=[none,some 1]) (by rfl) (by kernel_rfl) (Dz (by rfl) T.n_range (Aa (pv 0) Af)) (fun _ _ _ _=>(Bs (i:=0) pF)) (fun _ _ _ _=>Da) (fun _ _ _ _=>(Th (Bt C6 (pv 0) (pv 1) (Bx _)) Ak Ak))))),?_⟩;refine⟨_,rfl,_,rfl,O9m,O9m,fun D hD=>?_⟩
   refine Gy (fun j ys τ H1=>Aj H H1/\H1 D=some (.lst ys)/\ys=VI j (fun j=>if j=i then 1 else 0)/\∃o,τ=[o,iS i])
    ⟨Aj.new hD,Ae,rfl,none,rfl⟩ ?_ ?_
   . rintro j ys τ H1 hj ⟨s1,Il,rfl,o,rfl⟩;refine⟨_,rfl,_,rfl,rfl,_,rfl,?_⟩;have sz:(VI j fun j=>if j=i then 1 else 0).length<sizeLine:=small (by rw[By];omega);refine ite2 (fun h1=>?_) (fun h1=>?_)
     . have e0:(0:Int)+(j:Int)=(i:Int):=by simpa using h1
       have e:j=i:=O9m
       refine⟨Il,sz,s1.turn hD,Ae,?_,_,rfl⟩;rw[Gp,if_pos e]
     . have e0:¬(0:Int)+(j:Int)=(i:Int):=by simpa using h1
       have e:¬j=i:=O9m
       refine⟨Il,sz,s1.turn hD,Ae,?_,_,rfl⟩;rw[Gp,if_neg e]
   . rintro ys τ H1 ⟨s1,Il,rfl,_⟩;rw[qe4]at Il;exact k D H1 hD s1 Il
noncomputable abbrev Kl:Stmt:=Gs 29
theorem Ux:FnScope ["table","numbers"] ["table","numbers"] (Ar Kl):=B4
theorem U0{f:Addr}{fd:FuncData}(F:Ey K "times_list" "times_list" Kl f fd)(T:Gq K mg Am At Be Bg Ax Ay Ad Bd Bp Bh Av As Bf Bo Aw Au Ag Ac Ai Ao) :Cj P w K mg base Fw 1 f fd ["table","numbers"] (Ji K):=by
 refine F.ok Ux (fun vs H Q E h=>?_) (fun Dk A outer s H vs Q E hr h=>?_)
 . obtain⟨_,_,_,_,_,_,rfl,_⟩:=h;rfl
 . obtain⟨v,x,h,w,f,a,rfl,hv,hx,hh,hw,hm,k⟩:=h;obtain⟨tb,us,rfl,hq,Mr,Hq⟩:=Hi hv;refine⟨_,(Al (Bq (Dg (N':=["row","numbers"]) (cap:=[none,some 1]) (by rfl) (by kernel_rfl) (Fi (K:=K) (pv 0)) (fun _ _ _ _=>(Bs (i:=0) PD)) (fun _ _ _ _=>Da) (fun _ _ _ _=>(Bc (AA (K:=K) (by rfl)) T.n_sum EH (Aa (Dg (N':=["one","other"]) (cap:=[none,none]) (by rfl) (by kernel_rfl) (Xp (K:=K) (by rfl) T.n_zip (Aa (pv 0) (Aa (pv 1) Af))) (fun _ _ _ _=>(Ja (K:=K) (n:=2) (by rfl) (C8 (Bs (i:=0) KR) (C8 (Bs (i:=1) KR) Ix)))) (fun _ _ _ _=>Da) (fun _ _ _ _=>(Bn Ee (pv 0) (pv 1)))) Af)))))),?_⟩;refine⟨_,rfl,tb,rfl,⟨_,hq⟩,fun D hD=>?_⟩
   refine Ev (K:=K) (a:=tb) (xs:=us) (fun i ys τ H1=>Aj H H1/\H1 D=some (.lst ys)/\ys=VI i (fun i=>Aq (fun k=>f i k*a k) w)/\∃o,τ=[o,rS x])
    ⟨Aj.new hD,Ae,rfl,none,rfl⟩ (fun i ys τ H1 _ ⟨s1,_⟩=>s1.seq hq) ?_ ?_
   . rintro i u ys τ H1 hu ⟨s1,Il,rfl,o,rfl⟩;obtain⟨hi,b,rfl,hb⟩:=Hq i _ hu;refine⟨_,rfl,_,rfl,b,x,rfl,⟨_,s1.seq hb⟩,⟨_,s1.seq hx⟩,fun E hE=>?_⟩
     refine Mt (K:=K) (a:=b) (b:=x) (xs:=VI w (f i)) (ys:=VI w a) (n:=w) (by rw[By,By,qp1]) (fun j zs τ H2=>Aj H1 H2/\H2 E=some (.lst zs)/\zs=VI j (fun k=>f i k*a k)/\∃o1 o2,τ=[o1,o2])
      ⟨Aj.new hE,Ae,rfl,none,none,rfl⟩ (fun j zs τ H2 _ ⟨s2,_⟩=>⟨(s1.trans s2).seq hb,(s1.trans s2).seq hx⟩) ?_ ?_
     . rintro j u v zs τ H2 pr hu hv ⟨s2,gJ,rfl,o1,o2,rfl⟩ hp;obtain⟨hj,rfl⟩:=K6 hu;obtain⟨_,rfl⟩:=K6 hv;have sp:Aj H2 (upd H2 pr (.tup [.int (f i j),.int (a j)])):=Aj.new hp;refine⟨pr,_,rfl,.of Ae,rfl,_,_,rfl,_,_,rfl,rfl,?_⟩;refine⟨_,rfl,_,rfl,_,_,rfl,rfl,hm i j hi hj,?_⟩;refine⟨sp _ _ gJ,small (by rw[By];omega),(s2.trans sp).turn hE,Ae,?_,_,_,rfl⟩;rw[Gp]
     . rintro zs τ H2 ⟨s2,gJ,rfl,_⟩;refine⟨E,Ga w fun k=>f i k*a k,rfl,.of gJ,?_⟩;have yI:H2 D=some (.lst (VI i fun i=>Aq (fun k=>f i k*a k) w)):=s2 _ _ Il;refine⟨yI,small (by rw[By];omega),(s1.trans s2).turn hD,Ae,?_,_,rfl⟩;rw[Gp,jI]
   . rintro ys τ H1 ⟨s1,Il,rfl,_⟩;rw[Mr]at Il;exact k D H1 hD s1 Il
noncomputable abbrev Xh:Stmt:=Gs 30
theorem FG:FnScope ["a","one","b","other"] ["a","one","b","other"] (Ar Xh):=B4
theorem FU{f:Addr}{fd:FuncData}(F:Ey K "mixed" "mixed" Xh f fd)(T:Gq K mg Am At Be Bg Ax Ay Ad Bd Bp Bh Av As Bf Bo Aw Au Ag Ac Ai Ao) :Cj P w K mg base Fw 1 f fd ["a","one","b","other"] (Si K):=by
 refine F.ok FG (fun vs H Q E h=>?_) (fun Dk A outer s H vs Q E hr h=>?_)
 . obtain⟨_,_,_,_,_,_,_,rfl,_⟩:=h;rfl
 . obtain⟨a,b,x,y,n,p,q,rfl,hx,hy,hn,hm,k⟩:=h;refine⟨_,(Al (Bq (Dg (N':=["left","right","a","b"]) (cap:=[none,none,some 0,some 2]) (by rfl) (by kernel_rfl) (Xp (K:=K) (by rfl) T.n_zip (Aa (pv 1) (Aa (pv 3) Af))) (fun _ _ _ _=>(Ja (K:=K) (n:=2) (by rfl) (C8 (Bs (i:=0) kR) (C8 (Bs (i:=1) kR) Ix)))) (fun _ _ _ _=>Da) (fun _ _ _ _=>(Bn D6 (Bn Ee (pv 2) (pv 0)) (Bn Ee (pv 3) (pv 1))))))),?_⟩;refine⟨_,rfl,_,rfl,x,y,rfl,⟨_,hx⟩,⟨_,hy⟩,fun D hD=>?_⟩
   refine Mt (K:=K) (a:=x) (b:=y) (xs:=VI n p) (ys:=VI n q) (n:=n) (by rw[By,By,qp1]) (fun i zs τ H1=>Aj H H1/\H1 D=some (.lst zs)/\zs=VI i (fun j=>a*p j+b*q j)/\∃o1 o2,τ=[o1,o2,iS a,iS b])
    ⟨Aj.new hD,Ae,rfl,none,none,rfl⟩ (fun i zs τ H1 _ ⟨s1,_⟩=>⟨s1.seq hx,s1.seq hy⟩) ?_ ?_
   . rintro i u v zs τ H1 pr hu hv ⟨s1,Il,rfl,o1,o2,rfl⟩ hp;obtain⟨hi,rfl⟩:=K6 hu;obtain⟨_,rfl⟩:=K6 hv;have sp:Aj H1 (upd H1 pr (.tup [.int (p i),.int (q i)])):=Aj.new hp;refine⟨pr,_,rfl,.of Ae,rfl,_,_,rfl,_,_,rfl,rfl,?_⟩;refine⟨_,rfl,_,rfl,_,_,rfl,rfl,(hm i hi).1,_,rfl,_,rfl,_,_,rfl,rfl,(hm i hi).2,_,_,rfl,rfl,?_⟩;refine⟨sp _ _ Il,small (by rw[By];omega),(s1.trans sp).turn hD,Ae,?_,_,_,rfl⟩;rw[Gp]
   . rintro zs τ H1 ⟨s1,Il,rfl,_⟩;exact k D H1 hD s1 Il
noncomputable abbrev S4:Stmt:=Gs 31
theorem cO:FnScope ["table"] ["table"] (Ar S4):=B4
theorem CY{f:Addr}{fd:FuncData}(F:Ey K "copied" "copied" S4 f fd)(T:Gq K mg Am At Be Bg Ax Ay Ad Bd Bp Bh Av As Bf Bo Aw Au Ag Ac Ai Ao) :Cj P w K mg base Fw 1 f fd ["table"] (V0 K):=by
 refine F.ok cO (fun vs H Q E h=>?_) (fun Dk A outer s H vs Q E hr h=>?_)
 . obtain⟨_,_,_,_,rfl,_⟩:=h;rfl
 . obtain⟨v,h,w,f,rfl,hv,hh,k⟩:=h;obtain⟨a,us,rfl,hq,Mr,Hq⟩:=Hi hv;refine⟨_,(Al (Bq (Dg (N':=["row"]) (cap:=[none]) (by rfl) (by kernel_rfl) (Fi (K:=K) (pv 0)) (fun _ _ _ _=>(Bs (i:=0) MH)) (fun _ _ _ _=>Da) (fun _ _ _ _=>(D5 (Ju (K:=K)) (by rfl) T.n_list Fp (Aa (pv 0) Af)))))),?_⟩;refine⟨_,rfl,a,rfl,⟨_,hq⟩,fun D hD=>?_⟩
   refine Ev (K:=K) (a:=a) (xs:=us) (fun i ys τ H1=>∃as,as.length=i/\ys=as.map V.ref/\Rows H H1 D as w f/\∃o,τ=[o])
    ⟨[],rfl,rfl,Rows.nil hD,none,rfl⟩ (fun i ys τ H1 _ ⟨as,_,_,R,_⟩=>R.same.seq hq) ?_ ?_
   . rintro i x ys τ H1 hx ⟨as,hal,rfl,R,o,rfl⟩;obtain⟨hi,b,rfl,hb⟩:=Hq i _ hx;refine⟨_,rfl,b,_,rfl,.inl (R.same.seq hb),fun L hL=>?_⟩;have sL:Aj H1 (upd H1 L (.lst (VI w (f i)))):=Aj.new hL;exact⟨sL _ _ R.at,small (by rw[qa2];omega),as++[L],by simp[hal],by rw[qc8];rfl,R.push hL sL (by rw[hal];exact Ae),_,rfl⟩
   . rintro ys τ H1 ⟨as,hal,rfl,R,_⟩;exact k D as H1 O9m R
noncomputable abbrev S7:Stmt:=Gs 34
theorem cP:FnScope ["turn"] ["turn"] (Ar S7):=B4
theorem DB{f:Addr}{fd:FuncData}(F:Ey K "across" "across" S7 f fd)(T:Gq K mg Am At Be Bg Ax Ay Ad Bd Bp Bh Av As Bf Bo Aw Au Ag Ac Ai Ao) :Cj P w K mg base Fw 1 f fd ["turn"] (V2 K):=by
 refine F.ok cP (fun vs H Q E h=>?_) (fun Dk A outer s H vs Q E hr h=>?_)
 . obtain⟨_,_,rfl,_⟩:=h;rfl
 . obtain⟨u,t,rfl,hu,k⟩:=h
   refine⟨_,(Ah (Ck (Bt C6 (Bv (B7 (K:=K)) (pv 0) Ak (fun _ _=>rfl)) Ek (Bx _)) (Al (Bq (Ej (Aa Ek (Aa (Bv (B7 (K:=K)) (pv 0) Ak (fun _ _=>rfl)) (Aa (Bv (B7 (K:=K)) (pv 0) Ak (fun _ _=>rfl)) (Aa (Lw Hw (Bv (B7 (K:=K)) (pv 0) Ak (fun _ _=>rfl))) Af))))))) Cb)
    (Al (Bq (pv 0)))),?_⟩
   cases t with
   | ad i j n =>
     obtain⟨ta,vs,rfl,hT,rT⟩:=hu;obtain⟨_,_,rfl,rfl,_,_,rfl,rfl,_,_,rfl,rfl,_,_,rfl,rfl,rfl⟩:=rT;refine⟨_,rfl,ta,_,_,_,rfl,rfl,hT,rfl,rfl,_,rfl,?_⟩;refine bO (by decide +kernel) ?_;refine⟨_,rfl,ta,_,_,_,rfl,rfl,hT,rfl,_,rfl,ta,_,_,_,rfl,rfl,hT,rfl,_,rfl,ta,_,_,_,rfl,rfl,hT,rfl,_,rfl,Cc (by simp),fun T1 hT1=>?_⟩;exact k _ _ (Aj.new hT1) ⟨T1,_,rfl,.of Ae,⟨_,_,rfl,rfl,_,_,rfl,rfl,_,_,rfl,rfl,_,_,rfl,rfl,rfl⟩⟩
   | mi i =>
     obtain⟨ta,vs,rfl,hT,rT⟩:=id hu;obtain⟨_,_,rfl,rfl,_,_,rfl,rfl,rfl⟩:=rT;refine⟨_,rfl,ta,_,_,_,rfl,rfl,hT,rfl,rfl,_,rfl,?_⟩;refine aC (by decide +kernel) ?_;exact⟨_,rfl,k _ _ (Aj.refl H) hu⟩
   | sw i j =>
     obtain⟨ta,vs,rfl,hT,rT⟩:=id hu;obtain⟨_,_,rfl,rfl,_,_,rfl,rfl,_,_,rfl,rfl,rfl⟩:=rT;refine⟨_,rfl,ta,_,_,_,rfl,rfl,hT,rfl,rfl,_,rfl,?_⟩;refine aC (by decide +kernel) ?_;exact⟨_,rfl,k _ _ (Aj.refl H) hu⟩
noncomputable abbrev Dy:Stmt:=El (Gs 35) 0
theorem Rk:FnScope ["self","rows","backs"] ["self","rows","backs"] (Ar Dy):=B4
theorem Lc{f:Addr}{fd:FuncData}(F:Ey K "__init__" "Lines.__init__" Dy f fd)(T:Gq K mg Am At Be Bg Ax Ay Ad Bd Bp Bh Av As Bf Bo Aw Au Ag Ac Ai Ao) :Cj P w K mg base Fw 1 f fd ["self","rows","backs"] (Hz K Ag Ac Ai):=by
 refine F.ok Rk (fun vs H Q E h=>?_) (fun Dk A outer s H vs Q E hr h=>?_)
 . obtain⟨_,_,_,_,_,rfl,_⟩:=h;rfl
 . obtain⟨p,dx,C,r,b,rfl,hC,hp,k⟩:=h
   have hc:Cls K C/\NoAttr K C "rows"/\NoAttr K C "backs":=by
    rcases hC with rfl | rfl
    . exact⟨T.cl_Lines,T.na_Lines_rows,T.na_Lines_backs⟩
    . exact⟨T.cl_Stairs,T.na_Stairs_rows,T.na_Stairs_backs⟩
   refine⟨_,(Ah (Dh (K:=K) (pv 0) (pv 1))
    (Al (Dh (K:=K) (pv 0) (pv 2)))),?_⟩
   refine⟨_,rfl,_,rfl,p,C,dx,_,rfl,hp,hc.1,hc.2.1,by simp,?_⟩;refine⟨_,rfl,_,rfl,p,C,dx,_,rfl,Ae,hc.1,hc.2.2,by simp[putF],?_⟩;exact k _ _ rfl rfl
noncomputable abbrev Nq:Stmt:=Gs 39
theorem Ln:FnScope ["row","at"] ["row"] (Ar Nq):=B4
theorem Z8{f:Addr}{fd:FuncData}(F:Ey K "start_of" "start_of" Nq f fd)(T:Gq K mg Am At Be Bg Ax Ay Ad Bd Bp Bh Av As Bf Bo Aw Au Ag Ac Ai Ao) :Cj P w K mg base Fw 1 f fd ["row"] (Op K):=by
 refine F.ok Ln (fun vs H Q E h=>?_) (fun Dk A outer s H vs Q E hr h=>?_)
 . obtain⟨_,_,_,_,rfl,_⟩:=h;rfl
 . obtain⟨c,W,st,u,rfl,hq,hb,hW,k⟩:=h;obtain⟨b1,b2,b3⟩:=hb
   refine⟨_,(Ah (Bk (i:=1) Ln.nd Ak)
    (Ah (Ot qc9 (Bt C6 (Bv (Br (K:=K)) (pv 0) (pv 1) (fun _ _=>rfl)) Ak (Bx _)) (Al (Bk (i:=1) Ln.nd (Bn D6 (pv 1) Ak))))
    (Al (Bq (pv 1))))),?_⟩
   refine Fq (fun σ' H'=>σ'=[rS c,some (.int (0:Nat))]/\H=H') ?_ fun N4=>N4 _ _ ⟨rfl,rfl⟩;refine Eb ?_;refine qs2 (fun σ' H'=>σ'=[rS c,some (.int (st:Int))]/\H=H') (fun key=>?_) ?_
   . refine⟨fun m σ G=>∃j:Nat,σ=[rS c,some (.int (j:Int))]/\H=G/\j<=st/\m=st-j,⟨_,0,rfl,rfl,qa8 _,rfl⟩,?_⟩;rintro m σ _ ⟨j,rfl,rfl,hj,rfl⟩;refine⟨_,rfl,_,rfl,c,_,_,_,rfl,rfl,hq,B5 (Cw O9m),rfl,_,rfl,?_⟩;refine ite2 (fun h1=>?_) (fun h1=>?_)
     . have h0:u j=0:=by simpa using h1
       have hlt:j<st:=Nat.lt_of_le_of_ne hj fun z=>b2 (z▸h0);refine⟨fun σ' G'=>∃j':Nat,σ'=[rS c,some (.int (j':Int))]/\H=G'/\j'=j+1,?_,?_⟩
       . rintro σ' G' ⟨j',rfl,rfl,rfl⟩;exact⟨st-(j+1),O9m,j+1,rfl,rfl,hlt,rfl⟩
       . exact⟨_,rfl,_,_,rfl,rfl,j+1,rfl,rfl,rfl⟩
     . have h0:¬u j=0:=by simpa using h1
       have hlt:j=st:=by
        rcases qf5 j st with h | h
        . exact absurd (b1 j h) h0
        . omega
       subst hlt;exact key _ _ ⟨rfl,rfl⟩
   refine Eb ?_;exact⟨_,rfl,k⟩
noncomputable abbrev Jl:Stmt:=Gs 45
theorem Ia:FnScope ["table","i","row"] ["table"] (Ar Jl):=B4
theorem Tm{f:Addr}{fd:FuncData}(F:Ey K "is_straight" "is_straight" Jl f fd)(T:Gq K mg Am At Be Bg Ax Ay Ad Bd Bp Bh Av As Bf Bo Aw Au Ag Ac Ai Ao) :Cj P w K mg base Fw 1 f fd ["table"] (Lb K):=by
 refine F.ok Ia (fun vs H Q E h=>?_) (fun Dk A outer s H vs Q E hr h=>?_)
 . obtain⟨_,_,_,_,rfl,_⟩:=h;rfl
 . obtain⟨v,n,w,M,rfl,hv,hn,hw,k1,k2⟩:=h;obtain⟨ta,us,rfl,hq,Mr,Hq⟩:=Hi hv
   refine⟨_,(Ah (F3 qc9 rfl (Xq (K:=K) (by rfl) T.n_enumerate (Aa (pv 0) Af)) (Ja (K:=K) (n:=2) (by rfl) (C8 (Bs (i:=1) Ia.nd) (C8 (Bs (i:=2) Ia.nd) Ix))) (Al (Ck (Ie (Bc (aB (K:=K) (by rfl)) T.n_any EJ (Aa (Dg (N':=["j","number","i"]) (cap:=[none,none,some 1]) (by rfl) (by kernel_rfl) (Xq (K:=K) (by rfl) T.n_enumerate (Aa (pv 2) Af)) (fun _ _ _ _=>(Ja (K:=K) (n:=2) (by rfl) (C8 (Bs (i:=0) fZ) (C8 (Bs (i:=1) fZ) Ix)))) (fun _ _ _ _=>(iR (Bt Q9 (pv 0) (pv 2) (Bx _)))) (fun _ _ _ _=>(Iy Q9 (pv 1) Ak (Bx _)))) Af))) (Al (Bq Ii)) Cb)))
    (Al (Bq Ii))),?_⟩
   refine qs2 (fun σ' H'=>∃o1 o2,σ'=[rS ta,o1,o2]/\Aj H H'/\Lat.Straight n w M) (fun key=>?_) ?_
   . refine⟨_,rfl,ta,rfl,⟨us,hq⟩,?_⟩
     refine i6 (K:=K) (a:=ta) (xs:=us) (fun i σ G=>∃o1 o2,σ=[rS ta,o1,o2]/\Aj H G/\Lat.Straight i w M)
      ⟨none,none,rfl,Aj.refl H,fun i j hi=>O9m⟩ (fun i σ G _ ⟨_,_,_,s1,_⟩=>s1.seq hq) ?_ ?_
     . rintro i v σ G p hv ⟨o1,o2,rfl,s1,hS⟩ hp;obtain⟨hi,b,rfl,hb⟩:=Hq i v hv;have sp:Aj G (upd G p (.tup [.int i,.ref b])):=Aj.new hp;refine⟨p,_,rfl,.of Ae,rfl,_,_,rfl,_,_,rfl,rfl,?_⟩;generalize upd G p (.tup [.int i,.ref b])=G1 at sp;have s2:=s1.trans sp;refine⟨_,rfl,b,rfl,⟨_,s2.seq hb⟩,fun D hD=>?_⟩
       refine EC (K:=K) (a:=b) (xs:=VI w (M i)) (fun j zs τ G2=>∃bs:List Bool,zs=bs.map V.bl/\bs.length<=j/\(bs.any id=true↔∃c,c<j/\c≠i/\M i c≠0)/\Aj G1 G2/\G2 D=some (.lst zs)/\j<=w/\∃o1 o2,τ=[o1,o2,some (.int (i:Int))])
        ⟨[],rfl,qa0 _,⟨fun z=>by simp at z,fun⟨c,hc,_⟩=>O9m⟩,Aj.new hD,Ae,qa8 _,none,none,rfl⟩ (fun j zs τ G2 _ ⟨_,_,_,_,g,_⟩=>g.seq (s2.seq hb)) ?_ ?_
       . rintro j y zs τ G2 pr hy ⟨bs,rfl,ZV,hiff,g,kY,hj,q1,q2,rfl⟩ hpr;obtain⟨nQ,rfl⟩:=K6 hy;have gp:Aj G2 (upd G2 pr (.tup [.int j,.int (M i j)])):=Aj.new hpr;refine⟨pr,_,rfl,.of Ae,rfl,_,_,rfl,_,_,rfl,rfl,?_⟩;generalize upd G2 pr (.tup [.int j,.int (M i j)])=G3 at gp;refine⟨_,rfl,_,rfl,rfl,_,rfl,?_⟩;refine ite2 (fun h1=>?_) (fun h1=>?_)
         . have hji:j≠i:=by
            have:¬((j:Nat):Int)=(i:Int):=by simpa using h1
            omega
           refine⟨_,rfl,rfl,gp _ _ kY,small (by rw[qa2];omega),bs++[!(decide (M i j=0))],?_,by simp;omega,?_,(g.trans gp).turn hD,Ae,nQ,_,_,rfl⟩
           . rw[qc8]
             congr 1
             by_cases z:M i j=0<;>simp[z]
           . rw[List.any_append,Bool.or_eq_true,hiff];constructor
             . rintro (⟨c,h1,h2,h3⟩ | h)
               . exact⟨c,O9m,h2,h3⟩
               . exact⟨j,O9m,hji,by simpa using h⟩
             . rintro ⟨c,h1,h2,h3⟩;rcases qf5 c j with h | h
               . exact .inl ⟨c,h,h2,h3⟩
               . have:c=j:=O9m
                 subst this;exact .inr (by simpa using h3)
         . have hji:j=i:=by
            have:((j:Nat):Int)=(i:Int):=by simpa using h1
            omega
           refine⟨bs,rfl,O9m,hiff.trans ⟨fun⟨c,h1,h2⟩=>⟨c,O9m,h2⟩,fun⟨c,h1,h2,h3⟩=>⟨c,O9m,h2,h3⟩⟩,g.trans gp,gp _ _ kY,nQ,_,_,rfl⟩
       . rintro zs τ G2 ⟨bs,rfl,_,hiff,g,kY,_⟩;rw[By]at hiff;refine⟨D,bs,rfl,.of kY,_,rfl,?_⟩;refine ite2 (fun h1=>?_) (fun h1=>?_)
         . have h2:bs.any id=true:=by simpa using h1
           obtain⟨c,c1,c2,c3⟩:=hiff.mp h2;exact k2 (fun z=>c3 (z i c hi c1 fun e=>c2 e.symm)) _ (s2.trans g)
         . have h2:¬bs.any id=true:=by simpa using h1
           refine⟨_,_,rfl,s2.trans g,fun x c hx hc hne=>?_⟩;rcases qf5 x i with h | h
           . exact hS x c h hc hne
           . have:x=i:=O9m
             subst this;exact qe6 fun z=>h2 (hiff.mpr ⟨c,hc,fun e=>hne e.symm,z⟩)
     . rintro σ G ⟨o1,o2,rfl,s1,hS⟩;rw[Mr]at hS;exact key _ _ ⟨_,_,rfl,s1,hS⟩
   refine kG fun o1 o2 G s1 hS=>?_;exact k1 hS _ s1
noncomputable abbrev Lq:Stmt:=Gs 52
theorem Xe:FnScope ["numbers","i"] ["numbers","i"] (Ar Lq):=B4
theorem Xu{f:Addr}{fd:FuncData}(F:Ey K "number_at" "number_at" Lq f fd)(T:Gq K mg Am At Be Bg Ax Ay Ad Bd Bp Bh Av As Bf Bo Aw Au Ag Ac Ai Ao) :Cj P w K mg base Fw 1 f fd ["numbers","i"] (Jj K):=by
 refine F.ok Xe (fun vs H Q E h=>?_) (fun Dk A outer s H vs Q E hr h=>?_)
 . obtain⟨_,_,_,_,rfl,_⟩:=h;rfl
 . obtain⟨a,k0,i,f,rfl,hq,k⟩:=h;refine⟨_,(Al (Bq (Th (Bt Tk (pv 1) (Bc (Bm (K:=K)) T.n_len qf6 (Aa (pv 0) Af)) (Bx _)) (Bv (Br (K:=K)) (pv 0) (pv 1) (fun _ _=>rfl)) Ak))),?_⟩;refine⟨_,rfl,_,rfl,a,_,rfl,.inl hq,_,_,rfl,rfl,_,rfl,?_⟩;unfold Lat.numAt at k;refine ite2 (fun h1=>?_) (fun h1=>?_)
   . have h2:i<k0:=by
      have:(i:Int)<((VI k0 f).length:Int):=qc2 h1;rw[By]at this;omega
     rw[if_pos h2]at k;exact⟨_,rfl,_,rfl,a,_,_,_,rfl,rfl,hq,B5 (Cw h2),k⟩
   . have h2:¬i<k0:=fun z=>h1 (qj1 (by rw[By];omega));rw[if_neg h2]at k;exact k
noncomputable abbrev Jm:Stmt:=Gs 53
theorem Sx:FnScope ["value","number"] ["value","number"] (Ar Jm):=B4
theorem To{f:Addr}{fd:FuncData}(F:Ey K "is_multiple" "is_multiple" Jm f fd)(T:Gq K mg Am At Be Bg Ax Ay Ad Bd Bp Bh Av As Bf Bo Aw Au Ag Ac Ai Ao) :Cj P w K mg base Fw 1 f fd ["value","number"] (La K):=by
 refine F.ok Sx (fun vs H Q E h=>?_) (fun Dk A outer s H vs Q E hr h=>?_)
 . obtain⟨_,_,rfl,_⟩:=h;rfl
 . obtain⟨v,d,rfl,hd,k⟩:=h;refine⟨_,(Al (Bq (Th (Bt C6 (pv 1) Ak (Bx _)) (Iy C6 (pv 0) Ak (Bx _)) (Iy C6 (Bn Cu (pv 0) (pv 1)) Ak (Bx _))))),?_⟩;refine⟨_,rfl,rfl,_,rfl,?_⟩;refine ite2 (fun h1=>?_) (fun h1=>?_)
   . have h2:d=0:=by simpa using h1
     subst h2;refine⟨_,rfl,rfl,?_⟩;rw[oY];have e:decide ((0:Int)∣v)=decide (v=0):=by simp[Int.zero_dvd]
     rw[e]at k;exact k
   . have h2:¬d=0:=by simpa using h1
     refine⟨_,rfl,_,rfl,_,_,rfl,rfl,(by show(0:Int)<d;omega),rfl,?_⟩;rw[oY];have e:decide (d∣v)=decide (v%d=0):=by simp[Int.dvd_iff_emod_eq_zero]
     rw[e]at k;exact k
noncomputable abbrev Qb:Stmt:=Gs 57
theorem v4:FnScope ["_law_found"] ["_law_found"] (Ar Qb):=B4
theorem y6{f:Addr}{fd:FuncData}(F:Ey K "_law_whole" "_law_whole" Qb f fd)(T:Gq K mg Am At Be Bg Ax Ay Ad Bd Bp Bh Av As Bf Bo Aw Au Ag Ac Ai Ao) :Cj P w K mg base Fw 1 f fd ["_law_found"] (Sj K):=by
 refine F.ok v4 (fun vs H Q E h=>?_) (fun Dk A outer s H vs Q E hr h=>?_)
 . obtain⟨_,_,rfl,_⟩:=h;rfl
 . obtain⟨x,d,rfl,hx,k⟩:=h;refine⟨_,(Al (Bq (Qf (Bc (Ho (K:=K)) T.n_isinstance Bi (Aa (pv 0) (Aa (Hm (v:=.ty "int") rfl T.n_int boot_intT rfl) Af))) (Tg (Xr (Bc (Ho (K:=K)) T.n_isinstance Bi (Aa (pv 0) (Aa (Hm (v:=.ty "bool") rfl T.n_bool Up rfl) Af)))))))),?_⟩;refine⟨_,rfl,_,_,d,rfl,.inl rfl,hx,_,rfl,?_⟩;refine ite2 (fun e=>?_) (fun e=>?_)
   . refine⟨_,rfl,_,_,d,rfl,.inr (.inl rfl),hx,_,rfl,?_⟩;have e2:Di d=!g7 "bool" d:=by unfold Di;rw[e];rfl
     rw[e2]at k;exact k
   . have e2:Di d=false:=by unfold Di;simp[e]
     rw[e2]at k;exact k
noncomputable abbrev Lu:Stmt:=Gs 58
theorem Xf:FnScope ["_law_script","_law_k"] ["_law_script","_law_k"] (Ar Lu):=B4
theorem Xx{f:Addr}{fd:FuncData}(F:Ey K "_law_cell_at" "_law_cell_at" Lu f fd)(T:Gq K mg Am At Be Bg Ax Ay Ad Bd Bp Bh Av As Bf Bo Aw Au Ag Ac Ai Ao) :Cj P w K mg base Fw 1 f fd ["_law_script","_law_k"] (Oo K):=by
 refine F.ok Xf (fun vs H Q E h=>?_) (fun Dk A outer s H vs Q E hr h=>?_)
 . obtain⟨_,_,_,rfl,_⟩:=h;rfl
 . obtain⟨a,ns,k,rfl,hS,h0,hl,kq⟩:=h
   refine⟨_,(Ah (Ck (Bt Tk (pv 1) (Bc (Bm (K:=K)) T.n_len qf6 (Aa (pv 0) Af)) (Bx _)) (Al (Bq (Bv (Br (K:=K)) (pv 0) (pv 1) (fun _ _=>rfl)))) Cb)
    (Al (Bq Ak))),?_⟩
   refine⟨_,rfl,_,rfl,a,_,rfl,.inl hS,_,_,rfl,rfl,_,rfl,?_⟩;refine ite2 (fun h1=>?_) (fun h1=>?_)
   . have h2:k<(ns.length:Int):=by simpa using h1
     have e:eU (ns.map V.int) k=some (.int (Io ns k)):=by
      obtain⟨j,rfl⟩:=qg0 h0;refine B5 ?_;have hj:j<ns.length:=O9m
      rw[qb7,qb0 hj];simp[Io,hj]
     exact⟨_,rfl,_,rfl,a,_,k,_,rfl,rfl,hS,e,kq⟩
   . have h2:¬k<(ns.length:Int):=by simpa using h1
     have e:Io ns k=0:=by
      unfold Io;have:ns.length<=k.toNat:=O9m
      simp[this]
     rw[e]at kq;exact kq
noncomputable abbrev Nv:Stmt:=Gs 59
theorem Z0:FnScope ["_law_script","_law_k"] ["_law_script","_law_k"] (Ar Nv):=B4
theorem b6{f:Addr}{fd:FuncData}(F:Ey K "_law_spread" "_law_spread" Nv f fd)(T:Gq K mg Am At Be Bg Ax Ay Ad Bd Bp Bh Av As Bf Bo Aw Au Ag Ac Ai Ao) :Cj P w K mg base Fw 1 f fd ["_law_script","_law_k"] (Ll K):=by
 refine F.ok Z0 (fun vs H Q E h=>?_) (fun Dk A outer s H vs Q E hr h=>?_)
 . obtain⟨_,_,_,rfl,_⟩:=h;rfl
 . obtain⟨a,ns,k,rfl,hS,h0,h1,hl,kq⟩:=h;have PL:((ns.map V.int).length:Int)=(ns.length:Int):=by rw[qa2]
   refine⟨_,(Ah (Ck (Bt Tk (pv 1) (Bc (Bm (K:=K)) T.n_len qf6 (Aa (pv 0) Af)) (Bx _)) (Al (Bq (Bv (Br (K:=K)) (pv 0) (pv 1) (fun _ _=>rfl)))) Cb)
    (Ah (Ck (Bt C6 (Bc (Bm (K:=K)) T.n_len qf6 (Aa (pv 0) Af)) Ak (Bx _)) (Al (Bq (Bn D6 (Bn Ee (pv 1) (pv 1)) (Bn Ee Ak (pv 1))))) Cb)
    (Al (Bq (Bn D6 (Bn Ee (Bv (Br (K:=K)) (pv 0) (Bn Cu (pv 1) (Bc (Bm (K:=K)) T.n_len qf6 (Aa (pv 0) Af))) (fun _ _=>rfl)) (Bn D6 Ak (Bn Ee (pv 1) (pv 1)))) (pv 1)))))),?_⟩
   refine⟨_,rfl,_,rfl,a,_,rfl,.inl hS,_,_,rfl,rfl,_,rfl,?_⟩;refine ite2 (fun c1=>?_) (fun c1=>?_)
   . have c2:k<(ns.length:Int):=by simpa using c1
     have e:eU (ns.map V.int) k=some (.int (ns.getD k.toNat 0)):=by
      obtain⟨j,rfl⟩:=qg0 h0;refine B5 ?_;have hj:j<ns.length:=O9m
      rw[qb7,qb0 hj];simp[hj]
     have es:spreadV ns k=ns.getD k.toNat 0:=by unfold spreadV;rw[if_pos c2]
     rw[es]at kq;exact⟨_,rfl,_,rfl,a,_,k,_,rfl,rfl,hS,e,kq⟩
   have c2:¬k<(ns.length:Int):=by simpa using c1
   refine⟨_,rfl,a,_,rfl,.inl hS,rfl,_,rfl,?_⟩;refine ite2 (fun c3=>?_) (fun c3=>?_)
   . have c4:ns.length=0:=by simpa using c3
     have es:spreadV ns k=k*k+3*k:=by unfold spreadV;rw[if_neg c2,if_pos c4]
     rw[es]at kq;exact⟨_,rfl,_,rfl,_,_,rfl,rfl,Kt O9m O9m,_,rfl,_,_,rfl,rfl,Kt (by decide) (by decide),_,_,rfl,rfl,kq⟩
   have c4:¬ns.length=0:=by simpa using c3
   have hp:(0:Int)<(ns.length:Int):=O9m
   have m0:0<=k%(ns.length:Int):=ql0 _ O9m;have m1:k%(ns.length:Int)<(ns.length:Int):=qn0 _ hp
   have e:eU (ns.map V.int) (k%(ns.length:Int))=some (.int (ns.getD (k%(ns.length:Int)).toNat 0)):=by
    obtain⟨j,hj⟩:=qg0 m0;rw[hj]at m1 ⊢;refine B5 ?_;have hj:j<ns.length:=O9m
    rw[qb7,qb0 hj];simp[hj]
   have es:spreadV ns k=ns.getD (k%(ns.length:Int)).toNat 0*(48271+k*k)+k:=by unfold spreadV;rw[if_neg c2,if_neg c4]
   rw[es]at kq;have h5:k*k<=100000*100000:=qq2 h1 h1 h0 (by decide);have h6:0<=k*k:=qf8 h0 h0;refine⟨_,rfl,_,rfl,_,rfl,a,_,rfl,.inl hS,_,_,rfl,rfl,?_,?_⟩
   . rw[PL];exact hp
   rw[PL];exact⟨a,_,_,_,rfl,rfl,hS,e,_,rfl,_,rfl,_,_,rfl,rfl,Kt O9m O9m,_,_,rfl,rfl,_,_,rfl,rfl,GA O9m O9m,_,rfl,_,_,rfl,rfl,kq⟩
noncomputable abbrev Jq:Stmt:=Gs 60
theorem Sz:FnScope ["_law_cell","_law_kind"] ["_law_cell","_law_kind"] (Ar Jq):=B4
theorem Ts{f:Addr}{fd:FuncData}(F:Ey K "_law_number_by" "_law_number_by" Jq f fd)(T:Gq K mg Am At Be Bg Ax Ay Ad Bd Bp Bh Av As Bf Bo Aw Au Ag Ac Ai Ao) :Cj P w K mg base Fw 1 f fd ["_law_cell","_law_kind"] (Sq K):=by
 refine F.ok Sz (fun vs H Q E h=>?_) (fun Dk A outer s H vs Q E hr h=>?_)
 . obtain⟨_,_,rfl,_⟩:=h;rfl
 . obtain⟨c,kind,rfl,hc,kq⟩:=h;have p4:(0:Int)<4:=by decide
   refine⟨_,(Ah (Ck (Bt C6 (Bn Cu (pv 1) Ak) Ak (Bx _)) (Al (Bq (Bn Kr (Bn Cu (Bn D6 (Bn Ee (pv 0) (Bn w6 Ak Ak)) (pv 0)) (Bn D6 (Bn Ee Ak (Bn w6 Ak Ak)) Ak)) (Bn w6 Ak Ak)))) Cb)
    (Ah (Ck (Bt C6 (Bn Cu (pv 1) Ak) Ak (Bx _)) (Al (Bq (Bn Kr (Bn Cu (Bn Ee (pv 0) Ak) Ak) Ak))) Cb)
    (Ah (Ck (Bt C6 (Bn Cu (pv 1) Ak) Ak (Bx _)) (Al (Bq (Bn Kr (Bn Cu (pv 0) Ak) Ak))) Cb)
    (Al (Bq (Bn Ee (Bn Kr (Bn Cu (pv 0) Ak) Ak) (Bn Cu (Bn Ks (pv 0) Ak) Ak))))))),?_⟩
   refine⟨_,rfl,_,_,rfl,rfl,p4,rfl,_,rfl,?_⟩;refine ite2 (fun c1=>?_) (fun c1=>?_)
   . have c2:kind%4=3:=by simpa using c1
     have es:BK c kind=(c*(1000003:Int) ^ (9:Int).toNat+c)%(2*(10:Int) ^ (20:Int).toNat+1)-(10:Int) ^ (20:Int).toNat:=by unfold BK;rw[if_pos c2]
     rw[es]at kq;exact⟨_,rfl,_,_,rfl,rfl,⟨by decide,by decide,by decide⟩,_,_,rfl,rfl,Nc (m:=Ex+65) (n:=200) hc (by decide +kernel) (by decide),_,rfl,_,_,rfl,rfl,_,_,rfl,rfl,⟨by decide,by decide,by decide⟩,_,_,rfl,rfl,Kt (by decide) (by decide),_,_,rfl,rfl,_,_,rfl,rfl,(by show(0:Int)<2*(10:Int) ^ (20:Int).toNat+1;decide +kernel),_,_,rfl,rfl,⟨by decide,by decide,by decide⟩,_,_,rfl,rfl,kq⟩
   have c2:¬kind%4=3:=by simpa using c1
   refine⟨_,rfl,_,_,rfl,rfl,p4,rfl,_,rfl,?_⟩;refine ite2 (fun c3=>?_) (fun c3=>?_)
   . have c4:kind%4=2:=by simpa using c3
     have es:BK c kind=c*48271%2000003-1000001:=by unfold BK;rw[if_neg c2,if_pos c4]
     rw[es]at kq;exact⟨_,rfl,_,_,rfl,rfl,GA (by decide) (by decide),_,_,rfl,rfl,(by show(0:Int)<2000003;decide),_,_,rfl,rfl,kq⟩
   have c4:¬kind%4=2:=by simpa using c3
   refine⟨_,rfl,_,_,rfl,rfl,p4,rfl,_,rfl,?_⟩;refine ite2 (fun c5=>?_) (fun c5=>?_)
   . have c6:kind%4=1:=by simpa using c5
     have es:BK c kind=c%7-3:=by unfold BK;rw[if_neg c2,if_neg c4,if_pos c6]
     rw[es]at kq;exact⟨_,rfl,_,_,rfl,rfl,(by show(0:Int)<7;decide),_,_,rfl,rfl,kq⟩
   have c6:¬kind%4=1:=by simpa using c5
   have es:BK c kind=(c%9-4)*(c / 9%2):=by unfold BK;rw[if_neg c2,if_neg c4,if_neg c6]
   rw[es]at kq;exact⟨_,rfl,_,_,rfl,rfl,(by show(0:Int)<9;decide),_,_,rfl,rfl,_,rfl,_,_,rfl,rfl,⟨by decide,by decide⟩,_,_,rfl,rfl,(by show(0:Int)<2;decide),_,_,rfl,rfl,Kt O9m O9m,kq⟩
noncomputable abbrev Id:Stmt:=Gs 62
theorem Rl:FnScope ["_law_row","_law_way","_law_to"] ["_law_row","_law_way","_law_to"] (Ar Id):=B4
theorem Rm{f:Addr}{fd:FuncData}(F:Ey K "_law_row_spoilt" "_law_row_spoilt" Id f fd)(T:Gq K mg Am At Be Bg Ax Ay Ad Bd Bp Bh Av As Bf Bo Aw Au Ag Ac Ai Ao) :Cj P w K mg base Fw 1 f fd ["_law_row","_law_way","_law_to"] (W9 K):=by
 refine F.ok Rl (fun vs H Q E h=>?_) (fun Dk A outer s H vs Q E hr h=>?_)
 . obtain⟨_,_,_,_,rfl,_⟩:=h;rfl
 . obtain⟨a,ns,way,to,rfl,hq,hl,hb,k⟩:=h;have hvl:(ns.map V.int).length=ns.length:=qa2 ..
   refine⟨_,(Ah (Ck (Bt C6 (pv 1) Ak (Bx _)) (Al (Bq (Bn (D7 (K:=K)) (pv 0) (Fn (Aa (Bn Cu (pv 2) Ak) Af))))) Cb)
    (Ah (Ck (Bt C6 (pv 1) Ak (Bx _)) (Al (Bq (Gu (Gw (K:=K)) (pv 0) (Iv Ak) Iw))) Cb)
    (Z4 (K:=K) (Bt C6 (pv 1) Ak (Bx _)) (Ce Ig (Ce Ak (Ce Ek (Ce Ti (Ce Ii (Ce (Ej Af) Mo)))))) (Bn Cu (pv 2) Ak) (fun _ _=>rfl)
    (Ah (Ck (Bt C6 (pv 1) Ak (Bx _)) (Al (Bq (D5 (Er (K:=K)) (by rfl) T.n_tuple Gz (Aa (pv 0) Af)))) Cb)
    (Ah (Ck (PW.pt (FL (Bt C6 (pv 1) Ak (Bx _)) (bH (Bt FQ (Bc (Bm (K:=K)) T.n_len qf6 (Aa (pv 0) Af)) Ak (Bx _))))) (Al (Bq (Bn (D7 (K:=K)) (nG.h (iW (D7 (K:=K)) (Gu (Gw (K:=K)) (pv 0) Iw (Iv (Bn Cu (pv 2) (Bc (Bm (K:=K)) T.n_len qf6 (Aa (pv 0) Af))))) (IW (Wb (Xs (K:=K) (Ce Ii (Ce Ii (Ce Ig (Ce Ek (Ce (Fn (Aa Ak Af)) (Ce (Ej (Aa Ak Af)) Mo)))))) (Bn Cu (Bn Ks (pv 2) Ak) Ak) (fun _ _=>rfl)) Mo)))) (Gu (Gw (K:=K)) (pv 0) (Iv (Bn D6 (Bn Cu (pv 2) (Bc (Bm (K:=K)) T.n_len qf6 (Aa (pv 0) Af))) Ak)) Iw)))) Cb)
    (Al (Bq (pv 0)))))))),?_⟩
   refine qs2 (fun σ' H'=>σ'=[rS a,iS way,iS to]/\H=H') (fun key=>?_) ?_
   . refine⟨_,rfl,rfl,_,rfl,?_⟩;refine ite2 (fun h1=>?_) (fun h1=>key _ _ ⟨rfl,rfl⟩);refine⟨_,rfl,_,rfl,_,_,rfl,rfl,(by decide:(0:Int)<5),Cc (by simp),fun q dO=>?_⟩;have Lg:Aj H (upd H q (.lst [.int (to%5)])):=Aj.new dO;have Pd:upd H q (.lst [.int (to%5)]) q=some (.lst [.int (to%5)]):=Ae;generalize upd H q (.lst [.int (to%5)])=G1 at Lg Pd;refine⟨a,q,_,_,rfl,rfl,Lg.seq hq,.of Pd,Cc (by rw[hvl];show _+1<=_;omega),fun l2 hl2=>?_⟩;refine k _ (.d (.lst (Ea (ns++[to%5])))) _ (Lg.trans (Aj.new hl2)) ⟨l2,_,rfl,.of Ae,Dl.mpr (by rw[qc8];rfl)⟩ (Ov (by rw[qe5];show _+1<=_;omega) fun n hn=>?_);rcases qp4.mp hn with hn | hn
     . exact hb n hn
     . rw[List.mem_singleton.mp hn];omega
   refine Eb ?_;refine qs2 (fun σ' H'=>σ'=[rS a,iS way,iS to]/\H=H') (fun key=>?_) ?_
   . refine⟨_,rfl,rfl,_,rfl,?_⟩;refine ite2 (fun h1=>?_) (fun h1=>key _ _ ⟨rfl,rfl⟩);refine⟨_,rfl,_,rfl,a,_,rfl,hq,fun l2 hl2=>?_⟩;obtain⟨cs,ec,hc1,hc2⟩:=gY ns (some 1) none;exact k _ (.d (.lst (Ea cs))) _ (Aj.new hl2) ⟨l2,_,rfl,.of Ae,Dl.mpr ec⟩ (Ov O9m fun n hn=>hb n (hc2 n hn))
   refine Eb ?_;refine qs2 (fun σ' H'=>σ'=[rS a,iS way,iS to]/\H=H') (fun key=>?_) ?_
   . refine⟨_,rfl,rfl,_,rfl,?_⟩;refine ite2 (fun h1=>?_) (fun h1=>key _ _ ⟨rfl,rfl⟩);intro d hd;have Lg:Aj H (upd H d (.dK [])):=Aj.new hd;have Pd:upd H d (.dK []) d=some (.dK []):=Ae;generalize upd H d (.dK [])=G1 at Lg Pd;refine⟨qa8 _,fun p hp=>?_⟩;have Xj:Aj G1 (upd G1 p (.tup [])):=Aj.new hp;have GQ:upd G1 p (.tup []) p=some (.tup []):=Ae;generalize upd G1 p (.tup [])=G2 at Xj GQ;refine⟨Cc (by simp),fun q dO=>?_⟩;have s3:∀o,Aj G2 (upd G2 q o):=fun _=>Aj.new dO;have V9:∀o,Aj H (upd G2 q o):=fun o=>(Lg.trans Xj).trans (s3 o);refine⟨_,rfl,_,_,rfl,rfl,(by decide:(0:Int)<6),?_⟩;rcases (show to%6=0\/to%6=1\/to%6=2\/to%6=3\/to%6=4\/to%6=5 by omega) with e | e | e | e | e | e
     . refine⟨q,_,_,.non,rfl,rfl,.of Ae,by rw[e];rfl,?_⟩;exact k _ (.d .non) _ (V9 _) rfl (Gf rfl Ym)
     . refine⟨q,_,_,.int 3,rfl,rfl,.of Ae,by rw[e];rfl,?_⟩;exact k _ (.d (.int 3)) _ (V9 _) rfl (Gf rfl (aG (by decide)))
     . refine⟨q,_,_,.str (Str.ofString "ab"),rfl,rfl,.of Ae,by rw[e];rfl,?_⟩;exact k _ (.d (.str (Str.ofString "ab"))) _ (V9 _) rfl (Gf rfl jS)
     . refine⟨q,_,_,.ref d,rfl,rfl,.of Ae,by rw[e];rfl,?_⟩;exact k _ .nul _ (V9 _) ⟨d,rfl,.inl (s3 _ _ _ (Xj _ _ Pd))⟩ (Gf rfl AF)
     . refine⟨q,_,_,.bl true,rfl,rfl,.of Ae,by rw[e];rfl,?_⟩;exact k _ (.d (.bl true)) _ (V9 _) rfl (Gf rfl (i9 true))
     . refine⟨q,_,_,.ref p,rfl,rfl,.of Ae,by rw[e];rfl,?_⟩;exact k _ (.d (.tup [])) _ (V9 _) ⟨p,[],rfl,.of (s3 _ _ _ GQ),rfl⟩ (Gf rfl Yl)
   refine Eb ?_;refine qs2 (fun σ' H'=>σ'=[rS a,iS way,iS to]/\H=H') (fun key=>?_) ?_
   . refine⟨_,rfl,rfl,_,rfl,?_⟩;refine ite2 (fun h1=>?_) (fun h1=>key _ _ ⟨rfl,rfl⟩);refine⟨_,rfl,a,_,rfl,.inl ⟨hq,fun q dO=>?_⟩⟩;exact k _ (.d (.tup (Ea ns))) _ (Aj.new dO) ⟨q,_,rfl,.of Ae,Dl.mpr rfl⟩ (BJ O9m hb)
   refine Eb ?_;refine qs2 (fun σ' H'=>σ'=[rS a,iS way,iS to]/\H=H') (fun key=>?_) ?_
   . refine⟨_,rfl,rfl,_,rfl,?_⟩;refine ite2 (fun h1=>?_) (fun h1=>key _ _ ⟨rfl,rfl⟩);refine⟨_,rfl,a,_,rfl,.inl hq,_,_,rfl,rfl,_,rfl,?_⟩;refine ite2 (fun h2=>?_) (fun h2=>key _ _ ⟨rfl,rfl⟩);have hnp:0<ns.length:=by simp at h2;omega
     have tM:0<(ns.length:Int):=O9m
     obtain⟨j,ej⟩:=qg0 (ql0 to (by omega:(ns.length:Int)≠0));have hj:j<ns.length:=by have:=qn0 to tM;omega
     refine⟨_,rfl,_,rfl,_,rfl,a,_,rfl,.inl hq,_,_,rfl,rfl,by rw[hvl];exact tM,_,rfl,a,_,rfl,hq,fun l1 hl1=>?_⟩;have YU:cutV (ns.map V.int) none (some (to%(((ns.map V.int).length:Nat):Int)))=(ns.map V.int).take j:=by rw[hvl,ej];exact j8 _ _
     have yU:cutV (ns.map V.int) (some (to%(((ns.map V.int).length:Nat):Int)+1)) none=(ns.map V.int).drop (j+1):=by rw[hvl,ej];exact j9 _ (j+1)
     rw[YU];have Lg:Aj H (upd H l1 (.lst ((ns.map V.int).take j))):=Aj.new hl1;have Pd:upd H l1 (.lst ((ns.map V.int).take j)) l1=some (.lst ((ns.map V.int).take j)):=Ae;generalize upd H l1 (.lst ((ns.map V.int).take j))=G1 at Lg Pd;refine⟨Cc (by simp),fun p1 hp1=>?_⟩;have Xj:Aj G1 (upd G1 p1 (.lst [.int 1])):=Aj.new hp1;have GQ:upd G1 p1 (.lst [.int 1]) p1=some (.lst [.int 1]):=Ae;generalize upd G1 p1 (.lst [.int 1])=G2 at Xj GQ;refine⟨Cc (by simp),fun p2 hp2=>?_⟩;have v7:Aj G2 (upd G2 p2 (.tup [.int 2])):=Aj.new hp2;have LA:upd G2 p2 (.tup [.int 2]) p2=some (.tup [.int 2]):=Ae;generalize upd G2 p2 (.tup [.int 2])=G3 at v7 LA;refine⟨Cc (by simp),fun q dO=>?_⟩;have bF:Aj G3 (upd G3 q (.tup [.bl true,.bl false,.non,.str (Str.ofString "1"),.ref p1,.ref p2])):=Aj.new dO;have HW:upd G3 q (.tup [.bl true,.bl false,.non,.str (Str.ofString "1"),.ref p1,.ref p2]) q=some (.tup [.bl true,.bl false,.non,.str (Str.ofString "1"),.ref p1,.ref p2]):=Ae;generalize upd G3 q (.tup [.bl true,.bl false,.non,.str (Str.ofString "1"),.ref p1,.ref p2])=G4 at bF HW;have uE:=bF _ _ (v7 _ _ GQ);have UD:=bF _ _ LA
     obtain⟨c,d,hc,hcd,hgd,xK⟩:∃(c:V) (d:L2.D),eU ([.bl true,.bl false,.non,.str (Str.ofString "1"),.ref p1,.ref p2]:List V) (to / 40%6)=some c/\(∀G,Aj G4 G->Rep K G c d)/\Ml d/\Di d=false:=by
      rcases (show to / 40%6=0\/to / 40%6=1\/to / 40%6=2\/to / 40%6=3\/to / 40%6=4\/to / 40%6=5 by omega) with z | z | z | z | z | z
      . exact⟨_,.bl true,by rw[z];rfl,fun _ _=>rfl,bR rfl (i9 true),rfl⟩
      . exact⟨_,.bl false,by rw[z];rfl,fun _ _=>rfl,bR rfl (i9 false),rfl⟩
      . exact⟨_,.non,by rw[z];rfl,fun _ _=>rfl,bR rfl Ym,rfl⟩
      . exact⟨_,.str (Str.ofString "1"),by rw[z];rfl,fun _ _=>rfl,bR rfl JR,rfl⟩
      . exact⟨_,.lst [.int 1],by rw[z];rfl,fun G s=>⟨p1,[.int 1],rfl,.of (s _ _ uE),_,_,rfl,rfl,rfl⟩,qC,rfl⟩
      . exact⟨_,.tup [.int 2],by rw[z];rfl,fun G s=>⟨p2,[.int 2],rfl,.of (s _ _ UD),_,_,rfl,rfl,rfl⟩,qB,rfl⟩
     refine⟨_,rfl,_,_,rfl,rfl,⟨by decide,by decide⟩,_,_,rfl,rfl,(by decide:(0:Int)<6),q,_,_,c,rfl,rfl,.of HW,hc,Cc (by simp),fun q2 hq2=>?_⟩;have iL:Aj G4 (upd G4 q2 (.lst [c])):=Aj.new hq2;have QF:upd G4 q2 (.lst [c]) q2=some (.lst [c]):=Ae;generalize upd G4 q2 (.lst [c])=G5 at iL QF;refine⟨l1,q2,_,_,rfl,rfl,.of (iL _ _ (bF _ _ (v7 _ _ (Xj _ _ Pd)))),.of QF,Cc (by rw[qe3,hvl];show _+1<=_;omega),fun l3 hl3=>?_⟩;have RZ:Aj G5 (upd G5 l3 (.lst ((ns.map V.int).take j++[c]))):=Aj.new hl3;have VY:upd G5 l3 (.lst ((ns.map V.int).take j++[c])) l3=some (.lst ((ns.map V.int).take j++[c])):=Ae;generalize upd G5 l3 (.lst ((ns.map V.int).take j++[c]))=G6 at RZ VY;have iN:=(((((Lg.trans Xj).trans v7).trans bF).trans iL).trans RZ)
     refine⟨_,rfl,_,rfl,_,rfl,a,_,rfl,.inl (iN.seq hq),_,_,rfl,rfl,by rw[hvl];exact tM,_,_,rfl,rfl,_,rfl,a,_,rfl,iN.seq hq,fun l4 pX=>?_⟩;rw[yU];have qU:Aj G6 (upd G6 l4 (.lst ((ns.map V.int).drop (j+1)))):=Aj.new pX;have vY:upd G6 l4 (.lst ((ns.map V.int).drop (j+1))) l4=some (.lst ((ns.map V.int).drop (j+1))):=Ae;generalize upd G6 l4 (.lst ((ns.map V.int).drop (j+1)))=G7 at qU vY;refine⟨l3,l4,_,_,rfl,rfl,.of (qU _ _ VY),.of vY,Cc (by rw[qe5,qe3,qh7,hvl];show _+1+_<=_;omega),fun l5 pW=>?_⟩;rw[BE (by rw[hvl];exact hj)];have WO:=iN.trans qU;refine k _ (.d (.lst ((Ea ns).set j d))) _ (WO.trans (Aj.new pW)) ⟨l5,_,rfl,.of Ae,Z1 (hcd _ (((iL.trans RZ).trans qU).trans (Aj.new pW))) (Dl.mpr rfl) j⟩ (jC O9m hb hj hgd xK)
   refine Eb ?_;exact⟨_,rfl,k _ (.d (.lst (Ea ns))) _ (Aj.refl H) ⟨a,_,rfl,hq,Dl.mpr rfl⟩ (Ov O9m hb)⟩
noncomputable abbrev Qc:Stmt:=Gs 66
theorem Ic:FnScope ["_law_e","_law_marks_here"] ["_law_e"] (Ar Qc):=B4
theorem y7{f:Addr}{fd:FuncData}(F:Ey K "_law_marks" "_law_marks" Qc f fd)(T:Gq K mg Am At Be Bg Ax Ay Ad Bd Bp Bh Av As Bf Bo Aw Au Ag Ac Ai Ao) :CB P w K mg base 1 f fd ["_law_e"] (V3 K Ad):=by
 refine F.okN Ic (fun vs H Q E h=>?_) (fun Dk A outer s H vs Q E hr h=>?_)
 . obtain⟨_,rfl,_⟩:=h;rfl
 . obtain⟨e,rfl,he,k⟩:=h
   refine⟨_,(Ah (Bk (i:=1) Ic.nd (Fn (Aa (Bc (Cm (K:=K)) T.n_isinstance Bi (Aa (pv 0) (Aa (Hm (v:=.ty "ValueError") rfl T.n_ValueError Qv rfl) Af))) (Aa (Bc (Cm (K:=K)) T.n_isinstance Bi (Aa (pv 0) (Aa (Dr (v:=.ref At) (by rfl) T.m_NoShape rfl) Af))) (Aa (Bc (Cm (K:=K)) T.n_isinstance Bi (Aa (pv 0) (Aa (Dr (v:=.ref Be) (by rfl) T.m_NoText rfl) Af))) (Aa (Bc (Cm (K:=K)) T.n_isinstance Bi (Aa (pv 0) (Aa (Dr (v:=.ref Bg) (by rfl) T.m_NoName rfl) Af))) Af))))))
    (Ah (Bk (i:=1) Ic.nd (Bn (D7 (K:=K)) (pv 1) (Fn (Aa (Bc (Cm (K:=K)) T.n_isinstance Bi (Aa (pv 0) (Aa (Dr (v:=.ref Ax) (by rfl) T.m_NoLevel rfl) Af))) (Aa (Bc (Cm (K:=K)) T.n_isinstance Bi (Aa (pv 0) (Aa (Dr (v:=.ref Ay) (by rfl) T.m_NoChain rfl) Af))) (Aa (Bc (Cm (K:=K)) T.n_isinstance Bi (Aa (pv 0) (Aa (Dr (v:=.ref Ad) (by rfl) T.m_NoTable rfl) Af))) Af))))))
    (Ah (Bk (i:=1) Ic.nd (Bn (D7 (K:=K)) (pv 1) (Fn (Aa (Bc (Cm (K:=K)) T.n_isinstance Bi (Aa (pv 0) (Aa (Dr (v:=.ref Bd) (by rfl) T.m_NoTurn rfl) Af))) (Aa (Bc (Cm (K:=K)) T.n_isinstance Bi (Aa (pv 0) (Aa (Dr (v:=.ref Bp) (by rfl) T.m_NoMap rfl) Af))) (Aa (Bc (Cm (K:=K)) T.n_isinstance Bi (Aa (pv 0) (Aa (Dr (v:=.ref Bh) (by rfl) T.m_NoGlue rfl) Af))) (Aa (Bc (Cm (K:=K)) T.n_isinstance Bi (Aa (pv 0) (Aa (Dr (v:=.ref Av) (by rfl) T.m_NoPrime rfl) Af))) Af)))))))
    (Ah (Bk (i:=1) Ic.nd (Bn (D7 (K:=K)) (pv 1) (Fn (Aa (Bc (Cm (K:=K)) T.n_isinstance Bi (Aa (pv 0) (Aa (Dr (v:=.ref As) (by rfl) T.m_NoStage rfl) Af))) (Aa (Bc (Cm (K:=K)) T.n_isinstance Bi (Aa (pv 0) (Aa (Dr (v:=.ref Bf) (by rfl) T.m_NoPair rfl) Af))) (Aa (Bc (Cm (K:=K)) T.n_isinstance Bi (Aa (pv 0) (Aa (Dr (v:=.ref Bo) (by rfl) T.m_NoRow rfl) Af))) Af))))))
    (Al (Bq (Bn (D7 (K:=K)) (pv 1) (Fn (Aa (Bc (Cm (K:=K)) T.n_isinstance Bi (Aa (pv 0) (Aa (Dr (v:=.ref Aw) (by rfl) T.m_NoPiece rfl) Af))) (Aa (Bc (Cm (K:=K)) T.n_isinstance Bi (Aa (pv 0) (Aa (Dr (v:=.ref Au) (by rfl) T.m_NoRound rfl) Af))) Af)))))))))),?_⟩
   refine qs2 (fun σ' H'=>∃M:Addr,σ'=[rS e,rS M]/\Aj H H'/\H' M=some (.lst [.bl true,.bl false,.bl false,.bl false])) (fun key=>?_) ?_
   . exact⟨_,rfl,e,Ad,_,_,_,rfl,rfl,ID,he,T.x_NoTable,T.iv_NoTable,_,rfl,e,Ad,_,_,_,rfl,rfl,Dd,he,T.x_NoTable,T.i_NoTable_NoShape,_,rfl,e,Ad,_,_,_,rfl,rfl,Dd,he,T.x_NoTable,T.i_NoTable_NoText,_,rfl,e,Ad,_,_,_,rfl,rfl,Dd,he,T.x_NoTable,T.i_NoTable_NoName,Cc (by simp),fun M hM=>key _ _ ⟨M,rfl,Aj.new hM,Ae⟩⟩
   refine R8 fun M0 H0 s0 YE=>?_;refine qs2 (fun σ' H'=>∃M:Addr,σ'=[rS e,rS M]/\Aj H H'/\H' M=some (.lst [.bl true,.bl false,.bl false,.bl false,.bl false,.bl false,.bl true])) (fun key=>?_) ?_
   . refine⟨_,rfl,_,rfl,e,Ad,_,_,_,rfl,rfl,Dd,(s0 _ _ he),T.x_NoTable,T.i_NoTable_NoLevel,_,rfl,e,Ad,_,_,_,rfl,rfl,Dd,(s0 _ _ he),T.x_NoTable,T.i_NoTable_NoChain,_,rfl,e,Ad,_,_,_,rfl,rfl,Dd,(s0 _ _ he),T.x_NoTable,T.i_NoTable_NoTable,Cc (by simp),fun N hN=>?_⟩;have Lg:Aj H0 (upd H0 N (.lst [.bl false,.bl false,.bl true])):=Aj.new hN;have Pd:upd H0 N (.lst [.bl false,.bl false,.bl true]) N=some (.lst [.bl false,.bl false,.bl true]):=Ae;generalize upd H0 N (.lst [.bl false,.bl false,.bl true])=G1 at Lg Pd;exact⟨M0,N,_,_,rfl,rfl,.of (Lg _ _ YE),.of Pd,Cc (by simp),fun M hM=>key _ _ ⟨M,rfl,(s0.trans Lg).trans (Aj.new hM),Ae⟩⟩
   refine R8 fun M1 H1 s1 yE=>?_;refine qs2 (fun σ' H'=>∃M:Addr,σ'=[rS e,rS M]/\Aj H H'/\H' M=some (.lst [.bl true,.bl false,.bl false,.bl false,.bl false,.bl false,.bl true,.bl false,.bl false,.bl false,.bl false])) (fun key=>?_) ?_
   . refine⟨_,rfl,_,rfl,e,Ad,_,_,_,rfl,rfl,Dd,(s1 _ _ he),T.x_NoTable,T.i_NoTable_NoTurn,_,rfl,e,Ad,_,_,_,rfl,rfl,Dd,(s1 _ _ he),T.x_NoTable,T.i_NoTable_NoMap,_,rfl,e,Ad,_,_,_,rfl,rfl,Dd,(s1 _ _ he),T.x_NoTable,T.i_NoTable_NoGlue,_,rfl,e,Ad,_,_,_,rfl,rfl,Dd,(s1 _ _ he),T.x_NoTable,T.i_NoTable_NoPrime,Cc (by simp),fun N hN=>?_⟩;have Lg:Aj H1 (upd H1 N (.lst [.bl false,.bl false,.bl false,.bl false])):=Aj.new hN;have Pd:upd H1 N (.lst [.bl false,.bl false,.bl false,.bl false]) N=some (.lst [.bl false,.bl false,.bl false,.bl false]):=Ae;generalize upd H1 N (.lst [.bl false,.bl false,.bl false,.bl false])=G1 at Lg Pd;exact⟨M1,N,_,_,rfl,rfl,.of (Lg _ _ yE),.of Pd,Cc (by simp),fun M hM=>key _ _ ⟨M,rfl,(s1.trans Lg).trans (Aj.new hM),Ae⟩⟩
   refine R8 fun M2 H2 s2 NS=>?_;refine qs2 (fun σ' H'=>∃M:Addr,σ'=[rS e,rS M]/\Aj H H'/\H' M=some (.lst [.bl true,.bl false,.bl false,.bl false,.bl false,.bl false,.bl true,.bl false,.bl false,.bl false,.bl false,.bl false,.bl false,.bl false])) (fun key=>?_) ?_
   . refine⟨_,rfl,_,rfl,e,Ad,_,_,_,rfl,rfl,Dd,(s2 _ _ he),T.x_NoTable,T.i_NoTable_NoStage,_,rfl,e,Ad,_,_,_,rfl,rfl,Dd,(s2 _ _ he),T.x_NoTable,T.i_NoTable_NoPair,_,rfl,e,Ad,_,_,_,rfl,rfl,Dd,(s2 _ _ he),T.x_NoTable,T.i_NoTable_NoRow,Cc (by simp),fun N hN=>?_⟩;have Lg:Aj H2 (upd H2 N (.lst [.bl false,.bl false,.bl false])):=Aj.new hN;have Pd:upd H2 N (.lst [.bl false,.bl false,.bl false]) N=some (.lst [.bl false,.bl false,.bl false]):=Ae;generalize upd H2 N (.lst [.bl false,.bl false,.bl false])=G1 at Lg Pd;exact⟨M2,N,_,_,rfl,rfl,.of (Lg _ _ NS),.of Pd,Cc (by simp),fun M hM=>key _ _ ⟨M,rfl,(s2.trans Lg).trans (Aj.new hM),Ae⟩⟩
   refine R8 fun M3 H3 s3 YD=>?_;refine⟨_,rfl,_,rfl,e,Ad,_,_,_,rfl,rfl,Dd,(s3 _ _ he),T.x_NoTable,T.i_NoTable_NoPiece,_,rfl,e,Ad,_,_,_,rfl,rfl,Dd,(s3 _ _ he),T.x_NoTable,T.i_NoTable_NoRound,Cc (by simp),fun N hN=>?_⟩;have Lg:Aj H3 (upd H3 N (.lst [.bl false,.bl false])):=Aj.new hN;have Pd:upd H3 N (.lst [.bl false,.bl false]) N=some (.lst [.bl false,.bl false]):=Ae;generalize upd H3 N (.lst [.bl false,.bl false])=G1 at Lg Pd;exact⟨M3,N,_,_,rfl,rfl,.of (Lg _ _ YD),.of Pd,Cc (by simp),fun M hM=>k M _ ((s3.trans Lg).trans (Aj.new hM)) Ae⟩
noncomputable abbrev S8:Stmt:=Gs 67
theorem CP:FnScope ["_law_at"] ["_law_at"] (Ar S8):=B4
theorem DC{f:Addr}{fd:FuncData}(F:Ey K "_law_only" "_law_only" S8 f fd)(T:Gq K mg Am At Be Bg Ax Ay Ad Bd Bp Bh Av As Bf Bo Aw Au Ag Ac Ai Ao) :Cj P w K mg base Fw 1 f fd ["_law_at"] (Zr K):=by
 refine F.ok CP (fun vs H Q E h=>?_) (fun Dk A outer s H vs Q E hr h=>?_)
 . obtain⟨_,rfl,_⟩:=h;rfl
 . obtain⟨n,rfl,k⟩:=h;have sW:=hr.u8;refine⟨_,(Al (Bq (Dg (N':=["_law_k","_law_at"]) (cap:=[none,some 0]) (by rfl) (by kernel_rfl) (Dz (by rfl) T.n_range (Aa Ak Af)) (fun _ _ _ _=>(Bs (i:=0) mH)) (fun _ _ _ _=>Da) (fun _ _ _ _=>(Iy (JK (K:=K) sW) (pv 0) (Ej (Aa Ak (Aa (pv 1) Af))) rfl))))),?_⟩;refine⟨_,rfl,by decide,by decide,fun D hD=>?_⟩;refine Gy (n:=16) (fun j ys τ H1=>Aj H H1/\H1 D=some (.lst ys)/\j<=16/\ys=((List.range j).map fun(k:Nat)=>(Ea [0,n]).any fun e=>eqD e (.int (k:Int))).map V.bl/\∃o,τ=[o,iS n]) ⟨Aj.new hD,Ae,qa8 _,rfl,none,rfl⟩ ?_ ?_
   . rintro j ys τ H1 hj ⟨s1,Il,XT,hys,o,rfl⟩;refine⟨_,rfl,_,rfl,Cc (by simp),fun T1 hT1=>?_⟩;have sT:Aj H1 (upd H1 T1 (.tup [.int 0,.int n])):=Aj.new hT1;refine⟨.int (0+(j:Int)),Ea [0,n],rfl,.inr ⟨T1,_,rfl,.of Ae,Dl.mpr rfl⟩,(by rw[Wu];decide),?_⟩;rw[if_neg (by simp)];refine⟨sT _ _ Il,small (by rw[hys,qa2,qa2,qn9];omega),(s1.trans sT).turn hD,Ae,O9m,?_,_,rfl⟩;rw[hys,List.range_succ,qc8,qc8,qi4];rfl
   . rintro ys τ H1 ⟨s1,Il,_,hys,_⟩;rw[hys]at Il;exact k D H1 s1 Il
noncomputable abbrev Fa:Stmt:=Gs 24
theorem Lo:FnScope ["thing","many"] ["thing","many"] (Ar Fa):=B4
theorem Lx{f:Addr}{fd:FuncData}(F:Ey K "is_list_of_wholes" "is_list_of_wholes" Fa f fd)(T:Gq K mg Am At Be Bg Ax Ay Ad Bd Bp Bh Av As Bf Bo Aw Au Ag Ac Ai Ao)(Qq:Has P w K mg base "is_whole" ["thing"] 1 (Lk K)):Cj P w K mg base Fw 2 f fd ["thing","many"] (Jz K):=by
 refine F.ok Lo (fun vs H Q E h=>?_) (fun Dk A outer s H vs Q E hr h=>?_)
 . obtain⟨_,_,_,rfl,_⟩:=h;rfl
 . obtain⟨v,e,w,rfl,hv,hz,k⟩:=h;refine⟨_,(Al (Bq (Qf (Bc (Mu (K:=K)) T.n_isinstance Bi (Aa (pv 0) (Aa (Hm (v:=.ty "list") rfl T.n_list Fp rfl) Af))) (Qf (Iy C6 (Bc (Bm (K:=K)) T.n_len qf6 (Aa (pv 0) Af)) (pv 1) (Bx _)) (Tg (Bc (T6 (K:=K) (by rfl)) T.n_all Wv (Aa (Dg (N':=["number"]) (cap:=[none]) (by rfl) (by kernel_rfl) (Fi (K:=K) (pv 0)) (fun _ _ _ _=>(Bs (i:=0) gA)) (fun _ _ _ _=>Da) (fun _ _ _ _=>(Ba Qq hr (Aa (pv 0) Af)))) Af))))))),?_⟩;refine⟨_,rfl,v,"list",.one e,rfl,.inr (.inr (.inr (.inr (.inl rfl)))),hv,_,rfl,?_⟩;refine ite2 (fun h1=>?_) (fun h1=>?_)
   . obtain⟨ds,rfl⟩:=g6 h1;obtain⟨a,vs,rfl,hq,hr⟩:=hv;have hl:vs.length=ds.length:=hr.length;have hz1:ds.length<=1000:=hz;refine⟨_,rfl,a,_,rfl,.inl hq,_,rfl,rfl,_,rfl,?_⟩;refine ite2 (fun h2=>?_) (fun h2=>?_)
     . refine⟨_,rfl,a,rfl,⟨_,hq⟩,fun D hD=>?_⟩
       refine Ev (K:=K) (a:=a) (xs:=vs) (fun i ys τ H1=>Aj H H1/\H1 D=some (.lst ys)/\ys=((ds.take i).map Di).map V.bl/\∃o,τ=[o])
        ⟨Aj.new hD,Ae,rfl,none,rfl⟩ (fun i ys τ H1 _ ⟨s1,_⟩=>s1.seq hq) ?_ ?_
       . rintro i x ys τ H1 hx ⟨s1,Il,rfl,o,rfl⟩;obtain⟨d,hd,hxd⟩:=hr.getV hx;refine⟨_,rfl,_,d,rfl,Rep.same s1 hxd,Il,small (by simp;omega),s1.turn hD,Ae,?_,_,rfl⟩;rw[Zl hd,qc8];rfl
       . rintro ys τ H1 ⟨s1,Il,rfl,_⟩;refine⟨D,(ds.take vs.length).map Di,rfl,.of Il,?_⟩;have e1:(ds.length:Int)=w:=by simpa[hl]using h2
         have e2:Dp w (.d (.lst ds))=((ds.take vs.length).map Di).all id:=by
          show(decide ((ds.length:Int)=w)&&ds.all Di)=_;rw[hl,qm1,all_map,qj1 e1,qm5]
         have k1:=k H1 s1;rw[e2]at k1;exact k1
     . have e1:¬(ds.length:Int)=w:=by simpa[hl]using h2
       have e2:Dp w (.d (.lst ds))=false:=by
        show(decide ((ds.length:Int)=w)&&ds.all Di)=_;rw[qf0 e1,qj9]
       have e3:decide (V.int vs.length=V.int w)=false:=by simpa using h2
       have k1:=k H (Aj.refl H);rw[e2]at k1
       first | (rw[e3];exact k1) | exact k1
   . have e2:rE "list" (.one e)=false:=by simpa using h1
     have k1:=k H (Aj.refl H);rw[S9 h1]at k1
     first | (rw[e2];exact k1) | exact k1
noncomputable abbrev Qa:Stmt:=Gs 25
theorem v3:FnScope ["table","width"] ["table","width"] (Ar Qa):=B4
theorem y4{f:Addr}{fd:FuncData}(F:Ey K "flipped" "flipped" Qa f fd)(T:Gq K mg Am At Be Bg Ax Ay Ad Bd Bp Bh Av As Bf Bo Aw Au Ag Ac Ai Ao)(Yh:Has P w K mg base "column" ["table","j"] 1 (V1 K)):Cj P w K mg base Fw 2 f fd ["table","width"] (Kh K):=by
 refine F.ok v3 (fun vs H Q E h=>?_) (fun Dk A outer s H vs Q E hr h=>?_)
 . obtain⟨_,_,_,_,rfl,_⟩:=h;rfl
 . obtain⟨v,h,w,f,rfl,hv,hh,hw,k⟩:=h;refine⟨_,(Al (Bq (Dg (N':=["j","table"]) (cap:=[none,some 0]) (by rfl) (by kernel_rfl) (Dz (by rfl) T.n_range (Aa (pv 1) Af)) (fun _ _ _ _=>(Bs (i:=0) pH)) (fun _ _ _ _=>Da) (fun _ _ _ _=>(Ba Yh hr (Aa (pv 1) (Aa (pv 0) Af))))))),?_⟩;refine⟨_,rfl,_,rfl,O9m,O9m,fun D hD=>?_⟩
   refine Gy (fun i ys τ H1=>∃as,as.length=i/\ys=as.map V.ref/\Rows H H1 D as h (fun i j=>f j i)/\∃o,τ=[o,some v])
    ⟨[],rfl,rfl,Rows.nil hD,none,rfl⟩ ?_ ?_
   . rintro i ys τ H1 hi ⟨as,hal,rfl,R,o,rfl⟩;have hi2:i<w:=O9m
     refine⟨_,rfl,_,rfl,v,h,w,i,f,by rw[qi4]<;>rfl,Rep.same R.same hv,hh,hi2,fun D2 H2 BP s2 h2=>?_⟩;exact⟨s2 _ _ R.at,small (by rw[qa2];omega),as++[D2],by simp[hal],by rw[qc8];rfl,R.push BP s2 (by rw[hal];exact h2),_,rfl⟩
   . rintro ys τ H1 ⟨as,hal,rfl,R,_⟩;exact k D as H1 O9m R
noncomputable abbrev v6:Stmt:=Gs 27
theorem iK:FnScope ["size"] ["size"] (Ar v6):=B4
theorem JB{f:Addr}{fd:FuncData}(F:Ey K "ones" "ones" v6 f fd)(T:Gq K mg Am At Be Bg Ax Ay Ad Bd Bp Bh Av As Bf Bo Aw Au Ag Ac Ai Ao)(Ue:Has P w K mg base "one_row" ["size","i"] 1 (Sh K)):Cj P w K mg base Fw 2 f fd ["size"] (W8 K):=by
 refine F.ok iK (fun vs H Q E h=>?_) (fun Dk A outer s H vs Q E hr h=>?_)
 . obtain⟨_,rfl,_⟩:=h;rfl
 . obtain⟨n,rfl,hn,k⟩:=h;refine⟨_,(Al (Bq (Dg (N':=["i","size"]) (cap:=[none,some 0]) (by rfl) (by kernel_rfl) (Dz (by rfl) T.n_range (Aa (pv 0) Af)) (fun _ _ _ _=>(Bs (i:=0) PF)) (fun _ _ _ _=>Da) (fun _ _ _ _=>(Ba Ue hr (Aa (pv 1) (Aa (pv 0) Af))))))),?_⟩;refine⟨_,rfl,_,rfl,O9m,O9m,fun D hD=>?_⟩
   refine Gy (fun i ys τ H1=>∃as,as.length=i/\ys=as.map V.ref/\Rows H H1 D as n (fun i j=>if j=i then 1 else 0)/\∃o,τ=[o,iS n])
    ⟨[],rfl,rfl,Rows.nil hD,none,rfl⟩ ?_ ?_
   . rintro i ys τ H1 hi ⟨as,hal,rfl,R,o,rfl⟩;refine⟨_,rfl,_,rfl,n,i,by rw[qi4]<;>rfl,hn,fun D2 H2 BP s2 h2=>?_⟩;exact⟨s2 _ _ R.at,small (by rw[qa2];omega),as++[D2],by simp[hal],by rw[qc8];rfl,R.push BP s2 (by rw[hal];exact h2),_,rfl⟩
   . rintro ys τ H1 ⟨as,hal,rfl,R,_⟩;exact k D as H1 O9m R
noncomputable abbrev S0:Stmt:=Gs 33
theorem P4:FnScope ["lines","turn","told","i"] ["lines","turn"] (Ar S0):=B4
theorem cX{f:Addr}{fd:FuncData}(F:Ey K "turned" "turned" S0 f fd)(T:Gq K mg Am At Be Bg Ax Ay Ad Bd Bp Bh Av As Bf Bo Aw Au Ag Ac Ai Ao)(Jx:Has P w K mg base "mixed" ["a","one","b","other"] 1 (Si K)):Cj P w K mg base Fw 2 f fd ["lines","turn"] (So K):=by
 refine F.ok P4 (fun vs H Q E h=>?_) (fun Dk A outer s H vs Q E hr h=>?_)
 . obtain⟨_,_,_,_,_,_,_,rfl,_⟩:=h;rfl
 . obtain⟨r,u,as,n,W,f,t,rfl,x,hu,hm,hn,hW,k⟩:=h;have hq:SqL K H r (as.map V.ref):=.of x.2.1
   refine⟨_,(Ah (Bk (i:=2) P4.nd (D5 (Ju (K:=K)) (by rfl) T.n_list Fp (Aa (pv 0) Af)))
    (Ah (Bk (i:=3) P4.nd (Bv (B7 (K:=K)) (pv 1) Ak (fun _ _=>rfl)))
    (Ah (Ck (Bt C6 (Bv (B7 (K:=K)) (pv 1) Ak (fun _ _=>rfl)) Ek (Bx _)) (Al (Js (Dg (N':=["number"]) (cap:=[none]) (by rfl) (by kernel_rfl) (Fi (K:=K) (Bv (Br (K:=K)) (pv 0) (pv 3) (fun _ _=>rfl))) (fun _ _ _ _=>(Bs (i:=0) gA)) (fun _ _ _ _=>Da) (fun _ _ _ _=>(Lw Hw (pv 0)))) (Jt (pv 2) (pv 3) Ff))) (Al (Ck (Bt C6 (Bv (B7 (K:=K)) (pv 1) Ak (fun _ _=>rfl)) Ek (Bx _)) (Ah (Js (Bv (Br (K:=K)) (pv 0) (Bv (B7 (K:=K)) (pv 1) Ak (fun _ _=>rfl)) (fun _ _=>rfl)) (Jt (pv 2) (pv 3) Ff))
    (Al (Js (Bv (Br (K:=K)) (pv 0) (pv 3) (fun _ _=>rfl)) (Jt (pv 2) (Bv (B7 (K:=K)) (pv 1) Ak (fun _ _=>rfl)) Ff)))) (Al (Js (Ba Jx hr (Aa Ak (Aa (Bv (Br (K:=K)) (pv 0) (pv 3) (fun _ _=>rfl)) (Aa (Bv (B7 (K:=K)) (pv 1) Ak (fun _ _=>rfl)) (Aa (Bv (Br (K:=K)) (pv 0) (Bv (B7 (K:=K)) (pv 1) Ak (fun _ _=>rfl)) (fun _ _=>rfl)) Af))))) (Jt (pv 2) (pv 3) Ff))))))
    (Al (Bq (pv 2)))))),?_⟩
   refine⟨_,rfl,r,as.map V.ref,rfl,.inl hq,fun L hL=>?_⟩;have sL:Aj H (upd H L (.lst (as.map V.ref))):=Aj.new hL;generalize YG:upd H L (.lst (as.map V.ref))=HL at sL;have VR:HL L=some (.lst (as.map V.ref)):=by rw[←YG];exact Ae
   have tD:SqL K HL r (as.map V.ref):=sL.seq hq
   have fin:∀(i:Nat) (D:Addr) (H1:Hp),i<n->HL D=none->Aj HL H1->H1 D=some (.lst (VI W (IE t f i)))->(∀r,r≠i->IE t f r=f r)->H1 L=some (.lst (as.map V.ref))/\Q (.ref L) (upd H1 L (.lst ((as.map V.ref).set i (.ref D)))):=by
    intro i D H1 hi hD s1 h1 he;have VB:D≠L:=fun z=>by rw[z,VR]at hD;cases hD
    refine⟨s1 _ _ VR,?_⟩;have s2:Aj H (upd H1 L (.lst ((as.map V.ref).set i (.ref D)))):=(sL.trans s1).turn hL;refine k L (as.set i D) _ hL s2 (x.made s2 hi Ae (by rw[Bb VB];exact h1) he) fun a ha=>?_;rcases qg6 ha with ha | rfl
    . exact⟨.inl ha,fun z=>x.there.2 a ha (z▸hL)⟩
    . exact⟨.inr (sL.free hD),VB⟩
   cases t with
   | sw i j=>exact hm.elim
   | mi i =>
     have hi:i<n:=hm;obtain⟨ta,vs,rfl,hT,rT⟩:=hu;obtain⟨_,_,rfl,rfl,_,_,rfl,rfl,rfl⟩:=rT;have hT1:Fe K HL ta [V.str "minus",V.int i]:=sL.seqT hT;obtain⟨b,_,eb,_,hb⟩:=x.row (K:=K) hi;refine⟨_,rfl,ta,_,_,_,rfl,rfl,hT1,rfl,?_⟩;refine⟨_,rfl,ta,_,_,_,rfl,rfl,hT1,rfl,rfl,_,rfl,?_⟩;refine bO (by decide +kernel) ?_;refine⟨_,rfl,_,rfl,r,_,_,_,rfl,rfl,tD,B5 eb,b,rfl,⟨_,sL.seq hb⟩,fun D hD=>?_⟩
     refine Ev (K:=K) (a:=b) (xs:=VI W (f i)) (fun c ys τ H1=>Aj HL H1/\H1 D=some (.lst ys)/\ys=VI c (fun c=>-(f i c))/\∃o,τ=[o])
      ⟨Aj.new hD,Ae,rfl,none,rfl⟩ (fun c ys τ H1 _ ⟨s1,_⟩=>s1.seq (sL.seq hb)) ?_ ?_
     . rintro c y ys τ H1 hx ⟨s1,Il,rfl,o,rfl⟩;obtain⟨hc,rfl⟩:=K6 hx;refine⟨_,rfl,_,rfl,Il,small (by rw[By];omega),s1.turn hD,Ae,?_,_,rfl⟩;rw[Gp]
     . rintro ys τ H1 ⟨s1,Il,rfl,_⟩;rw[By]at Il;obtain⟨f1,f2⟩:=fin i D H1 hi hD s1 (by rw[Il];congr 2;exact Pp fun c _=>by simp[IE]) fun r hr=>by funext c;simp[IE,hr]
       exact⟨_,rfl,_,rfl,L,_,_,i,rfl,rfl,f1,Jb (by rw[qa2,x.1];exact hi),⟨_,rfl,f2⟩⟩
   | ad i j m =>
     obtain⟨hi,hj,hij,hm⟩:=hm;obtain⟨ta,vs,rfl,hT,rT⟩:=hu;obtain⟨_,_,rfl,rfl,_,_,rfl,rfl,_,_,rfl,rfl,_,_,rfl,rfl,rfl⟩:=rT;have hT1:Fe K HL ta [V.str "add",V.int i,V.int j,V.int m]:=sL.seqT hT;obtain⟨bi,_,YV,_,hbi⟩:=x.row (K:=K) hi;obtain⟨bj,_,yV,_,tP⟩:=x.row (K:=K) hj;refine⟨_,rfl,ta,_,_,_,rfl,rfl,hT1,rfl,?_⟩;refine⟨_,rfl,ta,_,_,_,rfl,rfl,hT1,rfl,rfl,_,rfl,?_⟩;refine aC (by decide +kernel) ?_;refine⟨_,rfl,ta,_,_,_,rfl,rfl,hT1,rfl,rfl,_,rfl,?_⟩;refine aC (by decide +kernel) ?_;refine⟨_,rfl,_,rfl,r,_,_,_,rfl,rfl,tD,B5 YV,_,rfl,ta,_,_,_,rfl,rfl,hT1,rfl,_,rfl,_,rfl,ta,_,_,_,rfl,rfl,hT1,rfl,r,_,_,_,rfl,rfl,tD,B5 yV,?_⟩;refine⟨1,m,bi,bj,W,f i,f j,rfl,sL.seq hbi,sL.seq tP,hW,fun c hc=>⟨Kt (by decide) (by decide),hm c hc⟩,fun D H1 hD s1 Il=>?_⟩;obtain⟨f1,f2⟩:=fin i D H1 hi hD s1 (by rw[Il];congr 2;exact Pp fun c _=>by simp[IE]) fun r hr=>by funext c;simp[IE,hr]
     exact⟨_,rfl,_,rfl,L,_,_,i,rfl,rfl,f1,Jb (by rw[qa2,x.1];exact hi),⟨_,rfl,f2⟩⟩
noncomputable abbrev Eh:Stmt:=El (Gs 35) 2
theorem C4:FnScope ["self","i","j","one","other","papers","a","b","c","d","row","back"] ["self","i","j","one","other"] (Ar Eh):=B4
theorem L3{f:Addr}{fd:FuncData}(F:Ey K "blend" "Lines.blend" Eh f fd)(T:Gq K mg Am At Be Bg Ax Ay Ad Bd Bp Bh Av As Bf Bo Aw Au Ag Ac Ai Ao)(Fl:Has P w K mg base "shared_divisor" ["one","other"] 1 (Q6 K))(Jx:Has P w K mg base "mixed" ["a","one","b","other"] 1 (Si K)):Cj P w K mg base Fw 2 f fd ["self","i","j","one","other"] (J0 K Ag Ac Ai):=by
 refine F.ok C4 (fun vs H Q E h=>?_) (fun Dk A outer s H vs Q E hr h=>?_)
 . obtain⟨_,_,_,_,_,_,_,_,_,_,_,_,_,rfl,_⟩:=h;rfl
 . obtain⟨p,C,r,b,sv,n,W,i,j,A,B,s,N,rfl,hC,x,hi,hj,hij,hn,hW,hA,hB,lA,lB,bo,k⟩:=h;obtain⟨dx,fs,hp,l1,l2,l3,l4,l5⟩:=x.ob;obtain⟨as,xa,na⟩:=x.rw;obtain⟨bs,xb,nb⟩:=x.bk;obtain⟨pr,pb⟩:=x.refs;have rb:=x.ne
   have hc:Cls K C/\NoAttr K C "rows"/\NoAttr K C "backs":=by
    rcases hC with rfl | rfl
    . exact⟨T.cl_Lines,T.na_Lines_rows,T.na_Lines_backs⟩
    . exact⟨T.cl_Stairs,T.na_Stairs_rows,T.na_Stairs_backs⟩
   refine⟨_,(Ah (Bk (i:=5) C4.nd (Ba Fl hr (Aa (pv 3) (Aa (pv 4) Af))))
    (Ah (Bk (i:=6) C4.nd (Bv (B7 (K:=K)) (pv 5) Ak (fun _ _=>rfl)))
    (Ah (Bk (i:=7) C4.nd (Bv (B7 (K:=K)) (pv 5) Ak (fun _ _=>rfl)))
    (Ah (Bk (i:=8) C4.nd (Lw Hw (Bn Gv (pv 4) (Bv (B7 (K:=K)) (pv 5) Ak (fun _ _=>rfl)))))
    (Ah (Bk (i:=9) C4.nd (Bn Gv (pv 3) (Bv (B7 (K:=K)) (pv 5) Ak (fun _ _=>rfl))))
    (Ah (Bk (i:=10) C4.nd (Bv (Br (K:=K)) (Bl (K:=K) (pv 0)) (pv 1) (fun _ _=>rfl)))
    (Ah (Js (Ba Jx hr (Aa (pv 6) (Aa (pv 10) (Aa (pv 7) (Aa (Bv (Br (K:=K)) (Bl (K:=K) (pv 0)) (pv 2) (fun _ _=>rfl)) Af))))) (Jt (Bl (K:=K) (pv 0)) (pv 1) Ff))
    (Ah (Js (Ba Jx hr (Aa (pv 8) (Aa (pv 10) (Aa (pv 9) (Aa (Bv (Br (K:=K)) (Bl (K:=K) (pv 0)) (pv 2) (fun _ _=>rfl)) Af))))) (Jt (Bl (K:=K) (pv 0)) (pv 2) Ff))
    (Ah (Bk (i:=11) C4.nd (Bv (Br (K:=K)) (Bl (K:=K) (pv 0)) (pv 1) (fun _ _=>rfl)))
    (Ah (Js (Ba Jx hr (Aa (pv 9) (Aa (pv 11) (Aa (Lw Hw (pv 8)) (Aa (Bv (Br (K:=K)) (Bl (K:=K) (pv 0)) (pv 2) (fun _ _=>rfl)) Af))))) (Jt (Bl (K:=K) (pv 0)) (pv 1) Ff))
    (Ah (Js (Ba Jx hr (Aa (Lw Hw (pv 7)) (Aa (pv 11) (Aa (pv 6) (Aa (Bv (Br (K:=K)) (Bl (K:=K) (pv 0)) (pv 2) (fun _ _=>rfl)) Af))))) (Jt (Bl (K:=K) (pv 0)) (pv 2) Ff))
    (Al (Bq (pv 5)))))))))))))),?_⟩
   refine qs2 (fun σ' H'=>∃(L:Addr) (g a c:Int),σ'=[rS p,iS i,iS j,iS A,iS B,rS L,none,none,none,none,none,none]/\Aj H H'/\Fe K H' L [.int g,.int a,.int c]/\Lat.Shares A B g a c) (fun key=>?_) ?_
   . exact⟨_,rfl,_,rfl,A,B,rfl,hA,hB,lA,lB,fun L g a c H1 s1 hL sh=>key _ _ ⟨L,g,a,c,rfl,s1,hL,sh⟩⟩
   refine OB fun L g a c H1 s1 hL sh=>?_;have g0:=sh.pos;have lg:g.natAbs<L9:=qa4 (Nat.le_of_dvd (Int.natAbs_pos.mpr O9m) (qp5.mpr sh.dA)) lA;have cb:∀z:Int,Px z g:=fun z=>Px.of9 O9m lg;have la:a.natAbs<L9:=qa4 sh.la lB;have lc:c.natAbs<L9:=qa4 sh.lb lA;have eB:B.fdiv g=B / g:=qd6 _ O9m;have eA:A.fdiv g=A / g:=qd6 _ O9m;have wY:(B / g).natAbs<L9:=qa4 (qe0 _ _) lB;have lz:(-(B / g)).natAbs<L9:=by rw[qb4];exact wY
   have lu:(A / g).natAbs<L9:=qa4 (qe0 _ _) lA;have hp1:=s1 _ _ hp;have hr1:=s1 _ _ xa.2.1;obtain⟨ci,_,ET,vD,dR⟩:=xa.row (K:=K) hi;obtain⟨cj,_,NT,wX,PY⟩:=xa.row (K:=K) hj;obtain⟨di,_,qF,sJ,hdi⟩:=xb.row (K:=K) hi;obtain⟨dj,_,rN,VC,tO⟩:=xb.row (K:=K) hj;have mk:∀{u:Int}{k c U:Nat}{f:Lat.Mat},u.natAbs<L9->Lat.Bits n U big f->k<n->c<U->IntMulOk u (f k c):=fun h1 h2 h3 h4=>y9 h1 (h2 _ _ h3 h4);refine⟨_,rfl,L,_,_,_,rfl,rfl,hL,rfl,?_⟩;refine⟨_,rfl,L,_,_,_,rfl,rfl,hL,rfl,?_⟩;refine⟨_,rfl,_,rfl,L,_,_,_,rfl,rfl,hL,rfl,_,_,rfl,rfl,cb _,_,rfl,?_⟩;refine⟨_,rfl,_,rfl,L,_,_,_,rfl,rfl,hL,rfl,_,_,rfl,rfl,cb _,?_⟩;refine⟨_,rfl,p,C,dx,fs,_,rfl,hp1,hc.1,hc.2.1,l1,_,rfl,r,_,_,_,rfl,rfl,.of hr1,B5 ET,?_⟩;refine Ap (fun σ' H'=>σ'=[rS p,iS i,iS j,iS A,iS B,rS L,iS a,iS c,some (.int (-(B / g))),some (.int (A / g)),rS ci,none]/\H1=H') ?_ fun key=>key _ _ ⟨by rw[←eA,←eB];rfl,rfl⟩;refine Eb ?_;refine qs2 (fun σ' H'=>∃D1,σ'=[rS p,iS i,iS j,iS A,iS B,rS L,iS a,iS c,some (.int (-(B / g))),some (.int (A / g)),rS ci,none]/\Q0 r b H1 H'/\Kp H1 H'/\H1 D1=none/\H' b=H1 b/\H' r=some (.lst ((as.map V.ref).set i (.ref D1)))/\H' D1=some (.lst (VI W fun k=>a*s.1 i k+c*s.1 j k))) (fun key=>?_) ?_
   . refine⟨_,rfl,_,rfl,_,rfl,_,rfl,p,C,dx,fs,_,rfl,hp1,hc.1,hc.2.1,l1,_,rfl,r,_,_,_,rfl,rfl,.of hr1,B5 NT,?_⟩;refine⟨a,c,ci,cj,W,s.1 i,s.1 j,rfl,s1.seq dR,s1.seq PY,hW,fun k hk=>⟨mk la bo.1 hi hk,mk lc bo.1 hj hk⟩,fun D1 H2 Il s2 h2=>?_⟩;have nD:D1≠r:=fun z=>by rw[z,hr1]at Il;cases Il
     refine⟨_,rfl,p,C,dx,fs,_,rfl,(s2 _ _ hp1),hc.1,hc.2.1,l1,_,rfl,r,_,_,i,rfl,rfl,s2 _ _ hr1,Jb (by rw[qa2,xa.1];exact hi),?_⟩;exact key _ _ ⟨D1,rfl,(Q0.of s2).l,(Kp.of s2).trans Kp.upd,Il,by rw[Bb rb.symm,s2 _ _ (s1 _ _ xb.2.1),s1 _ _ xb.2.1],Ae,by rw[Bb nD];exact h2⟩
   refine aZ fun D1 H3 HU PM n1 b3 r3 d3=>?_;have hp3:=HU _ _ pr pb hp1;have kr:∀{G:Hp}{c:Addr},Q0 r b H1 G->c∈as->∀o,H c=some o->G c=some o:=fun fr hc o e=>fr _ _ (na _ hc).1 (na _ hc).2.1 (s1 _ _ e);have kb:∀{G:Hp}{c:Addr},Q0 r b H1 G->c∈bs->∀o,H c=some o->G c=some o:=fun fr hc o e=>fr _ _ (nb _ hc).1 (nb _ hc).2.1 (s1 _ _ e);have qr:∀{G:Hp}{k:Nat}{c:Addr},Q0 r b H1 G->c∈as->SqL K H c (VI W (s.1 k))->as[k]?=some c->SqL K G c (VI W (s.1 k)):=fun fr hc _ e=>.of (kr fr hc _ (xa.2.2 _ _ e));have SA:as[i]?=some ci:=by rw[qb7]at ET;obtain⟨z,e1,e2⟩:=ql3.mp ET;cases e2;exact e1
   have WS:as[j]?=some cj:=by rw[qb7]at NT;obtain⟨z,e1,e2⟩:=ql3.mp NT;cases e2;exact e1
   have QV:bs[i]?=some di:=by rw[qb7]at qF;obtain⟨z,e1,e2⟩:=ql3.mp qF;cases e2;exact e1
   have uW:bs[j]?=some dj:=by rw[qb7]at rN;obtain⟨z,e1,e2⟩:=ql3.mp rN;cases e2;exact e1
   have RQ:D1≠r:=fun z=>by rw[z,hr1]at n1;cases n1
   have rR:D1≠b:=fun z=>by rw[z,s1 _ _ xb.2.1]at n1;cases n1
   refine qs2 (fun σ' H'=>∃D2,σ'=[rS p,iS i,iS j,iS A,iS B,rS L,iS a,iS c,some (.int (-(B / g))),some (.int (A / g)),rS ci,none]/\Q0 r b H3 H'/\Kp H3 H'/\H3 D2=none/\H' b=H3 b/\H' r=some (.lst (((as.map V.ref).set i (.ref D1)).set j (.ref D2)))/\H' D2=some (.lst (VI W fun k=>-(B / g)*s.1 i k+A / g*s.1 j k))) (fun key=>?_) ?_
   . refine⟨_,rfl,_,rfl,_,rfl,_,rfl,p,C,dx,fs,_,rfl,hp3,hc.1,hc.2.1,l1,_,rfl,r,_,_,_,rfl,rfl,.of r3,B5 (by rw[qj5 hij];exact NT),?_⟩;refine⟨-(B / g),A / g,ci,cj,W,s.1 i,s.1 j,rfl,qr HU vD dR SA,qr HU wX PY WS,hW,fun k hk=>⟨mk lz bo.1 hi hk,mk lu bo.1 hj hk⟩,fun D2 H4 BP s4 h4=>?_⟩;have nD:D2≠r:=fun z=>by rw[z,r3]at BP;cases BP
     refine⟨_,rfl,p,C,dx,fs,_,rfl,(s4 _ _ hp3),hc.1,hc.2.1,l1,_,rfl,r,_,_,j,rfl,rfl,s4 _ _ r3,Jb (by rw[qi2,qa2,xa.1];exact hj),?_⟩;refine key _ _ ⟨D2,rfl,(Q0.of s4).l,(Kp.of s4).trans Kp.upd,BP,?_,Ae,by rw[Bb nD];exact h4⟩;have e3:H3 b=some (.lst (bs.map V.ref)):=by rw[b3];exact s1 _ _ xb.2.1
     rw[Bb rb.symm,s4 _ _ e3,e3]
   refine aZ fun D2 H5 mX nP n2 b5 r5 d5=>?_;have e5:H5 b=some (.lst (bs.map V.ref)):=by rw[b5,b3];exact s1 _ _ xb.2.1
   have mY:=HU.trans mX;have DO:=mX _ _ pr pb hp3;have UN:D2≠r:=fun z=>by rw[z,r3]at n2;cases n2
   have uO:D2≠b:=fun z=>by rw[z,b3,s1 _ _ xb.2.1]at n2;cases n2
   refine⟨_,rfl,p,C,dx,fs,_,rfl,DO,hc.1,hc.2.2,l2,_,rfl,b,_,_,_,rfl,rfl,.of e5,B5 qF,?_⟩;refine Ap (fun σ' H'=>σ'=[rS p,iS i,iS j,iS A,iS B,rS L,iS a,iS c,some (.int (-(B / g))),some (.int (A / g)),rS ci,rS di]/\H5=H') ?_ fun key=>key _ _ ⟨rfl,rfl⟩;refine Eb ?_;refine qs2 (fun σ' H'=>∃D3,σ'=[rS p,iS i,iS j,iS A,iS B,rS L,iS a,iS c,some (.int (-(B / g))),some (.int (A / g)),rS ci,rS di]/\Q0 r b H5 H'/\Kp H5 H'/\H5 D3=none/\H' r=H5 r/\H' b=some (.lst ((bs.map V.ref).set i (.ref D3)))/\H' D3=some (.lst (VI n fun k=>A / g*s.2 i k+-(-(B / g))*s.2 j k))) (fun key=>?_) ?_
   . refine⟨_,rfl,_,rfl,_,rfl,_,rfl,_,rfl,p,C,dx,fs,_,rfl,DO,hc.1,hc.2.2,l2,_,rfl,b,_,_,_,rfl,rfl,.of e5,B5 rN,?_⟩;refine⟨A / g,-(-(B / g)),di,dj,n,s.2 i,s.2 j,rfl,.of (kb mY sJ _ (xb.2.2 _ _ QV)),.of (kb mY VC _ (xb.2.2 _ _ uW)),hn,fun k hk=>⟨mk lu bo.2 hi hk,mk (by rw[qb4];exact lz) bo.2 hj hk⟩,fun D3 H6 GJ s6 h6=>?_⟩;have nD:D3≠b:=fun z=>by rw[z,e5]at GJ;cases GJ
     refine⟨_,rfl,p,C,dx,fs,_,rfl,(s6 _ _ DO),hc.1,hc.2.2,l2,_,rfl,b,_,_,i,rfl,rfl,s6 _ _ e5,Jb (by rw[qa2,xb.1];exact hi),?_⟩;exact key _ _ ⟨D3,rfl,(Q0.of s6).r,(Kp.of s6).trans Kp.upd,GJ,by rw[Bb rb,s6 _ _ r5,r5],Ae,by rw[Bb nD];exact h6⟩
   refine aZ fun D3 H7 RL vH n3 r7 b7 d7=>?_;have MX:=mY.trans RL;have VN:=RL _ _ pr pb DO;have wD:D3≠r:=fun z=>by rw[z,r5]at n3;cases n3
   have WD:D3≠b:=fun z=>by rw[z,e5]at n3;cases n3
   refine qs2 (fun σ' H'=>∃D4,σ'=[rS p,iS i,iS j,iS A,iS B,rS L,iS a,iS c,some (.int (-(B / g))),some (.int (A / g)),rS ci,rS di]/\Q0 r b H7 H'/\Kp H7 H'/\H7 D4=none/\H' r=H7 r/\H' b=some (.lst (((bs.map V.ref).set i (.ref D3)).set j (.ref D4)))/\H' D4=some (.lst (VI n fun k=>-c*s.2 i k+a*s.2 j k))) (fun key=>?_) ?_
   . refine⟨_,rfl,_,rfl,_,rfl,_,rfl,_,rfl,p,C,dx,fs,_,rfl,VN,hc.1,hc.2.2,l2,_,rfl,b,_,_,_,rfl,rfl,.of b7,B5 (by rw[qj5 hij];exact rN),?_⟩;refine⟨-c,a,di,dj,n,s.2 i,s.2 j,rfl,.of (kb MX sJ _ (xb.2.2 _ _ QV)),.of (kb MX VC _ (xb.2.2 _ _ uW)),hn,fun k hk=>⟨mk (by rw[qb4];exact lc) bo.2 hi hk,mk la bo.2 hj hk⟩,fun D4 H8 tW s8 h8=>?_⟩;have nD:D4≠b:=fun z=>by rw[z,b7]at tW;cases tW
     refine⟨_,rfl,p,C,dx,fs,_,rfl,(s8 _ _ VN),hc.1,hc.2.2,l2,_,rfl,b,_,_,j,rfl,rfl,s8 _ _ b7,Jb (by rw[qi2,qa2,xb.1];exact hj),?_⟩;refine key _ _ ⟨D4,rfl,(Q0.of s8).r,(Kp.of s8).trans Kp.upd,tW,?_,Ae,by rw[Bb nD];exact h8⟩;have e7:=r7.trans r5;rw[Bb rb,s8 _ _ e7,e7]
   refine aZ fun D4 H9 rL xC n4 r9 b9 d9=>?_;have dS:=MX.trans rL;have ZD:D4≠r:=fun z=>by rw[z,r7,r5]at n4;cases n4
   have zE:D4≠b:=fun z=>by rw[z,b7]at n4;cases n4
   have vI:Kp H1 H9:=((PM.trans nP).trans vH).trans xC;have u1:H D1=none:=s1.free n1
   have W6:∀{G:Hp}{D:Addr},Kp H G->G D=none->H D=none:=fun kp e=>by
    cases z:H _ with
    | none=>rfl
    | some o=>exact absurd e (kp _ (by rw[z];exact fun q=>by cases q))
   have pN:Kp H H1:=Kp.of s1;have u2:H D2=none:=W6 (pN.trans PM) n2;have u3:H D3=none:=W6 ((pN.trans PM).trans nP) n3;have u4:H D4=none:=W6 (((pN.trans PM).trans nP).trans vH) n4;have nN:∀a,H a=none->¬N a:=fun a e z=>x.nn a z e
   have yF:Fe K H9 L [.int g,.int a,.int c]:=by
    rcases hL with h | h
    . exact .inl (by
       have VQ:L≠r:=fun z=>by rw[z]at h;rcases h with h|⟨_,h⟩<;>rw[hr1]at h<;>cases h
       have vR:L≠b:=fun z=>by rw[z]at h;rcases h with h|⟨_,h⟩<;>rw[s1 _ _ xb.2.1]at h<;>cases h
       rcases h with h|⟨q,h⟩
       . exact .inl (dS _ _ VQ vR h)
       . exact .inr ⟨q,dS _ _ VQ vR h⟩)
    . exact .inr h
   refine⟨_,rfl,k L g a c H9 ((Q0.of s1).trans dS) (pN.trans vI) yF sh ⟨⟨dx,fs,dS _ _ pr pb hp1,l1,l2,l3,l4,l5⟩,⟨_,xa.two (D1:=D1) (D2:=D2) hi hj hij ?_ (fun a ha=>kr dS ha) ?_ ?_ ?_,fun a ha=>?_⟩,⟨_,xb.two hi hj hij b9 (fun a ha=>kb dS ha) ?_ ?_ ?_,fun a ha=>?_⟩,rb,x.nr,x.nb,fun a ha z=>x.nn a ha (W6 (pN.trans vI) z)⟩⟩
   . rw[r9,r7,r5]
   . show H9 D1=some (.lst (VI W (Lat.blendR s.1 i j a c (-(B / g)) (A / g) i)));rw[Lat.blend_row_p hij];exact(rL _ _ RQ rR (RL _ _ RQ rR (mX _ _ RQ rR d3)))
   . show H9 D2=some (.lst (VI W (Lat.blendR s.1 i j a c (-(B / g)) (A / g) j)));rw[Lat.blend_row_q];exact(rL _ _ UN uO (RL _ _ UN uO d5))
   . exact fun k k1 k2=>Lat.blend_row_ne k1 k2 _ _ _ _
   . rcases BL ha with ha | rfl | rfl
     . exact na a ha
     . exact⟨RQ,rR,nN _ u1⟩
     . exact⟨UN,uO,nN _ u2⟩
   . show H9 D3=some (.lst (VI n (Lat.blendR s.2 i j (A / g) (-(-(B / g))) (-c) a i)));rw[Lat.blend_row_p hij];exact rL _ _ wD WD d7
   . show H9 D4=some (.lst (VI n (Lat.blendR s.2 i j (A / g) (-(-(B / g))) (-c) a j)));rw[Lat.blend_row_q];exact d9
   . exact fun k k1 k2=>Lat.blend_row_ne k1 k2 _ _ _ _
   . rcases BL ha with ha | rfl | rfl
     . exact nb a ha
     . exact⟨wD,WD,nN _ u3⟩
     . exact⟨ZD,zE,nN _ u4⟩
noncomputable abbrev Hd:Stmt:=El (Gs 38) 0
theorem P7:FnScope ["self","rows","backs"] ["self","rows","backs"] (Ar Hd):=B4
theorem Qj{f:Addr}{fd:FuncData}(F:Ey K "__init__" "Stairs.__init__" Hd f fd)(T:Gq K mg Am At Be Bg Ax Ay Ad Bd Bp Bh Av As Bf Bo Aw Au Ag Ac Ai Ao)(Ud:NJ P w K mg base Ag "__init__" ["self","rows","backs"] 1 (Hz K Ag Ac Ai)):Cj P w K mg base Fw 2 f fd ["self","rows","backs"] (Zq K Ag Ac Ai):=by
 refine F.ok P7 (fun vs H Q E h=>?_) (fun Dk A outer s H vs Q E hr h=>?_)
 . obtain⟨_,_,_,_,rfl,_⟩:=h;rfl
 . obtain⟨p,dx,r,b,rfl,hp,k⟩:=h
   refine⟨_,(Ah (Cf (iY Ud hr (by rfl) T.m_Lines (Aa (pv 0) (Aa (pv 1) (Aa (pv 2) Af)))))
    (Al (Dh (K:=K) (pv 0) (Fn Af)))),?_⟩
   refine⟨_,rfl,_,rfl,_,rfl,p,dx,Ac,r,b,rfl,.inr rfl,hp,fun H1 fs hfs VT=>?_⟩;have hp1:H1 p=some (.ins Ac dx fs):=by rw[VT];exact Ae
   have s1:SameX p H H1:=by rw[VT];exact SameX.upd (SameX.upd (SameX.refl _ _))
   have hl:fs.length<=2:=by rw[hfs];exact qa1 (Ci _ _ _) (qg2 (Ci _ _ _))
   refine⟨qa8 _,fun D hD=>?_⟩;have qA:p≠D:=Bj hp1 hD;refine⟨_,rfl,p,Ac,dx,fs,rfl,by rw[Bb qA];exact hp1,T.cl_Stairs,T.na_Stairs_starts,O9m,?_⟩;refine k D _ _ ?_ (by rw[hfs]) (SameX.upd (s1.trans (SameX.of (Aj.new hD)))) (by rw[Bb qA.symm];exact Ae) Ae;cases z:H D with
   | none=>rfl
   | some o=>rw[s1 _ _ qA.symm z]at hD;cases hD
noncomputable abbrev Lr:Stmt:=Gs 51
theorem Kj:FnScope ["numbers","seen","i","value"] ["numbers","seen"] (Ar Lr):=B4
theorem Xv{f:Addr}{fd:FuncData}(F:Ey K "first_bar" "first_bar" Lr f fd)(T:Gq K mg Am At Be Bg Ax Ay Ad Bd Bp Bh Av As Bf Bo Aw Au Ag Ac Ai Ao)(K0:Has P w K mg base "is_multiple" ["value","number"] 1 (La K))(Gg:Has P w K mg base "number_at" ["numbers","i"] 1 (Jj K)):Cj P w K mg base Fw 2 f fd ["numbers","seen"] (Jk K):=by
 refine F.ok Kj (fun vs H Q E h=>?_) (fun Dk A outer s H vs Q E hr h=>?_)
 . obtain⟨_,_,_,_,_,_,rfl,_⟩:=h;rfl
 . obtain⟨a,b,k0,n,f,s,rfl,ha,hb,hn,hp,k1,k2⟩:=h
   refine⟨_,(Ah (F3 qc9 rfl (Xq (K:=K) (by rfl) T.n_enumerate (Aa (pv 1) Af)) (Ja (K:=K) (n:=2) (by rfl) (C8 (Bs (i:=2) Kj.nd) (C8 (Bs (i:=3) Kj.nd) Ix))) (Al (Ck (Jr (Ie (Ba K0 hr (Aa (pv 3) (Aa (Ba Gg hr (Aa (pv 0) (Aa (pv 2) Af))) Af))))) (Al (Bq (pv 2))) Cb)))
    (Al (Bq Ig))),?_⟩
   refine qs2 (fun σ' H'=>∃o2 o3,σ'=[rS a,rS b,o2,o3]/\Aj H H'/\∀i,i<n->¬Lat.Bar f k0 s i) (fun key=>?_) ?_
   . refine⟨_,rfl,b,rfl,⟨_,hb⟩,?_⟩;refine i6 (K:=K) (a:=b) (xs:=VI n s) (fun i σ G=>∃o2 o3,σ=[rS a,rS b,o2,o3]/\Aj H G/\∀j,j<i->¬Lat.Bar f k0 s j) ⟨none,none,rfl,Aj.refl H,fun j hj=>O9m⟩ (fun i σ G _ ⟨_,_,_,s1,_⟩=>s1.seq hb) ?_ ?_
     . rintro i x σ G p hx ⟨o2,o3,rfl,s1,hS⟩ tE;obtain⟨hi,rfl⟩:=K6 hx;have sp:Aj G (upd G p (.tup [.int i,.int (s i)])):=Aj.new tE;refine⟨p,_,rfl,.of Ae,rfl,_,_,rfl,_,_,rfl,rfl,?_⟩;generalize upd G p (.tup [.int i,.int (s i)])=G1 at sp;have s2:=s1.trans sp
       have h0:0<=Lat.numAt f k0 i:=by
        unfold Lat.numAt;split
        . exact qp8 (hp _ (by assumption))
        . decide
       refine⟨_,rfl,_,rfl,_,rfl,a,k0,i,f,rfl,s2.seq ha,_,_,rfl,h0,_,rfl,?_⟩;refine ite2 (fun h1=>?_) (fun h1=>?_)
       . have h2:¬Lat.numAt f k0 i∣s i:=by simpa using h1
         exact⟨_,rfl,k2 i hi h2 _ s2⟩
       . have h2:Lat.numAt f k0 i∣s i:=by simpa using h1
         refine⟨_,_,rfl,s2,fun j hj=>?_⟩;rcases qf5 j i with z | z
         . exact hS j z
         . have:j=i:=O9m
           subst this;exact fun q=>q h2
     . rintro σ G ⟨o2,o3,rfl,s1,hS⟩;rw[By]at hS;exact key _ _ ⟨_,_,rfl,s1,hS⟩
   refine kG fun o2 o3 G s1 hS=>?_;exact k1 hS _ s1
noncomputable abbrev Ko:Stmt:=Gs 61
theorem Fg:FnScope ["_law_script","_law_begin","_law_height","_law_width","_law_kind","_law_rows","_law_i","_law_row","_law_j"] ["_law_script","_law_begin","_law_height","_law_width","_law_kind"] (Ar Ko):=B4
theorem U3{f:Addr}{fd:FuncData}(F:Ey K "_law_table_by" "_law_table_by" Ko f fd)(T:Gq K mg Am At Be Bg Ax Ay Ad Bd Bp Bh Av As Bf Bo Aw Au Ag Ac Ai Ao)(K4:Has P w K mg base "_law_number_by" ["_law_cell","_law_kind"] 1 (Sq K))(Hv:Has P w K mg base "_law_spread" ["_law_script","_law_k"] 1 (Ll K)):Cj P w K mg base Fw 2 f fd ["_law_script","_law_begin","_law_height","_law_width","_law_kind"] (V7 K):=by
 refine F.ok Fg (fun vs H Q E h=>?_) (fun Dk A outer s H vs Q E hr h=>?_)
 . obtain⟨_,_,_,_,_,_,rfl,_⟩:=h;rfl
 . obtain⟨a,ns,b,h,w,kind,rfl,hS,hl,Yf,hb,hh,hw,k⟩:=h
   refine⟨_,(Ah (Bk (i:=5) Fg.nd (Fn Af))
    (Ah (F3 qc9 rfl (Dz (by rfl) T.n_range (Aa (pv 2) Af)) (Bs (i:=6) Fg.nd) (Ah (Bk (i:=7) Fg.nd (Fn Af))
    (Ah (F3 qc9 rfl (Dz (by rfl) T.n_range (Aa (pv 3) Af)) (Bs (i:=8) Fg.nd) (Al (Cf (L5 (K:=K) qf4 qn7 qn5 Mp (pv 7) (Aa (Ba K4 hr (Aa (Ba Hv hr (Aa (pv 0) (Aa (Bn D6 (Bn D6 (pv 1) (Bn Ee (pv 6) (pv 3))) (pv 8)) Af))) (Aa (pv 4) Af))) Af)))))
    (Al (Cf (L5 (K:=K) qf4 qn7 qn5 Mp (pv 5) (Aa (pv 7) Af)))))))
    (Al (Bq (pv 5))))),?_⟩
   refine⟨qa8 _,fun D hD=>?_⟩;refine⟨_,rfl,_,rfl,O9m,O9m,?_⟩;have xM:(w:Int).toNat=w:=qe4 w
   refine Ft (lo:=0) (n:=(h:Int).toNat) (fun i σ H1=>∃(as:List Addr) (o1 o2 o3:Option V),σ=[rS a,iS b,iS h,iS w,iS kind,rS D,o1,o2,o3]/\as.length=i/\Rows H H1 D as w (fun i j=>BK (spreadV ns ((b+i*w+j:Nat):Int)) kind))
    ⟨[],none,none,none,rfl,rfl,Rows.nil hD⟩ ?_ ?_
   . rintro i σ H1 hi ⟨as,o1,o2,o3,rfl,hal,R⟩;have hi2:i<h:=O9m
     have rH:i*w<=3600:=by
      have:i*w<=60*60:=qd9 O9m hw;omega
     refine⟨qa8 _,fun E hE=>?_⟩;refine⟨_,rfl,_,rfl,O9m,O9m,?_⟩
     refine Ft (lo:=0) (n:=(w:Int).toNat) (fun j σ H2=>∃(o3:Option V),σ=[rS a,iS b,iS h,iS w,iS kind,rS D,some (.int (0+i)),rS E,o3]/\Aj H1 H2/\H2 E=some (.lst (VI j fun j=>BK (spreadV ns ((b+i*w+j:Nat):Int)) kind)))
      ⟨_,rfl,Aj.new hE,Ae⟩ ?_ ?_
     . rintro j σ H2 hj ⟨OZ,rfl,s2,gJ⟩;have hj2:j<w:=O9m
       have ek:(b:Int)+(0+(i:Int))*(w:Int)+(0+(j:Int))=((b+i*w+j:Nat):Int):=by
        rw[qi4,qi4];simp
       refine⟨_,rfl,.inl ⟨rfl,_,.of gJ⟩,_,rfl,_,rfl,_,rfl,_,rfl,_,_,rfl,rfl,Kt O9m O9m,_,_,rfl,rfl,_,rfl,_,_,rfl,rfl,a,ns,_,rfl,(R.same.trans s2).seq hS,by rw[ek];omega,by rw[ek];omega,hl,?_⟩;rw[ek];refine⟨_,rfl,_,kind,rfl,CM Yf O9m O9m,?_⟩;refine⟨E,_,_,rfl,rfl,gJ,small (by rw[By];omega),?_⟩;refine⟨_,rfl,s2.turn hE,?_⟩;rw[Ae,Gp]
     . rintro σ H2 ⟨OZ,rfl,s2,gJ⟩;rw[xM]at gJ;have BP:H2 D=some (.lst (as.map V.ref)):=s2 _ _ R.at
       refine⟨_,rfl,.inl ⟨rfl,_,.of BP⟩,_,rfl,D,_,_,rfl,rfl,BP,small (by rw[qa2];omega),?_⟩;exact⟨as++[E],_,_,_,rfl,by simp[hal],R.push hE s2 (by rw[hal];exact gJ)⟩
   . rintro σ H1 ⟨as,o1,o2,o3,rfl,hal,R⟩;exact⟨_,rfl,k D as H1 O9m R⟩
noncomputable abbrev Nw:Stmt:=Gs 63
theorem Q7:FnScope ["_law_table","_law_way","_law_to","_law_at"] ["_law_table","_law_way","_law_to"] (Ar Nw):=B4
theorem b8{f:Addr}{fd:FuncData}(F:Ey K "_law_spoilt" "_law_spoilt" Nw f fd)(T:Gq K mg Am At Be Bg Ax Ay Ad Bd Bp Bh Av As Bf Bo Aw Au Ag Ac Ai Ao)(Ei:Has P w K mg base "_law_row_spoilt" ["_law_row","_law_way","_law_to"] 1 (W9 K)):Cj P w K mg base Fw 2 f fd ["_law_table","_law_way","_law_to"] (Sn K):=by
 refine F.ok Q7 (fun vs H Q E h=>?_) (fun Dk A outer s H vs Q E hr h=>?_)
 . obtain⟨_,_,_,_,_,_,rfl,_⟩:=h;rfl
 . obtain⟨u,way,to,h,w,f,rfl,hv,hh,hw,hf,k⟩:=h;have hf2:∀i j,(f i j).natAbs<2 ^ 200:=fun i j=>qa4 (hf i j) (by decide);obtain⟨a,us,rfl,hq,Mr,Hq⟩:=Hi hv;have KP:∀e,NU h (.one e):=fun _ _ z=>nomatch z
   have WN:∀i,nV (.d (dL w (f i))):=fun i _ _=>⟨Ga w (f i),rfl,fun n hn=>by obtain⟨j,_,rfl⟩:=qf7.mp hn;exact hf i j⟩
   have UT:∀e∈My h w f,nV e:=fun e he=>by obtain⟨i,_,rfl⟩:=qf7.mp he;exact WN i
   refine⟨_,(Ah (Ck (Bt C6 (pv 1) Ak (Bx _)) (Al (Bq (D5 (Er (K:=K)) (by rfl) T.n_tuple Gz (Aa (pv 0) Af)))) Cb)
    (Z4 (K:=K) (Bt C6 (pv 1) Ak (Bx _)) (Ce Ig (Ce Ek (Ce Ak (Ce Ek (Ce Ii (Ce (Ej Af) (Ce Ti Mo))))))) (Bn Cu (pv 2) Ak) (fun _ _=>rfl)
    (Ah (Ck (Bt C6 (Bc (Bm (K:=K)) T.n_len qf6 (Aa (pv 0) Af)) Ak (Bx _)) (Al (Bq (pv 0))) Cb)
    (Ah (Bk (i:=3) Q7.nd (Bn Cu (Bn Ks (pv 2) Ak) (Bc (Bm (K:=K)) T.n_len qf6 (Aa (pv 0) Af))))
    (Al (Bq (Bn (D7 (K:=K)) (Bn (D7 (K:=K)) (Gu (Gw (K:=K)) (pv 0) Iw (Iv (pv 3))) (Fn (Aa (Ba Ei hr (Aa (Bv (Br (K:=K)) (pv 0) (pv 3) (fun _ _=>rfl)) (Aa (pv 1) (Aa (pv 2) Af)))) Af))) (Gu (Gw (K:=K)) (pv 0) (Iv (Bn D6 (pv 3) Ak)) Iw)))))))),?_⟩
   refine qs2 (fun σ' H'=>σ'=[rS a,iS way,iS to,none]/\H=H') (fun key=>?_) ?_
   . refine⟨_,rfl,rfl,_,rfl,?_⟩;refine ite2 (fun h1=>?_) (fun h1=>key _ _ ⟨rfl,rfl⟩);refine⟨_,rfl,a,us,rfl,.inl ⟨hq,fun l hl=>?_⟩⟩;have s1:Aj H (upd H l (.tup us)):=Aj.new hl;refine k (.ref l) (.one (.d (.tup ((List.range h).map fun i=>dL w (f i))))) _ s1 ⟨l,us,rfl,.of Ae,?_⟩ (EZ hh hw hf2) (KP _)
     exact fB (K:=K) (H:=upd H l (.tup us)) Mr fun i u hi=>by
      obtain⟨h2,b,e,hb⟩:=Hq i u hi;exact⟨h2,b,e,s1.seq hb⟩
   refine Eb ?_;refine qs2 (fun σ' H'=>σ'=[rS a,iS way,iS to,none]/\H=H') (fun key=>?_) ?_
   . refine⟨_,rfl,rfl,_,rfl,?_⟩;refine ite2 (fun h1=>?_) (fun h1=>key _ _ ⟨rfl,rfl⟩);refine⟨qa8 _,fun p hp=>?_⟩;have Lg:Aj H (upd H p (.tup [])):=Aj.new hp;have Pd:upd H p (.tup []) p=some (.tup []):=Ae;generalize upd H p (.tup [])=G1 at Lg Pd;intro d hd;have Xj:Aj G1 (upd G1 d (.dK [])):=Aj.new hd;have GQ:upd G1 d (.dK []) d=some (.dK []):=Ae;generalize upd G1 d (.dK [])=G2 at Xj GQ;refine⟨Cc (by simp),fun q dO=>?_⟩;have s3:∀o,Aj G2 (upd G2 q o):=fun _=>Aj.new dO;have V9:∀o,Aj H (upd G2 q o):=fun o=>(Lg.trans Xj).trans (s3 o);refine⟨_,rfl,_,_,rfl,rfl,(by decide:(0:Int)<7),?_⟩;rcases (show to%7=0\/to%7=1\/to%7=2\/to%7=3\/to%7=4\/to%7=5\/to%7=6 by omega) with e | e | e | e | e | e | e
     . refine⟨q,_,_,.non,rfl,rfl,.of Ae,by rw[e];rfl,?_⟩;exact k _ (.one (.d .non)) _ (V9 _) rfl (Im rfl Ym) (KP _)
     . refine⟨q,_,_,.str (Str.ofString ""),rfl,rfl,.of Ae,by rw[e];rfl,?_⟩;exact k _ (.one (.d (.str (Str.ofString "")))) _ (V9 _) rfl (Im rfl bT) (KP _)
     . refine⟨q,_,_,.int 7,rfl,rfl,.of Ae,by rw[e];rfl,?_⟩;exact k _ (.one (.d (.int 7))) _ (V9 _) rfl (Im rfl (aG (by decide))) (KP _)
     . refine⟨q,_,_,.str (Str.ofString "[]"),rfl,rfl,.of Ae,by rw[e];rfl,?_⟩;exact k _ (.one (.d (.str (Str.ofString "[]")))) _ (V9 _) rfl (Im rfl BS) (KP _)
     . refine⟨q,_,_,.bl true,rfl,rfl,.of Ae,by rw[e];rfl,?_⟩;exact k _ (.one (.d (.bl true))) _ (V9 _) rfl (Im rfl (i9 true)) (KP _)
     . refine⟨q,_,_,.ref p,rfl,rfl,.of Ae,by rw[e];rfl,?_⟩;exact k _ (.one (.d (.tup []))) _ (V9 _) ⟨p,[],rfl,.of (s3 _ _ _ (Xj _ _ Pd)),rfl⟩ (Im rfl Yl) (KP _)
     . refine⟨q,_,_,.ref d,rfl,rfl,.of Ae,by rw[e];rfl,?_⟩;exact k _ (.one (.nul)) _ (V9 _) ⟨d,rfl,.inl (s3 _ _ _ GQ)⟩ (Im rfl AF) (KP _)
   refine Eb ?_;refine qs2 (fun σ' H'=>σ'=[rS a,iS way,iS to,none]/\H=H'/\0<us.length) (fun key=>?_) ?_
   . refine⟨_,rfl,a,_,rfl,.inl hq,rfl,_,rfl,?_⟩;refine ite2 (fun h1=>?_) (fun h1=>?_)
     . exact⟨_,rfl,k (.ref a) (.rows (My h w f)) H (Aj.refl H) ⟨a,us,rfl,hq,W7 Mr Hq⟩ (Zn (by simp[My];exact hh) (Mm hw hf2)) fun es z=>by cases z;exact⟨by simp[My],UT⟩⟩
     . exact key _ _ ⟨rfl,rfl,Nat.pos_of_ne_zero fun z=>h1 (by rw[z];rfl)⟩
   refine oG fun hpos=>?_;have VM:0<(us.length:Int):=O9m
   obtain⟨r,er⟩:=qg0 (ql0 (to / 240) (by omega:(us.length:Int)≠0));have hr2:r<us.length:=by have:=qn0 (to / 240) VM;omega
   obtain⟨_,b,eb,hb⟩:=Hq r us[r] (qb0 hr2);have hat:us[r]?=some (.ref b):=by rw[qb0 hr2,eb]
   refine qs2 (fun σ' H'=>σ'=[rS a,iS way,iS to,some (.int (r:Int))]/\H=H') (fun key=>?_) ?_
   . refine⟨_,rfl,_,_,rfl,rfl,⟨by decide,by decide⟩,_,rfl,a,_,rfl,.inl hq,_,_,rfl,rfl,VM,key _ _ ⟨?_,rfl⟩⟩;rw[←er];rfl
   refine Eb ?_;refine⟨_,rfl,_,rfl,_,rfl,a,us,rfl,hq,fun l1 hl1=>?_⟩;rw[j8];have Lg:Aj H (upd H l1 (.lst (us.take r))):=Aj.new hl1;have Pd:upd H l1 (.lst (us.take r)) l1=some (.lst (us.take r)):=Ae;generalize upd H l1 (.lst (us.take r))=G1 at Lg Pd;refine⟨_,rfl,_,rfl,a,us,_,.ref b,rfl,rfl,Lg.seq hq,B5 hat,_,rfl,_,rfl,b,Ga w (f r),way,to,rfl,Lg.seq hb,by rw[Iz];omega,(fun n hn=>by obtain⟨j,_,rfl⟩:=qf7.mp hn;exact hf r j),fun v e G2 Xj hv2 he=>?_⟩;refine⟨Cc (by simp),fun q dO=>?_⟩;have v7:Aj G2 (upd G2 q (.lst [v])):=Aj.new dO;have LA:upd G2 q (.lst [v]) q=some (.lst [v]):=Ae;generalize upd G2 q (.lst [v])=G3 at v7 LA;refine⟨l1,q,_,_,rfl,rfl,.of (v7 _ _ (Xj _ _ Pd)),.of LA,Cc (by rw[qe3];show _+1<=_;omega),fun l3 hl3=>?_⟩;have bF:Aj G3 (upd G3 l3 (.lst (us.take r++[v]))):=Aj.new hl3;have HW:upd G3 l3 (.lst (us.take r++[v])) l3=some (.lst (us.take r++[v])):=Ae;generalize upd G3 l3 (.lst (us.take r++[v]))=G4 at bF HW;have kK:=((Lg.trans Xj).trans v7).trans bF;refine⟨_,rfl,_,rfl,_,_,rfl,rfl,_,rfl,a,us,rfl,kK.seq hq,fun l4 pX=>?_⟩;rw[show cutV us (some ((r:Int)+1)) none=us.drop (r+1) from j9 us (r+1)];have iL:Aj G4 (upd G4 l4 (.lst (us.drop (r+1)))):=Aj.new pX;have QF:upd G4 l4 (.lst (us.drop (r+1))) l4=some (.lst (us.drop (r+1))):=Ae;generalize upd G4 l4 (.lst (us.drop (r+1)))=G5 at iL QF;refine⟨l3,l4,_,_,rfl,rfl,.of (iL _ _ HW),.of QF,Cc (by rw[qe5,qe3,qh7];show _+1+_<=_;omega),fun l5 pW=>?_⟩;rw[BE hr2];have iN:=(kK.trans iL).trans (Aj.new (o:=.lst (us.set r v)) pW);refine k _ (.rows ((My h w f).set r e)) _ iN ⟨l5,_,rfl,.of Ae,Du.put (Fv.same (((v7.trans bF).trans iL).trans (Aj.new pW)) hv2) (W7 Mr fun i u hi=>?_) r⟩ (Qs (by simp[My];exact hh) fun x hx=>?_) fun es z=>?_
   . obtain⟨h2,b,e,hb⟩:=Hq i u hi;exact⟨h2,b,e,iN.seq hb⟩
   . rcases qg6 hx with hx | rfl
     . exact⟨(Mm hw hf2 x hx).sz,(Mm hw hf2 x hx).fin⟩
     . exact⟨he.sz,he.fin⟩
   . cases z;refine⟨by simp[My],fun x hx=>?_⟩;rcases qg6 hx with hx | rfl
     . exact UT x hx
     . exact he.sm
noncomputable abbrev Kq:Stmt:=Gs 64
theorem M9:FnScope ["_law_thing","_law_size","_law_number"] ["_law_thing","_law_size"] (Ar Kq):=B4
theorem U4{f:Addr}{fd:FuncData}(F:Ey K "_law_list_due" "_law_list_due" Kq f fd)(T:Gq K mg Am At Be Bg Ax Ay Ad Bd Bp Bh Av As Bf Bo Aw Au Ag Ac Ai Ao)(Uf:Has P w K mg base "_law_whole" ["_law_found"] 1 (Sj K)):Cj P w K mg base Fw 2 f fd ["_law_thing","_law_size"] (Jz K):=by
 refine F.ok M9 (fun vs H Q E h=>?_) (fun Dk A outer s H vs Q E hr h=>?_)
 . obtain⟨_,_,_,rfl,_⟩:=h;rfl
 . obtain⟨v,e,w,rfl,hv,hz,k⟩:=h;have kf:Dp w e=false->Q (.bl false) H:=fun h=>by have k1:=k H (Aj.refl H);rw[h]at k1;exact k1
   refine⟨_,(Ah (Ck (PW.pt (BG (Jr (Ie (Bc (Mu (K:=K)) T.n_isinstance Bi (Aa (pv 0) (Aa (Hm (v:=.ty "list") rfl T.n_list Fp rfl) Af))))) (Xm (Bt Q9 (Bc (Bm (K:=K)) T.n_len qf6 (Aa (pv 0) Af)) (pv 1) (Bx _))))) (Al (Bq Ii)) Cb)
    (Ah (F3 qc9 rfl (Fi (K:=K) (pv 0)) (Bs (i:=2) M9.nd) (Al (Ck (Jr (Ie (Ba Uf hr (Aa (pv 2) Af)))) (Al (Bq Ii)) Cb)))
    (Al (Bq Ii)))),?_⟩
   refine⟨_,rfl,v,"list",.one e,rfl,.inr (.inr (.inr (.inr (.inl rfl)))),hv,_,rfl,?_⟩;refine ite2 (fun h2=>?_) (fun h2=>?_)
   . exact kf (S9 (by simpa[rE]using h2))
   . obtain⟨ds,rfl⟩:=g6 (by simpa[rE]using h2);obtain⟨b,vs,rfl,hb,hrs⟩:=hv;have hl2:vs.length=ds.length:=hrs.length;refine⟨_,rfl,b,_,rfl,.inl hb,_,rfl,rfl,_,rfl,?_⟩;refine ite2 (fun h3=>?_) (fun h3=>?_)
     . have e3:¬(ds.length:Int)=w:=by simpa[hl2]using h3
       exact kf (by show(decide ((ds.length:Int)=w)&&_)=false;rw[qf0 e3,qj9])
     . have e3:(ds.length:Int)=w:=by simpa[hl2]using h3
       refine⟨_,rfl,b,rfl,⟨_,hb⟩,?_⟩
       refine for_list (K:=K) (a:=b) (xs:=vs) (fun j σ H1=>∃o2,σ=[rS b,iS w,o2]/\H=H1/\(ds.take j).all Di=true)
        ⟨_,rfl,rfl,rfl⟩ (fun j σ H1 _ ⟨_,_,e,_⟩=>e▸hb) ?_ ?_
       . rintro j x σ H1 hx ⟨pA,rfl,rfl,hj⟩;obtain⟨d,hd,hxd⟩:=hrs.getV hx;refine⟨_,rfl,_,d,rfl,hxd,_,rfl,?_⟩;refine ite2 (fun h4=>?_) (fun h4=>?_)
         . exact kf (by show(_&&ds.all Di)=false;rw[Y8 hd (by simpa using h4),qn1])
         . exact⟨_,rfl,rfl,Vx hd hj (by simpa using h4)⟩
       . rintro σ H1 ⟨pA,rfl,rfl,hj⟩;have k1:=k H (Aj.refl H)
         have e4:Dp w (.d (.lst ds))=true:=by
          show(decide ((ds.length:Int)=w)&&ds.all Di)=true;rw[hl2,qm1]at hj;rw[qj1 e3,hj,qm5]
         rw[e4]at k1;exact k1
noncomputable abbrev Nt:Stmt:=Gs 23
theorem Zz:FnScope ["thing","width"] ["thing","width"] (Ar Nt):=B4
theorem a8{f:Addr}{fd:FuncData}(F:Ey K "is_table" "is_table" Nt f fd)(T:Gq K mg Am At Be Bg Ax Ay Ad Bd Bp Bh Av As Bf Bo Aw Au Ag Ac Ai Ao)(Cz:Has P w K mg base "is_list_of_wholes" ["thing","many"] 2 (Jz K)):Cj P w K mg base Fw 3 f fd ["thing","width"] (Jy K):=by
 refine F.ok Zz (fun vs H Q E h=>?_) (fun Dk A outer s H vs Q E hr h=>?_)
 . obtain⟨_,_,_,rfl,_⟩:=h;rfl
 . obtain⟨v,t,w,rfl,hv,hz,k⟩:=h;obtain⟨Q4,m8⟩:=T.x_MOST_ROWS
   refine⟨_,(Ah (Ck (PW.pt (BG (Jr (Ie (Bc (Mu (K:=K)) T.n_isinstance Bi (Aa (pv 0) (Aa (Hm (v:=.ty "list") rfl T.n_list Fp rfl) Af))))) (Xm (Bt FQ (Bc (Bm (K:=K)) T.n_len qf6 (Aa (pv 0) Af)) (Dr (v:=.int 40) (by rfl) m8 ⟨_,rfl⟩) (Bx _))))) (Al (Bq Ii)) Cb)
    (Al (Bq (Bc (T6 (K:=K) (by rfl)) T.n_all Wv (Aa (Dg (N':=["row","width"]) (cap:=[none,some 1]) (by rfl) (by kernel_rfl) (Fi (K:=K) (pv 0)) (fun _ _ _ _=>(Bs (i:=0) fY)) (fun _ _ _ _=>Da) (fun _ _ _ _=>(Ba Cz hr (Aa (pv 0) (Aa (pv 1) Af))))) Af))))),?_⟩
   refine⟨_,rfl,v,"list",t,rfl,.inr (.inr (.inr (.inr (.inl rfl)))),hv,_,rfl,?_⟩;cases t with
   | one e =>
     have hz1:X9 "list" e=false:=hz;refine bO (by show(!X9 "list" e)=true;rw[hz1];rfl) ?_;exact k H (Aj.refl H)
   | rows es =>
     refine aC (by show ¬(!("list"=="list"))=true;decide) ?_;obtain⟨a,us,rfl,hq,hr⟩:=hv;obtain⟨hz1,hz2⟩:es.length<=1000/\∀e∈es,iH e:=hz;have hl:us.length=es.length:=hr.len;refine⟨_,rfl,a,_,rfl,.inl hq,_,_,rfl,rfl,_,rfl,?_⟩;refine ite2 (fun h1=>?_) (fun h1=>?_)
     . have e1:¬es.length<=40:=by simp at h1;omega
       have e2:Dm w (.rows es)=false:=by show(decide (es.length<=40)&&_)=_;rw[qf0 e1,qj9]
       have k1:=k H (Aj.refl H);rw[e2]at k1;exact k1
     . have e1:es.length<=40:=by simp at h1;omega
       refine⟨_,rfl,a,rfl,⟨_,hq⟩,fun D hD=>?_⟩
       refine Ev (K:=K) (a:=a) (xs:=us) (fun i ys τ H1=>Aj H H1/\H1 D=some (.lst ys)/\ys=((es.take i).map (Dp w)).map V.bl/\∃o,τ=[o,iS w])
        ⟨Aj.new hD,Ae,rfl,none,rfl⟩ (fun i ys τ H1 _ ⟨s1,_⟩=>s1.seq hq) ?_ ?_
       . rintro i x ys τ H1 hx ⟨s1,Il,rfl,o,rfl⟩;obtain⟨e,he,xJ⟩:=hr.get hx;refine⟨_,rfl,_,rfl,x,e,w,rfl,Fv.same s1 xJ,hz2 e (qe2 he),fun H2 s2=>?_⟩;refine⟨s2 _ _ Il,small (by simp;omega),(s1.trans s2).turn hD,Ae,?_,_,rfl⟩;rw[Zl he,qc8];rfl
       . rintro ys τ H1 ⟨s1,Il,rfl,_⟩;refine⟨D,(es.take us.length).map (Dp w),rfl,.of Il,?_⟩
         have e2:Dm w (.rows es)=((es.take us.length).map (Dp w)).all id:=by
          show(decide (es.length<=40)&&es.all (Dp w))=_;rw[hl,qm1,all_map,qj1 e1,qm5]
         have k1:=k H1 s1;rw[e2]at k1;exact k1
noncomputable abbrev Ez:Stmt:=El (Gs 35) 1
theorem Uy:FnScope ["self","turn"] ["self","turn"] (Ar Ez):=B4
theorem Na{f:Addr}{fd:FuncData}(F:Ey K "turn" "Lines.turn" Ez f fd)(T:Gq K mg Am At Be Bg Ax Ay Ad Bd Bp Bh Av As Bf Bo Aw Au Ag Ac Ai Ao)(O9:Has P w K mg base "turned" ["lines","turn"] 2 (So K))(Ry:Has P w K mg base "across" ["turn"] 1 (V2 K)):Cj P w K mg base Fw 3 f fd ["self","turn"] (Hy K Ag Ac Ai):=by
 refine F.ok Uy (fun vs H Q E h=>?_) (fun Dk A outer s H vs Q E hr h=>?_)
 . obtain⟨_,_,_,_,_,_,_,_,_,_,_,rfl,_⟩:=h;rfl
 . obtain⟨p,u,C,r,b,sv,n,W,s,N,t,rfl,hC,x,hu,m1,m2,hn,hW,k⟩:=h;obtain⟨dx,fs,hp,l1,l2,l3,l4,l5⟩:=x.ob;obtain⟨as,xa,na⟩:=x.rw;obtain⟨bs,xb,nb⟩:=x.bk
   have hc:Cls K C/\NoAttr K C "rows"/\NoAttr K C "backs":=by
    rcases hC with rfl | rfl
    . exact⟨T.cl_Lines,T.na_Lines_rows,T.na_Lines_backs⟩
    . exact⟨T.cl_Stairs,T.na_Stairs_rows,T.na_Stairs_backs⟩
   refine⟨_,(Ah (Dh (K:=K) (pv 0) (Ba O9 hr (Aa (Bl (K:=K) (pv 0)) (Aa (pv 1) Af))))
    (Al (Dh (K:=K) (pv 0) (Ba O9 hr (Aa (Bl (K:=K) (pv 0)) (Aa (Ba Ry hr (Aa (pv 1) Af)) Af)))))),?_⟩
   refine⟨_,rfl,p,C,dx,fs,_,rfl,hp,hc.1,hc.2.1,l1,_,rfl,r,u,as,n,W,s.1,t,rfl,xa,hu,m1,hn,hW,fun D1 jX H1 Il s1 x1 n1=>?_⟩;have hp1:=s1 _ _ hp;refine⟨_,rfl,p,C,dx,fs,rfl,hp1,hc.1,hc.2.1,O9m,?_⟩;have oN:SameX p H (upd H1 p (.ins C dx (putF "rows" (.ref D1) fs))):=SameX.upd (SameX.of s1);have OM:SameX p H1 (upd H1 p (.ins C dx (putF "rows" (.ref D1) fs))):=SameX.upd (SameX.refl _ _)
   have hu1:Rep K (upd H1 p (.ins C dx (putF "rows" (.ref D1) fs))) u (HY t):=by
    refine Rep.t ⟨fun b xs e=>?_,fun b o u e=>?_⟩ (by cases t<;>rfl) hu
    . exact oN b _ (E5 e hp (by intro z;cases z)) e
    . exact oN b _ (E5 e hp (by intro z;cases z)) e
   have hl1:(putF "rows" (V.ref D1) fs).length=fs.length:=J6 l1;have hp2:(upd H1 p (.ins C dx (putF "rows" (.ref D1) fs))) p=some (.ins C dx (putF "rows" (.ref D1) fs)):=Ae;have x2:=x1.x hp1 OM;have IC:=xb.x hp oN
   have jQ:∀a,(upd H1 p (.ins C dx (putF "rows" (.ref D1) fs))) a=none->H a=none:=fun a e=>by
    by_cases hap:a=p
    . rw[hap,Ae]at e;cases e
    . rw[Bb hap]at e;exact s1.free e
   generalize RI:upd H1 p (.ins C dx (putF "rows" (.ref D1) fs))=H2 at oN OM hu1 hp2 x2 IC jQ;refine⟨_,rfl,p,C,dx,_,_,rfl,hp2,hc.1,hc.2.2,(by rw[An,if_neg (by decide +kernel)];exact l2),_,rfl,u,t,rfl,hu1,fun u2 H3 s3 XM=>?_⟩;refine⟨b,u2,bs,n,n,s.2,QS t,rfl,IC.same s3,XM,m2,hn,hn,fun D2 QH H4 BP s4 x4 n4=>?_⟩;have IM:=s3.trans s4;have Pz:=IM _ _ hp2;refine⟨_,rfl,p,C,dx,_,rfl,Pz,hc.1,hc.2.2,O9m,?_⟩;have hl2:(putF "backs" (V.ref D2) (putF "rows" (V.ref D1) fs)).length=(putF "rows" (V.ref D1) fs).length:=J6 (x:=.ref b) (by rw[An,if_neg (by decide +kernel)];exact l2);have lU:SameX p H4 (upd H4 p (.ins C dx (putF "backs" (.ref D2) (putF "rows" (.ref D1) fs)))):=SameX.upd (SameX.refl _ _);have f2:H D2=none:=jQ _ (s3.free BP);have yY:D1≠D2:=fun z=>(x2.same s3).there.1 (z▸BP);have nN:∀a,H a=none->¬N a:=fun a e z=>x.nn a z e;refine k D1 D2 _ (SameX.upd (oN.trans (SameX.of IM))) Il f2 ⟨⟨dx,_,Ae,?_,?_,?_,fun m hm=>?_,O9m⟩,⟨jX,(x2.same IM).x Pz lU,fun a ha=>?_⟩,⟨QH,x4.x Pz lU,fun a ha=>?_⟩,yY,nN _ Il,nN _ f2,fun a ha z=>?_⟩
   . rw[An,if_neg (by decide +kernel),An,if_pos rfl]
   . rw[An,if_pos rfl]
   . rw[An,if_neg (by decide +kernel),An,if_neg (by decide +kernel)];exact l3
   . rw[An,if_neg (fun z=>absurd (z▸hm) (by decide +kernel)),An,if_neg (fun z=>absurd (z▸hm) (by decide +kernel))];exact l4 m hm
   . have h1:=(x2.same s3).there.2 a ha;obtain⟨h2,h3⟩:=n1 a ha;refine⟨h3,fun z=>h1 (z▸BP),?_⟩;rcases h2 with h2 | h2
     . exact(na a h2).2.2
     . exact nN a h2
   . obtain⟨h2,h3⟩:=n4 a ha;refine⟨fun z=>?_,h3,?_⟩
     . rcases h2 with h2 | h2
       . exact xb.there.2 a h2 (z▸Il)
       . exact(x2.same s3).there.1 (z▸h2)
     . rcases h2 with h2 | h2
       . exact(nb a h2).2.2
       . exact nN a (jQ _ (s3.free h2))
   . by_cases hap:a=p
     . rw[hap,Ae]at z;cases z
     . rw[Bb hap]at z;exact x.nn a ha (jQ _ (IM.free z))
noncomputable abbrev Jn:Stmt:=El (Gs 44) 0
theorem Sy:FnScope ["self","table","width"] ["self","table","width"] (Ar Jn):=B4
theorem Tp{f:Addr}{fd:FuncData}(F:Ey K "__init__" "Work.__init__" Jn f fd)(T:Gq K mg Am At Be Bg Ax Ay Ad Bd Bp Bh Av As Bf Bo Aw Au Ag Ac Ai Ao)(Es:o9 P w K mg base Ag ["self","rows","backs"] 1 (Hz K Ag Ac Ai))(Le:Has P w K mg base "ones" ["size"] 2 (W8 K)):Cj P w K mg base Fw 3 f fd ["self","table","width"] (Zu K Ag Ac Ai):=by
 refine F.ok Sy (fun vs H Q E h=>?_) (fun Dk A outer s H vs Q E hr h=>?_)
 . obtain⟨_,_,_,_,_,_,_,rfl,_⟩:=h;rfl
 . obtain⟨H0,p,dx,v,n,w,M,rfl,s0,fp,hp,hv,hn,hw,k⟩:=h;obtain⟨ta,us,rfl,RG,Mr,_⟩:=Hi hv
   refine⟨_,(Ah (Dh (K:=K) (pv 0) (pv 1))
    (Ah (Dh (K:=K) (pv 0) (pv 2))
    (Ah (Dh (K:=K) (pv 0) (Ih Es hr (by rfl) T.m_Lines (Aa (Ba Le hr (Aa (Bc (Bm (K:=K)) T.n_len qf6 (Aa (pv 1) Af)) Af)) (Aa (Ba Le hr (Aa (Bc (Bm (K:=K)) T.n_len qf6 (Aa (pv 1) Af)) Af)) Af))))
    (Ah (Dh (K:=K) (pv 0) (Ih Es hr (by rfl) T.m_Lines (Aa (Ba Le hr (Aa (pv 2) Af)) (Aa (Ba Le hr (Aa (pv 2) Af)) Af))))
    (Al (Dh (K:=K) (pv 0) (Fn Af))))))),?_⟩
   have vC:∀{G1 G2 G3:Hp}{D1 D2 L Yo:Addr}{jX EU:List Addr}{m:Nat}{fs:List (Str × V)}{G4:Hp}{N:Addr->Prop},jX.length=m->Rows G1 G2 D1 jX m (fun i j=>if j=i then 1 else 0)->EU.length=m->Rows G2 G3 D2 EU m (fun i j=>if j=i then 1 else 0)->G3 L=none->Aj G3 (upd (upd G3 Yo (.own L)) L (.ins Ag Yo []))->fs=putF "backs" (.ref D2) (putF "rows" (.ref D1) [])->G4=upd (upd (upd (upd G3 Yo (.own L)) L (.ins Ag Yo [])) L (.ins Ag Yo (putF "rows" (.ref D1) []))) L (.ins Ag Yo fs)->(∀a,N a->G1 a≠none) →
    Aj G3 G4/\LX G4 Ag L D1 D2 none m m (Lat.one,Lat.one) N:=by
    intro G1 G2 G3 D1 D2 L Yo jX EU m fs G4 N hl1 R1 hl2 R2 nL sN hfs mW hN;have TR:G4 L=some (.ins Ag Yo fs):=by rw[mW];exact Ae
    have st:Aj G3 G4:=fun a o e=>by
     rw[mW,Bb (Bj e nL),Bb (Bj e nL)];exact sN _ _ e
    clear mW
    have x1:TA G4 D1 jX m m Lat.one:=((TA.of R1 hl1).same (R2.same.trans st)).congr fun i c _ _=>by
     by_cases z:i=c
     . subst z;simp[Lat.one]
     . have:¬c=i:=fun e=>z e.symm;simp[Lat.one,z,this]
    have x2:TA G4 D2 EU m m Lat.one:=((TA.of R2 hl2).same st).congr fun i c _ _=>by
     by_cases z:i=c
     . subst z;simp[Lat.one]
     . have:¬c=i:=fun e=>z e.symm;simp[Lat.one,z,this]
    have t1:=(TA.of R1 hl1).there;have f2:∀a,G2 a=none->G1 a=none:=fun a e=>R1.same.free e;have nN:∀a,G1 a=none->¬N a:=fun a e z=>hN a z e;refine⟨st,⟨Yo,fs,TR,by rw[hfs];((repeat (first | rw[An,if_pos rfl] | rw[An,if_neg (by decide +kernel)]))<;>first | rfl | assumption),by rw[hfs];((repeat (first | rw[An,if_pos rfl] | rw[An,if_neg (by decide +kernel)]))<;>first | rfl | assumption),by rw[hfs];((repeat (first | rw[An,if_pos rfl] | rw[An,if_neg (by decide +kernel)]))<;>first | rfl | assumption),fun m hm=>?_,?_⟩,⟨jX,x1,fun a ha=>?_⟩,⟨EU,x2,fun a ha=>?_⟩,fun z=>t1.1 (z▸R2.free),nN _ R1.free,nN _ (f2 _ R2.free),fun a ha z=>hN a ha (f2 _ (R2.same.free (st.free z)))⟩
    . rw[hfs,An,if_neg (fun z=>absurd (z▸hm) (by decide +kernel)),An,if_neg (fun z=>absurd (z▸hm) (by decide +kernel))];rfl
    . rw[hfs];exact qa1 (Ci _ _ _) (qa1 (qg2 (Ci _ _ _)) (by decide))
    . obtain⟨i,hi,rfl⟩:=qi7 ha;obtain⟨z1,z2,z3⟩:=R1.row i _ (qb0 hi);exact⟨z2,fun z=>t1.2 _ ha (z▸R2.free),nN _ z1⟩
    . obtain⟨i,hi,rfl⟩:=qi7 ha;obtain⟨z1,z2,z3⟩:=R2.row i _ (qb0 hi);exact⟨fun z=>t1.1 (z▸z1),z2,nN _ (f2 _ z1)⟩
   refine⟨_,rfl,_,rfl,p,Ai,dx,_,rfl,hp,T.cl_Work,T.na_Work_table,by simp,?_⟩;refine Fq (fun σ' H'=>σ'=[rS p,rS ta,some (.int (w:Int))]/\upd H p (.ins Ai dx (putF "table" (.ref ta) []))=H') ?_ fun N4=>N4 _ _ ⟨rfl,rfl⟩;rintro _ _ ⟨rfl,rfl⟩;refine qs2 (fun σ' H'=>σ'=[rS p,rS ta,some (.int (w:Int))]/\∃fs,fs=putF "width" (.int (w:Int)) (putF "table" (.ref ta) [])/\H' p=some (.ins Ai dx fs)/\SameX p H H') (fun key=>?_) ?_
   . refine⟨_,rfl,_,rfl,p,Ai,dx,_,rfl,Ae,T.cl_Work,T.na_Work_width,by simp[putF],?_⟩;exact key _ _ ⟨rfl,_,rfl,Ae,SameX.upd (SameX.upd (SameX.refl _ _))⟩
   refine K9 fun H2 Zj=>?_;obtain⟨VX,hf2,hp2,wN⟩:=Zj;have l2:VX.length<=2:=by rw[hf2];exact qa1 (Ci _ _ _) (qg2 (Ci _ _ _))
   have qV:Aj H0 H2:=wN.same s0 fp;refine qs2 (fun σ' H'=>σ'=[rS p,rS ta,some (.int (w:Int))]/\∃(L O1 O2:Addr) (fs:List (Str × V)),fs=putF "left" (.ref L) VX/\H' p=some (.ins Ai dx fs)/\SameX p H2 H'/\Kp H2 H'/\p≠L/\H2 L=none/\H2 O1=none/\H2 O2=none/\LX H' Ag L O1 O2 none n n (Lat.one,Lat.one) (fun _=>False)) (fun key=>?_) ?_
   . refine⟨_,rfl,ta,us,rfl,.inl (qV.seq RG),n,(by rw[Mr]<;>rfl),O9m,fun O1 SG G1 hl1 R1=>?_⟩;refine⟨_,rfl,ta,us,rfl,.inl ((qV.trans R1.same).seq RG),n,(by rw[Mr]<;>rfl),O9m,fun O2 sG G2 hl2 R2=>?_⟩;have s2:=R1.same.trans R2.same;intro L dl nL mG MF;have sN:Aj G2 (upd (upd G2 dl (.own L)) L (.ins Ag dl [])):=(Aj.new mG).turn nL;refine⟨L,dl,Ag,.ref O1,.ref O2,rfl,.inl rfl,Ae,fun G4 fs hfs mW=>⟨rfl,?_⟩⟩;obtain⟨st,lx⟩:=vC (N:=fun _=>False) hl1 R1 hl2 R2 nL sN hfs mW (fun _ z=>z.elim);have Pz:=st _ _ (s2 _ _ hp2);have JD:p≠L:=Bj (s2 _ _ hp2) nL;refine⟨_,rfl,p,Ai,dx,_,rfl,Pz,T.cl_Work,T.na_Work_left,O9m,?_⟩;exact key _ _ ⟨rfl,L,O1,O2,_,rfl,Ae,SameX.upd (SameX.of (s2.trans st)),(Kp.of (s2.trans st)).trans Kp.upd,JD,s2.free nL,R1.free,R1.same.free R2.free,lx.x Pz JD (SameX.upd (SameX.refl _ _)) Kp.upd⟩
   refine K9 fun H3 Zj=>?_;obtain⟨L,O1,O2,kZ,PX,hp3,WM,PM,JD,nL,n1,n2,NL⟩:=Zj;have l3:kZ.length<=3:=by rw[PX];exact qa1 (Ci _ _ _) (qg2 l2)
   have V9:Aj H0 H3:=WM.same qV fp;refine qs2 (fun σ' H'=>σ'=[rS p,rS ta,some (.int (w:Int))]/\∃(R O3 O4:Addr) (fs:List (Str × V)),fs=putF "right" (.ref R) kZ/\H' p=some (.ins Ai dx fs)/\SameX p H3 H'/\Kp H3 H'/\p≠R/\H3 R=none/\H3 O3=none/\H3 O4=none/\LX H' Ag L O1 O2 none n n (Lat.one,Lat.one) (fun a=>a=O3\/a=O4)/\LX H' Ag R O3 O4 none w w (Lat.one,Lat.one) (fun _=>False)) (fun key=>?_) ?_
   . refine⟨_,rfl,w,rfl,O9m,fun uL SG G1 hl1 R1=>?_⟩;refine⟨_,rfl,w,rfl,O9m,fun rP sG G2 hl2 R2=>?_⟩;have s2:=R1.same.trans R2.same;intro R dl nR mG MF;have sN:Aj G2 (upd (upd G2 dl (.own R)) R (.ins Ag dl [])):=(Aj.new mG).turn nR;refine⟨R,dl,Ag,.ref uL,.ref rP,rfl,.inl rfl,Ae,fun G4 fs hfs mW=>⟨rfl,?_⟩⟩;obtain⟨st,lx⟩:=vC (N:=fun _=>False) hl1 R1 hl2 R2 nR sN hfs mW (fun _ z=>z.elim);have Pz:=st _ _ (s2 _ _ hp3);have kP:p≠R:=Bj (s2 _ _ hp3) nR;have n4:H3 rP=none:=R1.same.free R2.free;refine⟨_,rfl,p,Ai,dx,_,rfl,Pz,T.cl_Work,T.na_Work_right,O9m,?_⟩
     have y1:LX G4 Ag L O1 O2 none n n (Lat.one,Lat.one) (fun a=>a=uL\/a=rP):=NL.more (s2.trans st) (fun a ha=>.inr (by rcases ha with rfl | rfl;exact R1.free;exact n4)) fun a ha=>by
      rcases ha with rfl | rfl
      . obtain⟨_,z,_⟩:=lx.rw;exact z.there.1
      . obtain⟨_,z,_⟩:=lx.bk;exact z.there.1
     exact key _ _ ⟨rfl,R,uL,rP,_,rfl,Ae,SameX.upd (SameX.of (s2.trans st)),(Kp.of (s2.trans st)).trans Kp.upd,kP,s2.free nR,R1.free,n4,y1.x Pz JD (SameX.upd (SameX.refl _ _)) Kp.upd,lx.x Pz kP (SameX.upd (SameX.refl _ _)) Kp.upd⟩
   refine K9 fun H4 Zj=>?_;obtain⟨R,O3,O4,qE,NQ,Pz,wM,ZS,kP,nR,n3,n4,sM,SJ⟩:=Zj;have l4:qE.length<=4:=by rw[NQ];exact qa1 (Ci _ _ _) (qg2 l3)
   have kK:Aj H0 H4:=wM.same V9 fp;refine⟨qa8 _,fun nm hnm=>?_⟩;have sn:Aj H4 (upd H4 nm (.lst [])):=Aj.new hnm;have MS:upd H4 nm (.lst []) nm=some (.lst []):=Ae;have DO:=sn _ _ Pz;generalize upd H4 nm (.lst [])=H5 at sn MS DO;refine⟨_,rfl,p,Ai,dx,_,rfl,DO,T.cl_Work,T.na_Work_numbers,O9m,?_⟩
   have ex:∀a,a=nm\/a=O3\/a=O4->H5 a≠none:=fun a ha=>by
    rcases ha with rfl | rfl | rfl
    . rw[MS];exact fun z=>nomatch z
    . obtain⟨_,z,_⟩:=SJ.rw;exact(z.same sn).there.1
    . obtain⟨_,z,_⟩:=SJ.bk;exact(z.same sn).there.1
   have z1:LX H5 Ag L O1 O2 none n n (Lat.one,Lat.one) (fun a=>a=nm\/a=O3\/a=O4):=sM.more sn (fun a ha=>ha.elim (fun e=>.inr (e▸hnm)) .inl) ex;have z2:LX H5 Ag R O3 O4 none w w (Lat.one,Lat.one) (fun a=>a=nm):=SJ.more sn (fun a ha=>.inr (ha▸hnm)) fun a ha=>ex a (.inl ha);have lT:SameX p H5 (upd H5 p (.ins Ai dx (putF "numbers" (.ref nm) qE))):=SameX.upd (SameX.refl _ _);have iN:Aj H0 (upd H5 p (.ins Ai dx (putF "numbers" (.ref nm) qE))):=lT.same (kK.trans sn) fp;have g2:∀a,H2 a=none->H0 a=none:=fun a e=>qV.free e;have g3:∀a,H3 a=none->H0 a=none:=fun a e=>V9.free e;have QY:p≠nm:=Bj Pz hnm;have LR:L≠R:=fun z=>by obtain⟨_,_,q,_⟩:=NL.ob;rw[z,nR]at q;cases q
   refine k L R nm _ ⟨⟨.ref ta,dx,_,Ae,?_,?_,?_,?_,?_,fun m hm=>?_,?_,fun M' e=>by cases e;exact Rep.same (fun a o e=>by rw[Uc (Bj e (kK.free hnm))];exact iN _ _ e) hv⟩,⟨O1,O2,O3,O4,z1.x DO JD lT Kp.upd,z2.x DO kP lT Kp.upd,g2 _ n1,g2 _ n2,g3 _ n3,g3 _ n4⟩,by rw[Bb QY.symm];exact MS,iN,⟨fp,g2 _ nL,g3 _ nR,kK.free hnm⟩,⟨JD,kP,LR⟩,⟨hn,hw⟩⟩
   . rw[NQ,PX,hf2];((repeat (first | rw[An,if_pos rfl] | rw[An,if_neg (by decide +kernel)]))<;>first | rfl | assumption)
   . rw[NQ,PX,hf2];((repeat (first | rw[An,if_pos rfl] | rw[An,if_neg (by decide +kernel)]))<;>first | rfl | assumption)
   . rw[NQ,PX];((repeat (first | rw[An,if_pos rfl] | rw[An,if_neg (by decide +kernel)]))<;>first | rfl | assumption)
   . rw[NQ];((repeat (first | rw[An,if_pos rfl] | rw[An,if_neg (by decide +kernel)]))<;>first | rfl | assumption)
   . ((repeat (first | rw[An,if_pos rfl] | rw[An,if_neg (by decide +kernel)]))<;>first | rfl | assumption)
   . rw[NQ,PX,hf2]
     iterate 5 rw[An,if_neg (fun z=>absurd (z▸hm) (by decide +kernel))]
     rfl
   . exact qa1 (Ci _ _ _) O9m
noncomputable abbrev Jp:Stmt:=Gs 65
theorem Lp:FnScope ["_law_thing","_law_width","_law_row"] ["_law_thing","_law_width"] (Ar Jp):=B4
theorem Tr{f:Addr}{fd:FuncData}(F:Ey K "_law_table_due" "_law_table_due" Jp f fd)(T:Gq K mg Am At Be Bg Ax Ay Ad Bd Bp Bh Av As Bf Bo Aw Au Ag Ac Ai Ao)(Fs:Has P w K mg base "_law_list_due" ["_law_thing","_law_size"] 2 (Jz K)):Cj P w K mg base Fw 3 f fd ["_law_thing","_law_width"] (Jy K):=by
 refine F.ok Lp (fun vs H Q E h=>?_) (fun Dk A outer s H vs Q E hr h=>?_)
 . obtain⟨_,_,_,rfl,_⟩:=h;rfl
 . obtain⟨v,t,w,rfl,hv,hz,k⟩:=h
   refine⟨_,(Ah (Ck (PW.pt (BG (Jr (Ie (Bc (Mu (K:=K)) T.n_isinstance Bi (Aa (pv 0) (Aa (Hm (v:=.ty "list") rfl T.n_list Fp rfl) Af))))) (Xm (Bt FQ (Bc (Bm (K:=K)) T.n_len qf6 (Aa (pv 0) Af)) Ak (Bx _))))) (Al (Bq Ii)) Cb)
    (Ah (F3 qc9 rfl (Fi (K:=K) (pv 0)) (Bs (i:=2) Lp.nd) (Al (Ck (Jr (Ie (Ba Fs hr (Aa (pv 2) (Aa (pv 1) Af))))) (Al (Bq Ii)) Cb)))
    (Al (Bq Ii)))),?_⟩
   refine⟨_,rfl,v,"list",t,rfl,.inr (.inr (.inr (.inr (.inl rfl)))),hv,_,rfl,?_⟩;cases t with
   | one e =>
     have hz1:X9 "list" e=false:=hz;refine bO (by show(!X9 "list" e)=true;rw[hz1];rfl) ?_;exact k H (Aj.refl H)
   | rows es =>
     refine aC (by show ¬(!("list"=="list"))=true;decide) ?_;obtain⟨a,us,rfl,hq,hr⟩:=hv;obtain⟨hz1,hz2⟩:es.length<=1000/\∀e∈es,iH e:=hz;have hl:us.length=es.length:=hr.len;have kf:Dm w (.rows es)=false->∀H',Aj H H'->Q (.bl false) H':=fun e H' s=>by have k1:=k H' s;rw[e]at k1;exact k1
     refine⟨_,rfl,a,_,rfl,.inl hq,_,_,rfl,rfl,_,rfl,?_⟩;refine ite2 (fun h1=>?_) (fun h1=>?_)
     . have e1:¬es.length<=40:=by simp at h1;omega
       exact kf (by show(decide (es.length<=40)&&_)=_;rw[qf0 e1,qj9]) _ (Aj.refl H)
     . have e1:es.length<=40:=by simp at h1;omega
       refine⟨_,rfl,a,rfl,⟨_,hq⟩,?_⟩
       refine for_list (K:=K) (a:=a) (xs:=us) (fun i σ H1=>∃o1,σ=[rS a,iS w,o1]/\Aj H H1/\(es.take i).all (Dp w)=true)
        ⟨_,rfl,Aj.refl H,rfl⟩ (fun i σ H1 _ ⟨_,_,s,_⟩=>s.seq hq) ?_ ?_
       . rintro i u σ H1 hu ⟨o1,rfl,s1,hall⟩;obtain⟨e,he,rG⟩:=hr.get hu;refine⟨_,rfl,_,rfl,u,e,w,rfl,Fv.same s1 rG,hz2 e (qe2 he),fun H2 s2=>⟨_,rfl,?_⟩⟩;cases hx:Dp w e with
         | false =>
           refine bO rfl ?_;exact kf (by show(decide (es.length<=40)&&es.all (Dp w))=false;rw[Y8 he hx,qn1]) _ (s1.trans s2)
         | true =>
           refine aC (by simp) ?_;exact⟨_,rfl,s1.trans s2,Vx he hall hx⟩
       . rintro σ H1 ⟨o1,rfl,s1,hall⟩
         have e2:Dm w (.rows es)=true:=by
          show(decide (es.length<=40)&&es.all (Dp w))=true;rw[hl,qm1]at hall;rw[qj1 e1,hall,qm5]
         have k1:=k H1 s1;rw[e2]at k1;exact k1
noncomputable abbrev Fc:Stmt:=El (Gs 38) 4
theorem Do:FnScope ["self","i","first","j","at","quotient"] ["self","i","first"] (Ar Fc):=B4
theorem Lz{f:Addr}{fd:FuncData}(F:Ey K "shrink_row" "Stairs.shrink_row" Fc f fd)(T:Gq K mg Am At Be Bg Ax Ay Ad Bd Bp Bh Av As Bf Bo Aw Au Ag Ac Ai Ao)(Cv:Iq P w K mg base Ac "turn" ["self","turn"] 3 (Hy K Ag Ac Ai)):Cj P w K mg base Fw 4 f fd ["self","i","first"] (Hx K Ag Ac Ai):=by
 refine F.ok Do (fun vs H Q E h=>?_) (fun Dk A outer s H vs Q E hr h=>?_)
 . obtain⟨_,_,_,_,_,_,_,_,_,_,_,rfl,_⟩:=h;rfl
 . obtain⟨H0,p,q,M,n,W,t,cnt,s,i,f,rfl,x,hi,hf,hif,hds,ok,k⟩:=h;obtain⟨HP,HN,RY⟩:=x.sm;obtain⟨r,b,lx,_⟩:=x.ex;obtain⟨dx,fs,hp,l1,l2,l3,l4,l5⟩:=lx.ob
   refine⟨_,(Al (F3 qc9 rfl (Wa (by rfl) T.n_range (Aa (pv 2) (Aa (Bc (Bm (K:=K)) T.n_len qf6 (Aa (Bl (K:=K) (pv 0)) Af)) Af))) (Bs (i:=3) Do.nd) (Ah (Bk (i:=4) Do.nd (Bv (Br (K:=K)) (Bl (K:=K) (pv 0)) (pv 3) (fun _ _=>rfl)))
    (Ah (Bk (i:=5) Do.nd (Bn Gv (Bv (Br (K:=K)) (Bv (Br (K:=K)) (Bl (K:=K) (pv 0)) (pv 1) (fun _ _=>rfl)) (pv 4) (fun _ _=>rfl)) (Bv (Br (K:=K)) (Bv (Br (K:=K)) (Bl (K:=K) (pv 0)) (pv 3) (fun _ _=>rfl)) (pv 4) (fun _ _=>rfl))))
    (Al (Ck (Bt Q9 (pv 5) Ak (Bx _)) (Al (Cf (Dq (pv 0) T.cl_Stairs Cv hr (Aa (Ej (Aa Ek (Aa (pv 1) (Aa (pv 3) (Aa (Lw Hw (pv 5)) Af))))) Af)))) Cb)))))),?_⟩
   refine⟨_,rfl,_,rfl,p,Ac,dx,fs,_,rfl,hp,T.cl_Stairs,T.na_Stairs_starts,l3,q,_,rfl,.inl (.of x.st),(f:Int),(cnt:Int),by rw[By],O9m,?_⟩;rw[show(((cnt:Nat):Int)-((f:Nat):Int)).toNat=cnt-f by omega];clear lx hp l1 l2 l3 l4 l5;refine Ft (lo:=(f:Int)) (n:=cnt-f) (fun d σ G=>∃o3 o4 o5,σ=[rS p,iS i,iS f,o3,o4,o5]/\SX Ac H0 G p q M n W t cnt (Lat.shrS t i f s d)) ⟨none,none,none,rfl,x⟩ ?_ ?_
   . rintro d σ G hd ⟨o3,o4,o5,rfl,y⟩;obtain⟨r,b,lx,_⟩:=y.ex;obtain⟨dx,fs,hp,l1,l2,l3,l4,l5⟩:=lx.ob;obtain⟨as,xa,na⟩:=lx.rw;obtain⟨h1,h2,h3⟩:=hds (f+d) O9m O9m;have bo:=ok d O9m;have ej:((f:Nat):Int)+((d:Nat):Int)=(((f+d:Nat):Nat):Int):=O9m
     rw[ej];have hji:f+d≠i:=O9m
     have er:(Lat.shrS t i f s d).1 (f+d)=s.1 (f+d):=Su t i f s d _ hji;obtain⟨ci,_,ET,_,dR⟩:=xa.row (K:=K) hi;obtain⟨cj,_,NT,_,PY⟩:=xa.row (K:=K) (show f+d<n by omega);rw[er]at PY;refine⟨_,rfl,p,Ac,dx,fs,_,rfl,hp,T.cl_Stairs,T.na_Stairs_starts,l3,_,rfl,q,_,_,_,rfl,rfl,.of y.st,B5 (Cw O9m),?_⟩;refine⟨_,rfl,p,Ac,dx,fs,_,rfl,hp,T.cl_Stairs,T.na_Stairs_rows,l1,_,rfl,r,_,_,_,rfl,rfl,.of xa.2.1,B5 ET,_,rfl,ci,_,_,_,rfl,rfl,dR,B5 (Cw h1),_,rfl,p,Ac,dx,fs,_,rfl,hp,T.cl_Stairs,T.na_Stairs_rows,l1,_,rfl,r,_,_,_,rfl,rfl,.of xa.2.1,B5 NT,_,rfl,cj,_,_,_,rfl,rfl,PY,B5 (Cw h1),_,_,rfl,rfl,Px.of9 O9m h3,?_⟩;have sX:∀G',SX Ac H0 G' p q M n W t cnt (Lat.addS i (f+d) (-((Lat.shrS t i f s d).1 i (t (f+d)) / s.1 (f+d) (t (f+d)))) (Lat.shrS t i f s d))->SX Ac H0 G' p q M n W t cnt (Lat.shrS t i f s (d+1)):=fun G' z=>z.re (by rw[Lat.shrS,er]);have hq:((Lat.shrS t i f s d).1 i (t (f+d)) / s.1 (f+d) (t (f+d))).natAbs<2 ^ big:=Lat.fdiv_small h2 (bo.1 i _ hi h1);refine Ap (fun σ' H'=>σ'=[rS p,iS i,iS f,some (.int ((f+d:Nat):Int)),some (.int ((t (f+d):Nat):Int)),some (.int ((Lat.shrS t i f s d).1 i (t (f+d)) / s.1 (f+d) (t (f+d))))]/\G=H') ?_ fun key=>key _ _ ⟨by rw[←qd6 _ (qp8 h2)];rfl,rfl⟩;rintro _ _ ⟨rfl,rfl⟩;generalize (Lat.shrS t i f s d).1 i (t (f+d)) / s.1 (f+d) (t (f+d))=qq at sX hq;refine⟨_,rfl,rfl,_,rfl,?_⟩;refine ite2 (fun h4=>?_) (fun h4=>?_)
     . refine⟨_,rfl,p,dx,fs,rfl,hp,l4 _ (by decide +kernel),_,rfl,_,rfl,_,rfl,_,rfl,Cc (by simp),fun T1 hT1=>?_⟩;have s1:Aj G (upd G T1 (.tup [.str "add",.int i,.int ((f+d:Nat):Int),.int (-qq)])):=Aj.new hT1;have hT:Rep K (upd G T1 (.tup [.str "add",.int i,.int ((f+d:Nat):Int),.int (-qq)])) (.ref T1) (HY (.ad i (f+d) (-qq))):=⟨T1,_,rfl,.of Ae,⟨_,_,rfl,rfl,_,_,rfl,rfl,_,_,rfl,rfl,_,_,rfl,rfl,rfl⟩⟩
       generalize upd G T1 (.tup [.str "add",.int i,.int ((f+d:Nat):Int),.int (-qq)])=G1 at s1 hT;refine⟨p,.ref T1,Ac,r,b,_,n,W,_,_,.ad i (f+d) (-qq),rfl,.inr rfl,lx.keep s1,hT,⟨hi,O9m,fun z=>hji z.symm,fun c hc=>Nc (by rw[qb4];exact hq) (bo.1 _ _ O9m hc) (by decide)⟩,⟨O9m,hi,hji,fun c hc=>Nc (by rw[qb4,qb4];exact hq) (bo.2 _ _ hi hc) (by decide)⟩,O9m,O9m,fun r' b' G2 sx n1 n2 z=>?_⟩;exact⟨_,_,_,rfl,sX _ (y.redo s1 sx n1 n2 z)⟩
     . have h5:qq=0:=by simpa using h4
       subst h5;exact⟨_,_,_,rfl,sX _ (y.re (Lat.addS_zero _ _ _).symm)⟩
   . rintro σ G ⟨o3,o4,o5,rfl,y⟩;exact k _ y
noncomputable abbrev Kn:Stmt:=El (Gs 44) 4
theorem Gk:FnScope ["self","i","j","one","other","papers"] ["self","i","j"] (Ar Kn):=B4
theorem U2{f:Addr}{fd:FuncData}(F:Ey K "share" "Work.share" Kn f fd)(T:Gq K mg Am At Be Bg Ax Ay Ad Bd Bp Bh Av As Bf Bo Aw Au Ag Ac Ai Ao)(Hs:Iq P w K mg base Ag "turn" ["self","turn"] 3 (Hy K Ag Ac Ai))(Jw:Iq P w K mg base Ag "blend" ["self","i","j","one","other"] 2 (J0 K Ag Ac Ai)):Cj P w K mg base Fw 4 f fd ["self","i","j"] (V5 K Ag Ac Ai):=by
 refine F.ok Gk (fun vs H Q E h=>?_) (fun Dk A outer s H vs Q E hr h=>?_)
 . obtain⟨_,_,_,_,_,_,_,_,_,_,_,_,_,rfl,_⟩:=h;rfl
 . obtain⟨H0,p,L,R,nm,n,w,m,i,j,l,r,f,rfl,x,hij,hj,mn,mw,ok,k1,k2⟩:=h;obtain⟨HP,HN⟩:=x.sm;obtain⟨qS,AG,AE,hpa,RD,RC,mL,nO,kU,NN,rB,_⟩:=x.ob;obtain⟨r1,b1,r2,b2,lx,ly,f1,f2,f3,f4⟩:=x.li;obtain⟨p1,QX⟩:=ok.p1;obtain⟨p2,qX⟩:=ok.p2
   refine⟨_,(Ah (Bk (i:=3) Gk.nd (Bv (Br (K:=K)) (Bl (K:=K) (pv 0)) (pv 1) (fun _ _=>rfl)))
    (Ah (Bk (i:=4) Gk.nd (Bv (Br (K:=K)) (Bl (K:=K) (pv 0)) (pv 2) (fun _ _=>rfl)))
    (Al (Ck (Bt Q9 (Bn Cu (pv 4) (pv 3)) Ak (Bx _)) (Ah (Cf (Dq (Bl (K:=K) (pv 0)) T.cl_Lines Hs hr (Aa (Ej (Aa Ek (Aa (pv 1) (Aa (pv 2) (Aa Ak Af))))) Af)))
    (Ah (Bk (i:=5) Gk.nd (Dq (Bl (K:=K) (pv 0)) T.cl_Lines Jw hr (Aa (pv 1) (Aa (pv 2) (Aa (pv 3) (Aa (pv 4) Af))))))
    (Ah (Cf (Dq (Bl (K:=K) (pv 0)) T.cl_Lines Hs hr (Aa (Ej (Aa Ek (Aa (pv 2) (Aa (pv 1) (Aa (Lw Hw (Bn Gv (Bn Ee (Bv (B7 (K:=K)) (pv 5) Ak (fun _ _=>rfl)) (pv 4)) (Bv (B7 (K:=K)) (pv 5) Ak (fun _ _=>rfl)))) Af))))) Af)))
    (Ah (Js (Bv (B7 (K:=K)) (pv 5) Ak (fun _ _=>rfl)) (Jt (Bl (K:=K) (pv 0)) (pv 1) Ff))
    (Al (Js (Bn Ee (Bn Gv (pv 3) (Bv (B7 (K:=K)) (pv 5) Ak (fun _ _=>rfl))) (pv 4)) (Jt (Bl (K:=K) (pv 0)) (pv 2) Ff))))))) Cb)))),?_⟩
   refine⟨_,rfl,p,Ai,AG,AE,_,rfl,hpa,T.cl_Work,T.na_Work_numbers,kU,_,rfl,nm,_,_,_,rfl,rfl,.of x.nu,B5 (Cw (show i<m by omega)),?_⟩;refine⟨_,rfl,p,Ai,AG,AE,_,rfl,hpa,T.cl_Work,T.na_Work_numbers,kU,_,rfl,nm,_,_,_,rfl,rfl,.of x.nu,B5 (Cw hj),?_⟩;refine Fq (fun σ' H'=>σ'=[rS p,some (.int (i:Int)),some (.int (j:Int)),some (.int (f i)),some (.int (f j)),none]/\H=H') ?_ fun N4=>N4 _ _ ⟨rfl,rfl⟩;refine Eb ?_;refine⟨_,rfl,_,rfl,_,_,rfl,rfl,p1,rfl,_,rfl,?_⟩;refine ite2 (fun h1=>?_) (fun h1=>?_);rotate_left
   . have h2:f j%f i=0:=by simpa using h1
     exact k1 (Int.dvd_of_emod_eq_zero h2)
   obtain⟨dl,fl,hL,_,_,_,m4,_⟩:=lx.ob;refine qs2 (fun σ' H'=>σ'=[rS p,some (.int (i:Int)),some (.int (j:Int)),some (.int (f i)),some (.int (f j)),none]/\∃r1 b1,WX K Ag Ai H0 H' p L R nm n w none (Lat.addS i j 1 l) r (Ga m f)/\LX H' Ag L r1 b1 none n n (Lat.addS i j 1 l) (fun a=>a=nm\/a=r2\/a=b2)/\LX H' Ag R r2 b2 none w w r (fun a=>a=nm)/\H0 r1=none/\H0 b1=none) (fun key=>?_) ?_
   . refine⟨_,rfl,p,Ai,AG,AE,_,rfl,hpa,T.cl_Work,T.na_Work_left,mL,L,dl,fl,rfl,hL,m4 _ (by decide +kernel),_,rfl,_,rfl,Cc (by simp),fun T1 hT1=>?_⟩;have s1:Aj H (upd H T1 (.tup [.str "add",.int (i:Int),.int (j:Int),.int 1])):=Aj.new hT1;have hT:Rep K (upd H T1 (.tup [.str "add",.int (i:Int),.int (j:Int),.int 1])) (.ref T1) (HY (.ad i j 1)):=⟨T1,_,rfl,.of Ae,⟨_,_,rfl,rfl,_,_,rfl,rfl,_,_,rfl,rfl,_,_,rfl,rfl,rfl⟩⟩
     generalize upd H T1 (.tup [.str "add",.int (i:Int),.int (j:Int),.int 1])=G1 at s1 hT;refine⟨L,.ref T1,Ag,r1,b1,_,n,n,l,_,.ad i j 1,rfl,.inl rfl,lx.keep s1,hT,⟨O9m,O9m,O9m,fun c hc=>Kt (by decide) (by decide)⟩,⟨O9m,O9m,O9m,fun c hc=>Kt (by decide) (by decide)⟩,O9m,O9m,fun r' b' G2 sx n1 n2 z=>?_⟩;obtain⟨y1,y2⟩:=x.left lx ly f3 f4 s1 sx n1 n2 z;exact key _ _ ⟨rfl,r',b',y1,z,y2,(x.same.trans s1).free n1,(x.same.trans s1).free n2⟩
   refine K9 fun H2 Zj=>?_;obtain⟨r1',lF,x2,MJ,SK,yQ,YO⟩:=Zj;obtain⟨zG,yX,YM,XQ,zS,ZQ,zP,XA,ZM,zM,ZK,_⟩:=x2.ob;obtain⟨dr,fr,hR,_,_,_,m5,_⟩:=SK.ob;refine qs2 (fun σ' H'=>∃(P:Addr) (g a b:Int),σ'=[rS p,some (.int (i:Int)),some (.int (j:Int)),some (.int (f i)),some (.int (f j)),rS P]/\Lat.Shares (f i) (f j) g a b/\Fe K H' P [.int g,.int a,.int b]/\WX K Ag Ai H0 H' p L R nm n w none (Lat.addS i j 1 l) (kJ i j g a b f r) (Ga m f)/\LX H' Ag L r1' lF none n n (Lat.addS i j 1 l) (fun a=>a=nm\/a=r2\/a=b2)/\LX H' Ag R r2 b2 none w w (kJ i j g a b f r) (fun a=>a=nm)) (fun key=>?_) ?_
   . refine⟨_,rfl,p,Ai,yX,YM,_,rfl,XQ,T.cl_Work,T.na_Work_right,XA,R,dr,fr,rfl,hR,m5 _ (by decide +kernel),_,rfl,_,rfl,_,rfl,_,rfl,?_⟩;refine⟨R,Ag,r2,b2,_,w,w,i,j,f i,f j,r,_,rfl,.inl rfl,SK,O9m,O9m,O9m,O9m,O9m,p1,p2,QX,qX,ok.br,fun P g a b G fr kp hT sh z=>?_⟩;obtain⟨y1,y2⟩:=x2.right MJ SK yQ YO f3 f4 fr kp z;exact key _ _ ⟨P,g,a,b,rfl,sh,hT,y1,y2,z⟩
   refine KD fun P g a b H3 sh pZ x3 NL WY=>?_;obtain⟨uR,QG,QD,pV,VG,vG,sP,VF,vF,rC,VE,_⟩:=x3.ob;obtain⟨YY,YN,vS,_,_,_,m6,_⟩:=NL.ob;have g0:=sh.pos;have lg:g.natAbs<L9:=qa4 (Nat.le_of_dvd (Int.natAbs_pos.mpr O9m) (qp5.mpr sh.dA)) QX;have lb:b.natAbs<L9:=qa4 sh.lb QX;have cb:∀z:Int,Px z g:=fun z=>Px.of9 O9m lg;have ek:∀z:Int,z.fdiv g=z / g:=fun z=>qd6 _ O9m;have vE:(b*f j / g).natAbs<2 ^ 18000:=qa4 (qe0 _ _) (SI lb qX);refine qs2 (fun σ' H'=>σ'=[rS p,some (.int (i:Int)),some (.int (j:Int)),some (.int (f i)),some (.int (f j)),rS P]/\Fe K H' P [.int g,.int a,.int b]/\WX K Ag Ai H0 H' p L R nm n w none (NK i j g b f l) (kJ i j g a b f r) (Ga m f)) (fun key=>?_) ?_
   . refine⟨_,rfl,p,Ai,QG,QD,_,rfl,pV,T.cl_Work,T.na_Work_left,sP,L,YY,YN,rfl,vS,m6 _ (by decide +kernel),_,rfl,_,rfl,_,rfl,P,_,_,_,rfl,rfl,pZ,rfl,_,rfl,_,_,rfl,rfl,X0 lb qX,_,rfl,P,_,_,_,rfl,rfl,pZ,rfl,_,_,rfl,rfl,cb _,_,rfl,Cc (by simp),?_⟩;rw[ek];intro T1 hT1;have s1:Aj H3 (upd H3 T1 (.tup [.str "add",.int (j:Int),.int (i:Int),.int (-(b*f j / g))])):=Aj.new hT1;have hT:Rep K (upd H3 T1 (.tup [.str "add",.int (j:Int),.int (i:Int),.int (-(b*f j / g))])) (.ref T1) (HY (.ad j i (-(b*f j / g)))):=⟨T1,_,rfl,.of Ae,⟨_,_,rfl,rfl,_,_,rfl,rfl,_,_,rfl,rfl,_,_,rfl,rfl,rfl⟩⟩
     generalize upd H3 T1 (.tup [.str "add",.int (j:Int),.int (i:Int),.int (-(b*f j / g))])=G1 at s1 hT;refine⟨L,.ref T1,Ag,r1',lF,_,n,n,_,_,.ad j i (-(b*f j / g)),rfl,.inl rfl,NL.keep s1,hT,⟨O9m,O9m,O9m,fun c hc=>Nc (by rw[qb4];exact vE) (ok.bl.2.1 _ _ O9m hc) (by decide)⟩,⟨O9m,O9m,O9m,fun c hc=>Nc (by rw[qb4,qb4];exact vE) (ok.bl.2.2 _ _ O9m hc) (by decide)⟩,O9m,O9m,fun r' b' G2 sx n1 n2 z=>?_⟩;obtain⟨y1,_⟩:=x3.left NL WY f3 f4 s1 sx n1 n2 z;exact key _ _ ⟨rfl,bD (s1.seqT pZ) (s1 _ _ vS) sx,y1⟩
   refine Q3 fun H4 RH x4=>?_;obtain⟨ZF,YW,yM,xQ,ZR,zQ,ZO,ZN,xA,ZL,zK,_⟩:=x4.ob;refine⟨_,rfl,P,_,_,_,rfl,rfl,RH,rfl,_,rfl,p,Ai,YW,yM,_,rfl,xQ,T.cl_Work,T.na_Work_numbers,xA,_,rfl,nm,_,_,i,rfl,rfl,x4.nu,Jb (by rw[By];omega),?_⟩;have e1:(VI m f).set i (.int g)=(Ga m fun k=>if k=i then g else f k).map V.int:=FF O9m;have x5:=x4.num (ns':=Ga m fun k=>if k=i then g else f k);rw[←e1]at x5;have tQ:Fe K (upd H4 nm (.lst ((VI m f).set i (.int g)))) P [.int g,.int a,.int b]:=ON RH x4.nu;refine Fq (fun σ' H'=>σ'=[rS p,some (.int (i:Int)),some (.int (j:Int)),some (.int (f i)),some (.int (f j)),rS P]/\Fe K H' P [.int g,.int a,.int b]/\WX K Ag Ai H0 H' p L R nm n w none (NK i j g b f l) (kJ i j g a b f r) (Ga m fun k=>if k=i then g else f k)) ?_ fun N4=>N4 _ _ ⟨rfl,tQ,x5⟩;refine Q3 fun H6 YA x6=>?_;obtain⟨zF,yW,YL,xP,zR,ZP,zO,zN,WZ,zL,ZJ,_⟩:=x6.ob;have lA:(f i / g).natAbs<L9:=qa4 (qe0 _ _) QX;refine⟨_,rfl,_,rfl,P,_,_,_,rfl,rfl,YA,rfl,_,_,rfl,rfl,cb _,_,rfl,_,_,rfl,rfl,(by rw[ek];exact X0 lA qX),_,rfl,p,Ai,yW,YL,_,rfl,xP,T.cl_Work,T.na_Work_numbers,WZ,_,rfl,nm,_,_,j,rfl,rfl,x6.nu,Jb (by rw[By];exact hj),?_⟩;rw[ek]
   have e2:(VI m fun k=>if k=i then g else f k).set j (.int (f i / g*f j))=(Ga m (lV i j g f)).map V.int:=by
    rw[FF hj];show VI m _=VI m _;refine Pp fun c hc=>?_;unfold lV Lat.put2;by_cases z1:c=j
    . subst z1;rw[if_pos rfl,if_neg (by omega),if_pos rfl]
    . rw[if_neg z1];by_cases z2:c=i
      . rw[if_pos z2,if_pos z2]
      . rw[if_neg z2,if_neg z2,if_neg z1]
   have x7:=x6.num (ns':=Ga m (lV i j g f));rw[←e2]at x7;exact k2 g a b _ sh x7
noncomputable abbrev G9:Stmt:=El (Gs 55) 0
theorem P6:FnScope ["self","table","width"] ["self","table","width"] (Ar G9):=B4
theorem Qg{f:Addr}{fd:FuncData}(F:Ey K "__init__" "Turner.__init__" G9 f fd)(T:Gq K mg Am At Be Bg Ax Ay Ad Bd Bp Bh Av As Bf Bo Aw Au Ag Ac Ai Ao)(Yg:Has P w K mg base "copied" ["table"] 1 (V0 K))(Es:o9 P w K mg base Ag ["self","rows","backs"] 1 (Hz K Ag Ac Ai))(Hu:Has P w K mg base "is_table" ["thing","width"] 3 (Jy K))(Le:Has P w K mg base "ones" ["size"] 2 (W8 K)):Cj P w K mg base (Zi P w) 4 f fd ["self","table","width"] (Sm K Ag Ao Ad):=by
 refine F.okX P6 (fun vs H Q E h=>?_) (fun Dk A outer s H vs Q E hr h=>?_)
 . obtain⟨_,_,_,_,_,_,rfl,_⟩:=h;rfl
 . obtain⟨p,dx,v,n,w,t,rfl,hp,hA,kE,kQ⟩:=h
   refine⟨_,(Ah (Ck (Jr (Ie (Ba Hu hr (Aa (pv 1) (Aa (pv 2) Af))))) (Al (Tb Qm (by rfl) (by rfl) T.m_NoTable T.e_NoTable (Aa Ek Af))) Cb)
    (Ah (Dh (K:=K) (pv 0) (Ba Yg hr (Aa (pv 1) Af)))
    (Ah (Dh (K:=K) (pv 0) (pv 2))
    (Ah (Dh (K:=K) (pv 0) (Ih Es hr (by rfl) T.m_Lines (Aa (Ba Le hr (Aa (Bc (Bm (K:=K)) T.n_len qf6 (Aa (pv 1) Af)) Af)) (Aa (Ba Le hr (Aa (Bc (Bm (K:=K)) T.n_len qf6 (Aa (pv 1) Af)) Af)) Af))))
    (Ah (Dh (K:=K) (pv 0) (Ih Es hr (by rfl) T.m_Lines (Aa (Ba Le hr (Aa (pv 2) Af)) (Aa (Ba Le hr (Aa (pv 2) Af)) Af))))
    (Al (Dh (K:=K) (pv 0) (Fn Af)))))))),?_⟩
   refine qs2 (t:=Ri _ _ _) (fun σ' H'=>σ'=[rS p,some v,some (.int (w:Int))]/\Aj H H'/\Dm (w:Int) t=true) (fun key=>?_) ?_
   . refine⟨_,rfl,_,rfl,v,t,w,rfl,hA.rep,hA.sz,fun H1 s1=>?_⟩;cases hb:Dm (w:Int) t with
     | false =>
       refine⟨_,rfl,?_⟩;refine bO rfl ?_;exact⟨Cc (by simp),kE hb H1 s1⟩
     | true =>
       refine⟨_,rfl,?_⟩;refine aC (by simp) ?_;exact key _ _ ⟨rfl,s1,hb⟩
   refine Q3 fun H1 s1 hb=>?_;obtain⟨A,hv,hn,hP⟩:=hA.good hb;have hw:=hA.w60;obtain⟨va,us,rfl,xO,Mr,_⟩:=Hi hv
   have VL:∀{H':Hp},SameX p H H'->SqL K H' va us:=fun {H'} sx=>by
    rcases xO with(q|⟨o,q⟩) | q
    . exact .inl (.inl (sx _ _ (E5 q hp (by intro z;cases z)) q))
    . exact .inl (.inr ⟨o,sx _ _ (E5 q hp (by intro z;cases z)) q⟩)
    . exact .inr q
   refine qs2 (fun σ' H'=>∃fs,σ'=[rS p,rS va,some (.int (w:Int))]/\SameX p H H'/\H' p=some (.ins Ao dx fs)/\fs.length<=1) (fun key=>?_) ?_
   . refine⟨_,rfl,.ref va,n,w,A,rfl,Rep.same s1 hv,O9m,fun D1 jX H2 hl1 R1=>?_⟩;have s2:=s1.trans R1.same;refine⟨_,rfl,p,Ao,dx,[],rfl,s2 _ _ hp,T.cl_Turner,T.na_Turner_table,by simp,?_⟩;exact key _ _ ⟨_,rfl,SameX.upd (SameX.of s2),Ae,by simp[putF]⟩
   refine AZ fun f1 H2 x2 hp2 l1=>?_;refine qs2 (fun σ' H'=>∃fs,σ'=[rS p,rS va,some (.int (w:Int))]/\SameX p H H'/\H' p=some (.ins Ao dx fs)/\fs.length<=2) (fun key=>?_) ?_
   . refine⟨_,rfl,_,rfl,p,Ao,dx,_,rfl,hp2,T.cl_Turner,T.na_Turner_width,O9m,?_⟩;exact key _ _ ⟨_,rfl,SameX.upd x2,Ae,Xn l1⟩
   refine AZ fun f2 H3 x3 hp3 l2=>?_;refine qs2 (fun σ' H'=>∃fs,σ'=[rS p,rS va,some (.int (w:Int))]/\SameX p H H'/\H' p=some (.ins Ao dx fs)/\fs.length<=3) (fun key=>?_) ?_
   . refine⟨_,rfl,va,us,rfl,.inl (VL x3),n,(by rw[Mr]<;>rfl),O9m,fun O1 SG H5 TL Q1=>?_⟩;refine⟨_,rfl,va,us,rfl,.inl (VL (x3.trans (SameX.of Q1.same))),n,(by rw[Mr]<;>rfl),O9m,fun O2 sG H6 tL Q2=>?_⟩;intro L dl nL mG MF;have s7:Aj H6 (upd (upd H6 dl (.own L)) L (.ins Ag dl [])):=(Aj.new mG).turn nL;refine⟨L,dl,Ag,.ref O1,.ref O2,rfl,.inl rfl,Ae,fun H8 fs hfs tU=>⟨rfl,?_⟩⟩
     have x8:Aj H6 H8:=fun a o e=>by
      rw[tU,Bb (Bj e nL),Bb (Bj e nL)];exact s7 _ _ e
     have oQ:=(Q1.same.trans Q2.same).trans x8;refine⟨_,rfl,p,Ao,dx,_,rfl,oQ _ _ hp3,T.cl_Turner,T.na_Turner_left,O9m,?_⟩;exact key _ _ ⟨_,rfl,SameX.upd (x3.trans (SameX.of oQ)),Ae,Xn l2⟩
   refine AZ fun f3 H4 x4 Pz l3=>?_;refine qs2 (fun σ' H'=>∃fs,σ'=[rS p,rS va,some (.int (w:Int))]/\SameX p H H'/\H' p=some (.ins Ao dx fs)/\fs.length<=4) (fun key=>?_) ?_
   . refine⟨_,rfl,w,rfl,O9m,fun O1 SG H5 TL Q1=>?_⟩;refine⟨_,rfl,w,rfl,O9m,fun O2 sG H6 tL Q2=>?_⟩;intro L dl nL mG MF;have s7:Aj H6 (upd (upd H6 dl (.own L)) L (.ins Ag dl [])):=(Aj.new mG).turn nL;refine⟨L,dl,Ag,.ref O1,.ref O2,rfl,.inl rfl,Ae,fun H8 fs hfs tU=>⟨rfl,?_⟩⟩
     have x8:Aj H6 H8:=fun a o e=>by
      rw[tU,Bb (Bj e nL),Bb (Bj e nL)];exact s7 _ _ e
     have oQ:=(Q1.same.trans Q2.same).trans x8;refine⟨_,rfl,p,Ao,dx,_,rfl,oQ _ _ Pz,T.cl_Turner,T.na_Turner_right,O9m,?_⟩;exact key _ _ ⟨_,rfl,SameX.upd (x4.trans (SameX.of oQ)),Ae,Xn l3⟩
   refine AZ fun f4 H9 x9 vN l4=>?_;refine⟨qa8 _,fun D hD=>?_⟩;have qA:p≠D:=Bj vN hD;refine⟨_,rfl,p,Ao,dx,f4,rfl,by rw[Bb qA];exact vN,T.cl_Turner,T.na_Turner_done,O9m,?_⟩;exact kQ hb _ (SameX.upd (x9.trans (SameX.of (Aj.new hD))))
noncomputable abbrev Jo:Stmt:=El (Gs 38) 2
theorem F1:FnScope ["self","spot","i","at","head","other"] ["self","spot","i"] (Ar Jo):=B4
theorem Tq{f:Addr}{fd:FuncData}(F:Ey K "meet" "Stairs.meet" Jo f fd)(T:Gq K mg Am At Be Bg Ax Ay Ad Bd Bp Bh Av As Bf Bo Aw Au Ag Ac Ai Ao)(Cn:Iq P w K mg base Ac "shrink_row" ["self","i","first"] 4 (Hx K Ag Ac Ai))(Cv:Iq P w K mg base Ac "turn" ["self","turn"] 3 (Hy K Ag Ac Ai))(Hg:Iq P w K mg base Ac "blend" ["self","i","j","one","other"] 2 (J0 K Ag Ac Ai)):Cj P w K mg base Fw 5 f fd ["self","spot","i"] (Zp K Ag Ac Ai):=by
 refine F.ok F1 (fun vs H Q E h=>?_) (fun Dk A outer s H vs Q E hr h=>?_)
 . obtain⟨_,_,_,_,_,_,_,_,_,_,_,rfl,_⟩:=h;rfl
 . obtain⟨H0,p,q,M,n,W,t,spot,i,s,Nx,rfl,x,hs,hi,ok,k⟩:=h;obtain⟨HP,HN,RY⟩:=x.sm;obtain⟨r,b,lx,f1,f2⟩:=x.ex;obtain⟨dx,fs,hp,l1,l2,l3,l4,l5⟩:=lx.ob;obtain⟨as,xa,na⟩:=lx.rw;obtain⟨h1,h2,h3⟩:=ok.hd spot (qa0 _) hs;obtain⟨o1,o2⟩:=ok.oth;obtain⟨ci,_,ET,_,dR⟩:=xa.row (K:=K) hi;obtain⟨cs,_,RN,_,hcs⟩:=xa.row (K:=K) (show spot<n by omega)
   refine⟨_,(Ah (Bk (i:=3) F1.nd (Bv (Br (K:=K)) (Bl (K:=K) (pv 0)) (pv 1) (fun _ _=>rfl)))
    (Ah (Bk (i:=4) F1.nd (Bv (Br (K:=K)) (Bv (Br (K:=K)) (Bl (K:=K) (pv 0)) (pv 1) (fun _ _=>rfl)) (pv 3) (fun _ _=>rfl)))
    (Ah (Bk (i:=5) F1.nd (Bv (Br (K:=K)) (Bv (Br (K:=K)) (Bl (K:=K) (pv 0)) (pv 2) (fun _ _=>rfl)) (pv 3) (fun _ _=>rfl)))
    (Ah (Ck (Bt C6 (Bn Cu (pv 5) (pv 4)) Ak (Bx _)) (Al (Cf (Dq (pv 0) T.cl_Stairs Cv hr (Aa (Ej (Aa Ek (Aa (pv 2) (Aa (pv 1) (Aa (Lw Hw (Bn Gv (pv 5) (pv 4))) Af))))) Af)))) (Ah (Cf (Dq (pv 0) T.cl_Stairs Hg hr (Aa (pv 1) (Aa (pv 2) (Aa (pv 4) (Aa (pv 5) Af))))))
    (Al (Cf (Dq (pv 0) T.cl_Stairs Cn hr (Aa (pv 1) (Aa (Bn D6 (pv 1) Ak) Af)))))))
    (Al (Cf (Dq (pv 0) T.cl_Stairs Cn hr (Aa (pv 2) (Aa (Bn D6 (pv 1) Ak) Af))))))))),?_⟩
   refine⟨_,rfl,p,Ac,dx,fs,_,rfl,hp,T.cl_Stairs,T.na_Stairs_starts,l3,_,rfl,q,_,_,_,rfl,rfl,.of x.st,B5 (Cw hs),?_⟩;refine⟨_,rfl,p,Ac,dx,fs,_,rfl,hp,T.cl_Stairs,T.na_Stairs_rows,l1,_,rfl,r,_,_,_,rfl,rfl,.of xa.2.1,B5 RN,_,rfl,cs,_,_,_,rfl,rfl,hcs,B5 (Cw h1),?_⟩;refine⟨_,rfl,p,Ac,dx,fs,_,rfl,hp,T.cl_Stairs,T.na_Stairs_rows,l1,_,rfl,r,_,_,_,rfl,rfl,.of xa.2.1,B5 ET,_,rfl,ci,_,_,_,rfl,rfl,dR,B5 (Cw h1),?_⟩;refine Ap (fun σ' H'=>σ'=[rS p,iS spot,iS i,some (.int ((t spot:Nat):Int)),some (.int (s.1 spot (t spot))),some (.int (s.1 i (t spot)))]/\H=H') ?_ fun key=>key _ _ ⟨rfl,rfl⟩;refine Eb ?_;refine qs2 (t:=Ri _ _ _) (fun σ' H'=>σ'=[rS p,iS spot,iS i,some (.int ((t spot:Nat):Int)),some (.int (s.1 spot (t spot))),some (.int (s.1 i (t spot)))]/\∃s1,SX Ac H0 H' p q M n W t i s1/\W1 n W t i (spot+1) i s1/\qN W t (spot+1) i s1.1/\Nx (Lat.shrS t i (spot+1) s1 (i-(spot+1)))) (fun key=>?_) ?_
   . refine⟨_,rfl,_,rfl,_,_,rfl,rfl,h2,rfl,_,rfl,?_⟩;refine ite2 (fun h4=>?_) (fun h4=>?_)
     . have h5:s.1 i (t spot)%s.1 spot (t spot)=0:=by simpa using h4
       have h6:s.1 i (t spot)=s.1 i (t spot) / s.1 spot (t spot)*s.1 spot (t spot):=(qq8 (Int.dvd_of_emod_eq_zero h5)).symm;obtain⟨KO,KN⟩:=ok.add _ h6;refine⟨_,rfl,p,dx,fs,rfl,hp,l4 _ (by decide +kernel),_,rfl,_,rfl,_,rfl,_,rfl,_,_,rfl,rfl,Px.of9 O9m h3,_,rfl,Cc (by simp),?_⟩;rw[qd6 _ (qp8 h2)];have hk:(s.1 i (t spot) / s.1 spot (t spot)).natAbs<L9:=qa4 (qe0 _ _) o2;generalize s.1 i (t spot) / s.1 spot (t spot)=kk at h6 KO KN hk;intro T1 hT1;have s1:Aj H (upd H T1 (.tup [.str "add",.int i,.int spot,.int (-kk)])):=Aj.new hT1;have hT:Rep K (upd H T1 (.tup [.str "add",.int i,.int spot,.int (-kk)])) (.ref T1) (HY (.ad i spot (-kk))):=⟨T1,_,rfl,.of Ae,⟨_,_,rfl,rfl,_,_,rfl,rfl,_,_,rfl,rfl,_,_,rfl,rfl,rfl⟩⟩
       generalize upd H T1 (.tup [.str "add",.int i,.int spot,.int (-kk)])=G1 at s1 hT;refine⟨p,.ref T1,Ac,r,b,_,n,W,_,_,.ad i spot (-kk),rfl,.inr rfl,lx.keep s1,hT,⟨hi,O9m,O9m,fun c hc=>y9 (by rw[qb4];exact hk) (ok.bo.1 _ _ O9m hc)⟩,⟨O9m,hi,O9m,fun c hc=>y9 (by rw[qb4,qb4];exact hk) (ok.bo.2 _ _ hi hc)⟩,O9m,O9m,fun r' b' G2 sx n1 n2 z=>?_⟩;refine key _ _ ⟨rfl,_,x.redo s1 sx n1 n2 z,KO,fun j hj1 hj2=>?_,KN⟩;have e:(UR (.ad i spot (-kk)) s).1 j=s.1 j:=Lat.addR_row_ne (show j≠i by omega);rw[e];exact ok.hd j O9m hj2
     . refine Ap (fun σ' H'=>σ'=[rS p,iS spot,iS i,some (.int ((t spot:Nat):Int)),some (.int (s.1 spot (t spot))),some (.int (s.1 i (t spot)))]/\∃g a c,Lat.Shares (s.1 spot (t spot)) (s.1 i (t spot)) g a c/\SX Ac H0 H' p q M n W t i (Tz spot i (s.1 spot (t spot)) (s.1 i (t spot)) g a c s)) ?_ fun jL=>?_;rotate_left
       . refine⟨_,rfl,p,dx,fs,rfl,hp,l4 _ (by decide +kernel),_,rfl,_,rfl,_,rfl,_,rfl,?_⟩;refine⟨p,Ac,r,b,_,n,W,spot,i,_,_,s,_,rfl,.inr rfl,lx,O9m,hi,O9m,O9m,O9m,h2,o1,h3,o2,ok.bo,fun L g a c G fr kp _ sh z=>?_⟩;exact jL _ _ ⟨rfl,g,a,c,sh,x.redo2 lx f1 f2 fr kp z⟩
       refine K9 fun G Zj=>?_;obtain⟨g,a,c,sh,y⟩:=Zj;obtain⟨KO,KN,WV⟩:=ok.ble g a c sh
       have hd1:qN W t (spot+1) i (Tz spot i (s.1 spot (t spot)) (s.1 i (t spot)) g a c s).1:=fun j hj1 hj2=>by
        have e:(Tz spot i (s.1 spot (t spot)) (s.1 i (t spot)) g a c s).1 j=s.1 j:=Lat.blend_row_ne (show j≠spot by omega) (show j≠i by omega) _ _ _ _;rw[e];exact ok.hd j O9m hj2
       obtain⟨r',b',ly,_⟩:=y.ex;obtain⟨HX,fs',TF,_,_,_,sO,_⟩:=ly.ob;refine⟨_,rfl,p,HX,fs',rfl,TF,sO _ (by decide +kernel),_,rfl,_,rfl,_,_,rfl,rfl,?_⟩;refine⟨H0,p,q,M,n,W,t,i,_,spot,spot+1,rfl,y,O9m,O9m,.inl O9m,hd1,KO,fun G' z=>?_⟩;refine key _ _ ⟨rfl,_,z,KN,fun j hj1 hj2=>?_,WV⟩;rw[Su _ _ _ _ _ _ (show j≠spot by omega)];exact hd1 j hj1 hj2
   refine K9 fun G Zj=>?_;obtain⟨s1,y,KO,hd1,KN⟩:=Zj;obtain⟨r',b',ly,_⟩:=y.ex;obtain⟨HX,fs',TF,_,_,_,sO,_⟩:=ly.ob;refine⟨_,rfl,p,HX,fs',rfl,TF,sO _ (by decide +kernel),_,rfl,_,rfl,_,_,rfl,rfl,?_⟩;exact⟨H0,p,q,M,n,W,t,i,s1,i,spot+1,rfl,y,hi,O9m,.inr (qa0 _),hd1,KO,fun G' z=>k _ _ z KN⟩
noncomputable abbrev Ha:Stmt:=El (Gs 38) 3
theorem J5:FnScope ["self","i"] ["self"] (Ar Ha):=B4
theorem Qh{f:Addr}{fd:FuncData}(F:Ey K "shrink" "Stairs.shrink" Ha f fd)(T:Gq K mg Am At Be Bg Ax Ay Ad Bd Bp Bh Av As Bf Bo Aw Au Ag Ac Ai Ao)(Cn:Iq P w K mg base Ac "shrink_row" ["self","i","first"] 4 (Hx K Ag Ac Ai)):Cj P w K mg base Fw 5 f fd ["self"] (Sk K Ag Ac Ai):=by
 refine F.ok J5 (fun vs H Q E h=>?_) (fun Dk A outer s H vs Q E hr h=>?_)
 . obtain⟨_,_,_,_,_,_,_,_,_,rfl,_⟩:=h;rfl
 . obtain⟨H0,p,q,M,n,W,t,i,s,rfl,x,ok,k⟩:=h;obtain⟨HP,HN,RY⟩:=x.sm;obtain⟨r,b,lx,_⟩:=x.ex;obtain⟨dx,fs,hp,l1,l2,l3,l4,l5⟩:=lx.ob;refine⟨_,(Al (F3 qc9 rfl (iU (by rfl) T.n_range (Aa (Bn Kr (Bc (Bm (K:=K)) T.n_len qf6 (Aa (Bl (K:=K) (pv 0)) Af)) Ak) (Aa (Lw Hw Ak) (Aa (Lw Hw Ak) Af)))) (Bs (i:=1) J5.nd) (Al (Cf (Dq (pv 0) T.cl_Stairs Cn hr (Aa (pv 1) (Aa (Bn D6 (pv 1) Ak) Af))))))),?_⟩;refine⟨_,rfl,p,Ac,dx,fs,_,rfl,hp,T.cl_Stairs,T.na_Stairs_starts,l3,q,_,rfl,.inl (.of x.st),_,_,rfl,rfl,_,rfl,_,rfl,i+1,by rw[By],O9m,?_⟩;clear lx hp l1 l2 l3 l4 l5;refine GK (hi:=((i+1:Nat):Int)-1) (n:=i+1) (fun d σ G=>∃o1,σ=[rS p,o1]/\SX Ac H0 G p q M n W t (i+1) (Lat.downS t i s d)) ⟨none,rfl,x⟩ ?_ ?_
   . rintro d σ G hd ⟨o1,rfl,y⟩;obtain⟨r,b,lx,_⟩:=y.ex;obtain⟨dx,fs,hp,l1,l2,l3,l4,l5⟩:=lx.ob;rw[show((i+1:Nat):Int)-1-((d:Nat):Int)=((i-d:Nat):Int) by omega];obtain⟨KO,KN⟩:=ok d O9m;refine⟨_,rfl,p,dx,fs,rfl,hp,l4 _ (by decide +kernel),_,rfl,_,rfl,_,_,rfl,rfl,?_⟩;refine⟨H0,p,q,M,n,W,t,i+1,Lat.downS t i s d,i-d,i-d+1,rfl,y,O9m,O9m,.inl O9m,KO,KN,fun G' z=>?_⟩;rw[show i+1-(i-d+1)=d by omega]at z;exact⟨_,rfl,z⟩
   . rintro σ G ⟨o1,rfl,y⟩;exact k _ y
noncomputable abbrev Fb:Stmt:=El (Gs 44) 3
theorem Cr:FnScope ["self","many","gap","i","j"] ["self"] (Ar Fb):=B4
theorem Ly{f:Addr}{fd:FuncData}(F:Ey K "put_in_order" "Work.put_in_order" Fb f fd)(T:Gq K mg Am At Be Bg Ax Ay Ad Bd Bp Bh Av As Bf Bo Aw Au Ag Ac Ai Ao)(Hr:Iq P w K mg base Ai "share" ["self","i","j"] 4 (V5 K Ag Ac Ai)):Cj P w K mg base Fw 5 f fd ["self"] (V6 K Ag Ac Ai):=by
 refine F.ok Cr (fun vs H Q E h=>?_) (fun Dk A outer s H vs Q E hr h=>?_)
 . obtain⟨_,_,_,_,_,_,_,_,_,_,_,_,rfl,_⟩:=h;rfl
 . obtain⟨H0,p,L,R,nm,n,w,m,l,r,f,Sv,rfl,x,mn,mw,v0,vs,k⟩:=h;obtain⟨aU,NC,fK⟩:=T.x_GAPS;obtain⟨HP,HN⟩:=x.sm;obtain⟨qS,AG,AE,hpa,RD,RC,mL,nO,kU,NN,rB,_⟩:=x.ob
   refine⟨_,(Ah (Bk (i:=1) Cr.nd (Bc (Bm (K:=K)) T.n_len qf6 (Aa (Bl (K:=K) (pv 0)) Af)))
    (Ah (F3 qc9 rfl (bN (K:=K) (Dr (v:=.ref aU) (by rfl) NC rfl)) (Bs (i:=2) Cr.nd) (Al (F3 qc9 rfl (Dz (by rfl) T.n_range (Aa (Bn Kr (pv 1) (pv 2)) Af)) (Bs (i:=3) Cr.nd) (Al (Cf (Dq (pv 0) T.cl_Work Hr hr (Aa (pv 3) (Aa (Bn D6 (pv 3) (pv 2)) Af))))))))
    (Al (F3 qc9 rfl (Dz (by rfl) T.n_range (Aa (pv 1) Af)) (Bs (i:=3) Cr.nd) (Al (F3 qc9 rfl (Wa (by rfl) T.n_range (Aa (Bn D6 (pv 3) Ak) (Aa (pv 1) Af))) (Bs (i:=4) Cr.nd) (Al (Cf (Dq (pv 0) T.cl_Work Hr hr (Aa (pv 3) (Aa (pv 4) Af))))))))))),?_⟩
   refine qs2 (fun σ' H'=>σ'=[rS p,some (.int (m:Int)),none,none,none]/\H=H') (fun key=>?_) ?_
   . exact⟨_,rfl,p,Ai,AG,AE,_,rfl,hpa,T.cl_Work,T.na_Work_numbers,kU,nm,_,rfl,.inl (.of x.nu),key _ _ ⟨by rw[qa2,Iz];rfl,rfl⟩⟩
   refine Eb ?_;refine qs2 (fun σ' H'=>∃(o2 o3:Option L2.V),σ'=[rS p,some (.int (m:Int)),o2,o3,none]/\∃(d:Nat) (f:Nat->Int) (l r:Lat.Mat × Lat.Mat),d<=5*m/\Sv d f l r/\WX K Ag Ai H0 H' p L R nm n w none l r (Ga m f)) (fun key=>?_) ?_
   . refine⟨aU,rfl,⟨_,fK H⟩,?_⟩;refine JQ (K:=K) (a:=aU) (xs:=(([32,16,8,4,2]:List Int).map V.int)) (fun g σ' G=>∃(o2 o3:Option L2.V),σ'=[rS p,some (.int (m:Int)),o2,o3,none]/\∃(d:Nat) (f:Nat->Int) (l r:Lat.Mat × Lat.Mat),d<=g*m/\Sv d f l r/\WX K Ag Ai H0 G p L R nm n w none l r (Ga m f)) ⟨none,none,rfl,0,f,l,r,O9m,v0,x⟩ (fun g σ G _ _=>fK G) ?_ ?_
     . rintro g y σ G hy ⟨o2,o3,rfl,d,f,l,r,hd,hv,z⟩
       have hg:∃gp:Nat,y=.int (gp:Int)/\1<=gp/\gp<=32/\g<5:=by
        match g,hy with
        | 0,hy=>cases hy;exact⟨32,rfl,by decide,by decide,by decide⟩
        | 1,hy=>cases hy;exact⟨16,rfl,by decide,by decide,by decide⟩
        | 2,hy=>cases hy;exact⟨8,rfl,by decide,by decide,by decide⟩
        | 3,hy=>cases hy;exact⟨4,rfl,by decide,by decide,by decide⟩
        | 4,hy=>cases hy;exact⟨2,rfl,by decide,by decide,by decide⟩
        | g+5,hy=>simp at hy
       obtain⟨gp,rfl,g1,g2,g5⟩:=hg;refine⟨_,rfl,_,rfl,_,_,rfl,rfl,_,rfl,O9m,O9m,?_⟩;refine Ft (lo:=0) (n:=((m:Int)-(gp:Int)).toNat) (fun i σ' G=>∃o3:Option L2.V,σ'=[rS p,some (.int (m:Int)),some (.int (gp:Int)),o3,none]/\∃(d:Nat) (f:Nat->Int) (l r:Lat.Mat × Lat.Mat),d<=g*m+i/\Sv d f l r/\WX K Ag Ai H0 G p L R nm n w none l r (Ga m f)) ⟨o3,rfl,d,f,l,r,hd,hv,z⟩ ?_ ?_
       . rintro i σ G hi ⟨o3,rfl,d,f,l,r,hd,hv,z⟩;rw[qi4];obtain⟨uR,QG,QD,pV,VG,vG,sP,VF,vF,rC,VE,_⟩:=z.ob
         have ZU:g*m+m<=5*m:=by
          have:=qb1 m (show g+1<=5 from g5);rw[qd4,qd1]at this;exact this
         refine⟨_,rfl,p,QG,QD,rfl,pV,rC _ (by decide +kernel),_,rfl,_,rfl,_,rfl,_,_,rfl,rfl,?_⟩;obtain⟨o1,pA,OZ⟩:=vs d i (i+gp) f l r hv O9m O9m O9m;refine⟨H0,p,L,R,nm,n,w,m,i,i+gp,l,r,f,rfl,z,O9m,O9m,mn,mw,o1,fun pY=>?_,fun g' a b G' sh z'=>?_⟩
         . exact⟨_,rfl,d+1,f,l,r,O9m,pA pY,z⟩
         . exact⟨_,rfl,d+1,_,_,_,O9m,OZ g' a b sh,z'⟩
       . rintro σ G ⟨o3,rfl,d,f,l,r,hd,hv,z⟩;refine⟨_,_,rfl,d,f,l,r,?_,hv,z⟩;rw[qd4,qd1];omega
     . rintro σ G ⟨o2,o3,rfl,d,f,l,r,hd,hv,z⟩;exact key _ _ ⟨o2,o3,rfl,d,f,l,r,hd,hv,z⟩
   refine KG fun o2 o3 G Zj=>?_;obtain⟨d,f,l,r,hd,hv,z⟩:=Zj;refine⟨_,rfl,_,rfl,O9m,O9m,?_⟩;refine Ft (lo:=0) (n:=((m:Int)).toNat) (fun i σ' G=>∃o3 o4:Option L2.V,σ'=[rS p,some (.int (m:Int)),o2,o3,o4]/\∃(d:Nat) (f:Nat->Int) (l r:Lat.Mat × Lat.Mat),d<=5*m+i*m/\Sv d f l r/\Lat.ChainTo m i f/\WX K Ag Ai H0 G p L R nm n w none l r (Ga m f)) ⟨o3,none,rfl,d,f,l,r,O9m,hv,fun a b ha=>O9m,z⟩ ?_ ?_
   . rintro i σ G hi ⟨o3,o4,rfl,d,f,l,r,hd,hv,hc,z⟩;rw[qe4]at hi;rw[qi4]
     have zV:i*m+m<=m*m:=by
      have:=qb1 m (show i+1<=m from hi);rw[qd4,qd1]at this;exact this
     refine⟨_,rfl,_,_,rfl,rfl,_,rfl,_,_,rfl,⟨O9m,O9m,O9m,O9m⟩,?_⟩;refine Ft (lo:=(i:Int)+1) (n:=((m:Int)-((i:Int)+1)).toNat) (fun j σ' G=>∃o4:Option L2.V,σ'=[rS p,some (.int (m:Int)),o2,some (.int (i:Int)),o4]/\∃(d:Nat) (f:Nat->Int) (l r:Lat.Mat × Lat.Mat),d<=5*m+i*m+j/\Sv d f l r/\Lat.ChainAt m i (i+1+j) f/\WX K Ag Ai H0 G p L R nm n w none l r (Ga m f)) ⟨o4,rfl,d,f,l,r,O9m,hv,hc.at,z⟩ ?_ ?_
     . rintro j σ G hj ⟨o4,rfl,d,f,l,r,hd,hv,hc,z⟩;rw[show(i:Int)+1+(j:Int)=((i+1+j:Nat):Int) by omega];obtain⟨uR,QG,QD,pV,VG,vG,sP,VF,vF,rC,VE,_⟩:=z.ob;refine⟨_,rfl,p,QG,QD,rfl,pV,rC _ (by decide +kernel),_,rfl,_,rfl,?_⟩;obtain⟨o1,pA,OZ⟩:=vs d i (i+1+j) f l r hv O9m O9m O9m;refine⟨H0,p,L,R,nm,n,w,m,i,i+1+j,l,r,f,rfl,z,O9m,O9m,mn,mw,o1,fun pY=>?_,fun g' a b G' sh z'=>?_⟩
       . exact⟨_,rfl,d+1,f,l,r,O9m,pA pY,hc.skip pY,z⟩
       . exact⟨_,rfl,d+1,_,_,_,O9m,OZ g' a b sh,hc.step O9m O9m sh.pair,z'⟩
     . rintro σ G ⟨o4,rfl,d,f,l,r,hd,hv,hc,z⟩;rw[show i+1+((m:Int)-((i:Int)+1)).toNat=m by omega]at hc;refine⟨_,_,rfl,d,f,l,r,?_,hv,hc.next,z⟩;rw[qd4,qd1];omega
   . rintro σ G ⟨o3,o4,rfl,d,f,l,r,hd,hv,hc,z⟩;rw[qe4]at hc;exact k d f l r _ hv hc z
noncomputable abbrev Hc:Stmt:=El (Gs 38) 1
theorem Gd:FnScope ["self","i","spot"] ["self","i"] (Ar Hc):=B4
theorem Qi{f:Addr}{fd:FuncData}(F:Ey K "put_in" "Stairs.put_in" Hc f fd)(T:Gq K mg Am At Be Bg Ax Ay Ad Bd Bp Bh Av As Bf Bo Aw Au Ag Ac Ai Ao)(J9:Has P w K mg base "start_of" ["row"] 1 (Op K))(Cv:Iq P w K mg base Ac "turn" ["self","turn"] 3 (Hy K Ag Ac Ai))(Jv:Iq P w K mg base Ac "meet" ["self","spot","i"] 5 (Zp K Ag Ac Ai)):Cj P w K mg base Fw 6 f fd ["self","i"] (Sl K Ag Ac Ai):=by
 refine F.ok Gd (fun vs H Q E h=>?_) (fun Dk A outer s H vs Q E hr h=>?_)
 . obtain⟨_,_,_,_,_,_,_,_,_,_,rfl,_⟩:=h;rfl
 . obtain⟨H0,p,q,M,n,W,t,i,s0,I,rfl,x,hi,P,ht,k⟩:=h;obtain⟨HP,HN,RY⟩:=x.sm
   refine⟨_,(Ah (Bk (i:=2) Gd.nd Ak)
    (Ah (Ot qc9 (PW.pt (FL (Bt Tk (pv 2) (pv 1) (Bx _)) (bH (Bt OW (Bv (Br (K:=K)) (Bl (K:=K) (pv 0)) (pv 2) (fun _ _=>rfl)) (Ba J9 hr (Aa (Bv (Br (K:=K)) (Bl (K:=K) (pv 0)) (pv 1) (fun _ _=>rfl)) Af)) (Bx _))))) (Ah (Ck (Bt C6 (Bv (Br (K:=K)) (Bl (K:=K) (pv 0)) (pv 2) (fun _ _=>rfl)) (Ba J9 hr (Aa (Bv (Br (K:=K)) (Bl (K:=K) (pv 0)) (pv 1) (fun _ _=>rfl)) Af)) (Bx _)) (Al (Cf (Dq (pv 0) T.cl_Stairs Jv hr (Aa (pv 2) (Aa (pv 1) Af))))) Cb)
    (Al (Bk (i:=2) Gd.nd (Bn D6 (pv 2) Ak)))))
    (Ah (Cf (L5 (K:=K) qf4 qn6 qn4 Qk (Bl (K:=K) (pv 0)) (Aa (pv 2) (Aa (L5 (K:=K) qf4 PySem.F.slot_list_pop PySem.F.type_list_pop c7 (Bl (K:=K) (pv 0)) (Aa (pv 1) Af)) Af))))
    (Ah (Cf (L5 (K:=K) qf4 qn6 qn4 Qk (Bl (K:=K) (pv 0)) (Aa (pv 2) (Aa (L5 (K:=K) qf4 PySem.F.slot_list_pop PySem.F.type_list_pop c7 (Bl (K:=K) (pv 0)) (Aa (pv 1) Af)) Af))))
    (Ah (Cf (L5 (K:=K) qf4 qn6 qn4 Qk (Bl (K:=K) (pv 0)) (Aa (pv 2) (Aa (Ba J9 hr (Aa (Bv (Br (K:=K)) (Bl (K:=K) (pv 0)) (pv 2) (fun _ _=>rfl)) Af)) Af))))
    (Al (Ck (Bt Tk (Bv (Br (K:=K)) (Bv (Br (K:=K)) (Bl (K:=K) (pv 0)) (pv 2) (fun _ _=>rfl)) (Bv (Br (K:=K)) (Bl (K:=K) (pv 0)) (pv 2) (fun _ _=>rfl)) (fun _ _=>rfl)) Ak (Bx _)) (Al (Cf (Dq (pv 0) T.cl_Stairs Cv hr (Aa (Ej (Aa Ek (Aa (pv 2) Af))) Af)))) Cb))))))),?_⟩
   refine Fq (fun σ' H'=>σ'=[rS p,iS i,some (.int ((0:Nat):Int))]/\H=H') ?_ fun N4=>N4 _ _ ⟨rfl,rfl⟩;refine Eb ?_;refine qs2 (fun σ' H'=>∃spot st s,σ'=[rS p,iS i,some (.int ((spot:Nat):Int))]/\SX Ac H0 H' p q M n W t i s/\I spot s/\spot<=i/\F9 W (s.1 i) st/\(spot<i->st<t spot)) (fun key=>?_) ?_
   . refine⟨fun m σ' G=>∃spot s,σ'=[rS p,iS i,some (.int ((spot:Nat):Int))]/\SX Ac H0 G p q M n W t i s/\I spot s/\spot<=i/\m=i-spot,⟨_,0,s0,rfl,x,P.start,qa8 _,rfl⟩,?_⟩;rintro m σ G ⟨spot,s,rfl,y,hI,hs,rfl⟩;obtain⟨st,hb⟩:=F9.ex (P.ok spot s hs hI);obtain⟨r,b,lx,_⟩:=y.ex;obtain⟨dx,fs,hp,l1,l2,l3,l4,l5⟩:=lx.ob;obtain⟨as,xa,na⟩:=lx.rw;obtain⟨ci,_,ET,_,dR⟩:=xa.row (K:=K) hi;refine⟨_,rfl,_,rfl,_,_,rfl,rfl,_,rfl,?_⟩;refine ite2 (fun h1=>?_) (fun h1=>?_)
     . have hlt:spot<i:=by have:((spot:Nat):Int)<(i:Int):=by simpa using h1
                           omega
       refine⟨_,rfl,p,Ac,dx,fs,_,rfl,hp,T.cl_Stairs,T.na_Stairs_starts,l3,_,rfl,q,_,_,_,rfl,rfl,.of y.st,B5 (Cw hlt),_,rfl,p,Ac,dx,fs,_,rfl,hp,T.cl_Stairs,T.na_Stairs_rows,l1,_,rfl,r,_,_,_,rfl,rfl,.of xa.2.1,B5 ET,ci,W,st,_,rfl,dR,hb,O9m,_,_,rfl,rfl,_,rfl,?_⟩;refine ite2 (fun h2=>?_) (fun h2=>?_)
       . have hle:t spot<=st:=by have:((t spot:Nat):Int)<=(st:Int):=by simpa using h2
                                 omega
         refine⟨fun σ' G'=>∃BD s',σ'=[rS p,iS i,some (.int ((BD:Nat):Int))]/\SX Ac H0 G' p q M n W t i s'/\I BD s'/\BD=spot+1,?_,?_⟩
         . rintro σ' G' ⟨BD,s',rfl,z1,z2,rfl⟩;exact⟨i-(spot+1),O9m,spot+1,s',rfl,z1,z2,hlt,rfl⟩
         refine Ap (t:=Ri _ _ _) (fun σ' G'=>σ'=[rS p,iS i,some (.int ((spot:Nat):Int))]/\∃s',SX Ac H0 G' p q M n W t i s'/\I (spot+1) s') ?_ fun jL=>?_;rotate_left
         . refine⟨_,rfl,p,Ac,dx,fs,_,rfl,hp,T.cl_Stairs,T.na_Stairs_starts,l3,_,rfl,q,_,_,_,rfl,rfl,.of y.st,B5 (Cw hlt),_,rfl,p,Ac,dx,fs,_,rfl,hp,T.cl_Stairs,T.na_Stairs_rows,l1,_,rfl,r,_,_,_,rfl,rfl,.of xa.2.1,B5 ET,ci,W,st,_,rfl,dR,hb,O9m,rfl,_,rfl,?_⟩;refine ite2 (fun h3=>?_) (fun h3=>?_)
           . have he:t spot=st:=by
              have:((t spot:Nat):Int)=(st:Int):=by simpa using h3
              omega
             refine⟨_,rfl,p,dx,fs,rfl,hp,l4 _ (by decide +kernel),_,rfl,_,rfl,?_⟩;refine⟨H0,p,q,M,n,W,t,spot,i,s,I (spot+1),rfl,y,hlt,hi,P.meet spot s hlt hI (fun c hc=>hb.1 c O9m) (by rw[he];exact hb.2.1),fun G' s' z1 z2=>?_⟩;exact jL _ _ ⟨rfl,s',z1,z2⟩
           . have he:¬t spot=st:=by
              have:¬((t spot:Nat):Int)=(st:Int):=by simpa using h3
              omega
             exact jL _ _ ⟨rfl,s,y,P.skip spot s hlt hI fun c hc=>hb.1 c O9m⟩
         rintro _ G' ⟨rfl,s',z1,z2⟩;exact⟨_,rfl,_,_,rfl,rfl,spot+1,s',rfl,z1,z2,rfl⟩
       . have hle:¬t spot<=st:=by have:¬((t spot:Nat):Int)<=(st:Int):=by simpa using h2
                                  omega
         exact key _ _ ⟨spot,st,s,rfl,y,hI,hs,hb,fun _=>O9m⟩
     . have hlt:¬spot<i:=by have:¬((spot:Nat):Int)<(i:Int):=by simpa using h1
                            omega
       exact key _ _ ⟨spot,st,s,rfl,y,hI,hs,hb,fun z=>absurd z hlt⟩
   refine OD fun spot st s G y hI hs hb hex=>?_;obtain⟨r,b,lx,f1,f2⟩:=y.ex;obtain⟨dx,fs,hp,l1,l2,l3,l4,l5⟩:=lx.ob;obtain⟨as,xa,na⟩:=lx.rw;obtain⟨bs,xb,nb⟩:=lx.bk;obtain⟨pr,pb⟩:=lx.refs;have rb:=lx.ne;obtain⟨ci,SA,ET,vD,dR⟩:=xa.row (K:=K) hi;obtain⟨di,QV,qF,sJ,hdi⟩:=xb.row (K:=K) hi
   have six:∀l:Nat,i<l->seqIndex? ((i:Nat):Int) l=some i:=fun l hl=>by
    unfold seqIndex?;simp only[show ¬((i:Nat):Int)<0 by omega,if_false,qe4]
    first | (rw[if_neg (by omega)]) | (rw[if_pos (by omega)]) | (simp;omega)
   refine qs2 (fun σ' H'=>σ'=[rS p,iS i,some (.int ((spot:Nat):Int))]/\(∀a,a≠r->H' a=G a)/\H' r=some (.lst (insAt spot (.ref ci) ((as.map V.ref).eraseIdx i)))) (fun key=>?_) ?_
   . refine⟨_,rfl,p,Ac,dx,fs,_,rfl,hp,T.cl_Stairs,T.na_Stairs_rows,l1,.inl ⟨rfl,_,.of xa.2.1⟩,_,rfl,_,rfl,p,Ac,dx,fs,_,rfl,hp,T.cl_Stairs,T.na_Stairs_rows,l1,.inl ⟨rfl,_,.of xa.2.1⟩,_,rfl,r,_,_,i,_,rfl,rfl,xa.2.1,O9m,O9m,six _ (by rw[qa2,xa.1];exact hi),ET,?_⟩;refine⟨r,_,spot,_,rfl,rfl,Ae,?_,small (by rw[qg4 (by rw[qa2,xa.1];exact hi),qa2,xa.1];omega),key _ _ ⟨rfl,fun a ha=>by rw[Bb ha,Bb ha],Ae⟩⟩;rw[qg4 (by rw[qa2,xa.1];exact hi),qa2,xa.1];omega
   refine Q3 fun G1 e1 r1=>?_;refine qs2 (fun σ' H'=>σ'=[rS p,iS i,some (.int ((spot:Nat):Int))]/\(∀a,a≠b->H' a=G1 a)/\H' b=some (.lst (insAt spot (.ref di) ((bs.map V.ref).eraseIdx i)))) (fun key=>?_) ?_
   . have hp1:G1 p=_:=(e1 _ pr).trans hp;have b1:G1 b=_:=(e1 _ rb.symm).trans xb.2.1;refine⟨_,rfl,p,Ac,dx,fs,_,rfl,hp1,T.cl_Stairs,T.na_Stairs_backs,l2,.inl ⟨rfl,_,.of b1⟩,_,rfl,_,rfl,p,Ac,dx,fs,_,rfl,hp1,T.cl_Stairs,T.na_Stairs_backs,l2,.inl ⟨rfl,_,.of b1⟩,_,rfl,b,_,_,i,_,rfl,rfl,b1,O9m,O9m,six _ (by rw[qa2,xb.1];exact hi),qF,?_⟩;refine⟨b,_,spot,_,rfl,rfl,Ae,?_,small (by rw[qg4 (by rw[qa2,xb.1];exact hi),qa2,xb.1];omega),key _ _ ⟨rfl,fun a ha=>by rw[Bb ha,Bb ha],Ae⟩⟩;rw[qg4 (by rw[qa2,xb.1];exact hi),qa2,xb.1];omega
   refine Q3 fun G2 e2 b2=>?_;have r2:=(e2 _ rb).trans r1;have nU:∀a,a≠r->a≠b->G2 a=G a:=fun a h1 h2=>(e2 a h2).trans (e1 a h1);have hp2:=(nU _ pr pb).trans hp;have qr:q≠r:=fun z=>lx.nr (z▸y.mq);have qb:q≠b:=fun z=>lx.nb (z▸y.mq);have q2:=(nU _ qr qb).trans y.st;obtain⟨ya,ma⟩:=xa.move hi hs SA r2 fun a ha=>nU a (na a ha).1 (na a ha).2.1;obtain⟨yb,mb⟩:=xb.move hi hs QV b2 fun a ha=>nU a (nb a ha).1 (nb a ha).2.1;obtain⟨cs,_,RN,_,hcs⟩:=ya.row (K:=K) (show spot<n by omega)
   have QE:Lat.moveR s.1 i spot spot=s.1 i:=by
    rw[Lat.move_row];unfold Lat.mvI;rw[if_neg (by omega),if_pos rfl]
   rw[QE]at hcs;refine qs2 (fun σ' H'=>σ'=[rS p,iS i,some (.int ((spot:Nat):Int))]/\SX Ac H0 H' p q M n W (Lat.insT t spot st) (i+1) (Lat.moveS i spot s)) (fun key=>?_) ?_
   . refine⟨_,rfl,p,Ac,dx,fs,_,rfl,hp2,T.cl_Stairs,T.na_Stairs_starts,l3,.inl ⟨rfl,_,.of q2⟩,_,rfl,_,rfl,p,Ac,dx,fs,_,rfl,hp2,T.cl_Stairs,T.na_Stairs_rows,l1,_,rfl,r,_,_,_,rfl,rfl,.of r2,B5 (by rw[Wi,Ql]at RN;exact RN),cs,W,st,_,rfl,hcs,hb,O9m,?_⟩;refine⟨q,_,spot,_,rfl,rfl,q2,by rw[By];exact hs,small (by rw[By];omega),key _ _ ⟨rfl,?_⟩⟩;rw[t9 hs];have qp:p≠q:=E5 hp y.st (by intro z;cases z);refine⟨⟨r,b,⟨⟨dx,fs,by rw[Bb qp];exact hp2,l1,l2,l3,l4,l5⟩,⟨_,ya.put qr.symm fun a ha z=>(na a (ma a ha)).2.2 (z.symm▸y.mq),fun a ha=>na a (ma a ha)⟩,⟨_,yb.put qb.symm fun a ha z=>(nb a (mb a ha)).2.2 (z.symm▸y.mq),fun a ha=>nb a (mb a ha)⟩,rb,lx.nr,lx.nb,fun a ha z=>?_⟩,f1,f2⟩,Ae,fun a o e=>?_,y.fp,y.fq,y.mq,⟨HP,HN,O9m⟩⟩
     . by_cases haq:a=q
       . rw[haq,Ae]at z;cases z
       . rw[Bb haq,nU a (fun e=>lx.nr (e▸ha)) (fun e=>lx.nb (e▸ha))]at z;exact lx.nn a ha z
     . rw[Bb (Bj e y.fq),nU a (Bj e f1) (Bj e f2)];exact y.same _ _ e
   refine K9 fun G3 z=>?_;obtain⟨r3,b3,SO,_⟩:=z.ex;obtain⟨qH,kZ,hp3,l1,l2,l3,l4,l5⟩:=SO.ob;obtain⟨as3,UP,zI⟩:=SO.rw;obtain⟨c3,_,YT,_,hc3⟩:=UP.row (K:=K) (show spot<n by omega);have GN:(Lat.moveS i spot s).1 spot=s.1 i:=QE;rw[GN]at hc3
   have uC:Lat.insT t spot st spot=st:=by
    unfold Lat.insT;rw[if_neg (by omega),if_pos rfl]
   refine⟨_,rfl,p,Ac,qH,kZ,_,rfl,hp3,T.cl_Stairs,T.na_Stairs_rows,l1,_,rfl,r3,_,_,_,rfl,rfl,.of UP.2.1,B5 YT,_,rfl,p,Ac,qH,kZ,_,rfl,hp3,T.cl_Stairs,T.na_Stairs_starts,l3,_,rfl,q,_,_,_,rfl,rfl,.of z.st,B5 (Cw O9m),c3,_,_,_,rfl,rfl,hc3,B5 (by rw[uC];exact Cw hb.2.2),_,_,rfl,rfl,_,rfl,?_⟩;refine ite2 (fun h4=>?_) (fun h4=>?_)
   . have h5:s.1 i st<0:=by simpa using h4
     refine⟨_,rfl,p,qH,kZ,rfl,hp3,l4 _ (by decide +kernel),_,rfl,Cc (by simp),fun T1 hT1=>?_⟩;have s1:Aj G3 (upd G3 T1 (.tup [.str "minus",.int ((spot:Nat):Int)])):=Aj.new hT1;have hT:Rep K (upd G3 T1 (.tup [.str "minus",.int ((spot:Nat):Int)])) (.ref T1) (HY (.mi spot)):=⟨T1,_,rfl,.of Ae,⟨_,_,rfl,rfl,_,_,rfl,rfl,rfl⟩⟩
     generalize upd G3 T1 (.tup [.str "minus",.int ((spot:Nat):Int)])=G4 at s1 hT;refine⟨p,.ref T1,Ac,r3,b3,_,n,W,_,_,.mi spot,rfl,.inr rfl,SO.keep s1,hT,(show spot<n by omega),(show spot<n by omega),O9m,O9m,fun r' b' G5 sx n1 n2 w=>?_⟩;refine k _ spot st s hs hI hb hex ((z.redo s1 sx n1 n2 w).re ?_);rw[Lat.insS,if_pos (by rw[GN];exact h5)];rfl
   . have h5:¬s.1 i st<0:=by simpa using h4
     refine k _ spot st s hs hI hb hex (z.re ?_);rw[Lat.insS,if_neg (by rw[GN];exact h5)]
noncomputable abbrev P8:Stmt:=Gs 37
theorem Ki:FnScope ["table","width","lines","stairs","i","papers"] ["table","width","lines"] (Ar P8):=B4
theorem w9{f:Addr}{fd:FuncData}(F:Ey K "stepped" "stepped" P8 f fd)(T:Gq K mg Am At Be Bg Ax Ay Ad Bd Bp Bh Av As Bf Bo Aw Au Ag Ac Ai Ao)(Qp:o9 P w K mg base Ac ["self","rows","backs"] 2 (Zq K Ag Ac Ai))(Es:o9 P w K mg base Ag ["self","rows","backs"] 1 (Hz K Ag Ac Ai))(Hf:Iq P w K mg base Ac "put_in" ["self","i"] 6 (Sl K Ag Ac Ai))(He:Iq P w K mg base Ac "shrink" ["self"] 5 (Sk K Ag Ac Ai)):Cj P w K mg base Fw 7 f fd ["table","width","lines"] (Q5 K Ag Ac Ai):=by
 refine F.ok Ki (fun vs H Q E h=>?_) (fun Dk A outer s H vs Q E hr h=>?_)
 . obtain⟨_,_,_,_,_,_,_,_,_,_,_,_,rfl,_⟩:=h;rfl
 . obtain⟨v,L,r,b,sv,N,n,w,M,P,PB,J,rfl,hv,lx,hn,hw,TJ,j0,jt,k⟩:=h;obtain⟨ta,us,rfl,g9,Mr,Hq⟩:=Hi hv;obtain⟨dx,fs,hp,l1,l2,l3,l4,l5⟩:=lx.ob;obtain⟨ps,xp,np⟩:=lx.rw;obtain⟨bs,xb,nb⟩:=lx.bk;have nN:∀a,H a=none->¬N a:=fun a e z=>lx.nn a z e
   refine⟨_,(Ah (Bk (i:=3) Ki.nd (Ih Qp hr (by rfl) T.m_Stairs (Aa (Dg (N':=["row","paper"]) (cap:=[none,none]) (by rfl) (by kernel_rfl) (Xp (K:=K) (by rfl) T.n_zip (Aa (pv 0) (Aa (Bl (K:=K) (pv 2)) Af))) (fun _ _ _ _=>(Ja (K:=K) (n:=2) (by rfl) (C8 (Bs (i:=0) FZ) (C8 (Bs (i:=1) FZ) Ix)))) (fun _ _ _ _=>Da) (fun _ _ _ _=>(Bn (D7 (K:=K)) (pv 0) (pv 1)))) (Aa (D5 (Ju (K:=K)) (by rfl) T.n_list Fp (Aa (Bl (K:=K) (pv 2)) Af)) Af))))
    (Ah (F3 qc9 rfl (Dz (by rfl) T.n_range (Aa (Bc (Bm (K:=K)) T.n_len qf6 (Aa (pv 0) Af)) Af)) (Bs (i:=4) Ki.nd) (Ah (Cf (Dq (pv 3) T.cl_Stairs Hf hr (Aa (pv 4) Af)))
    (Al (Cf (J7 (pv 3) T.cl_Stairs He hr)))))
    (Ah (Bk (i:=5) Ki.nd (Ih Es hr (by rfl) T.m_Lines (Aa (Dg (N':=["row","width"]) (cap:=[none,some 1]) (by rfl) (by kernel_rfl) (Fi (K:=K) (Bl (K:=K) (pv 3))) (fun _ _ _ _=>(Bs (i:=0) fY)) (fun _ _ _ _=>Da) (fun _ _ _ _=>(Gu (Gw (K:=K)) (pv 0) (Iv (pv 1)) Iw))) (Aa (Bl (K:=K) (pv 3)) Af))))
    (Al (Bq (Ej (Aa (Dg (N':=["row","width"]) (cap:=[none,some 1]) (by rfl) (by kernel_rfl) (Fi (K:=K) (Bl (K:=K) (pv 3))) (fun _ _ _ _=>(Bs (i:=0) fY)) (fun _ _ _ _=>Da) (fun _ _ _ _=>(Gu (Gw (K:=K)) (pv 0) Iw (Iv (pv 1))))) (Aa (pv 5) Af)))))))),?_⟩
   refine qs2 (fun σ' H'=>∃p q,σ'=[rS ta,some (.int (w:Int)),rS L,rS p,none,none]/\SX Ac H H' p q (fun a=>a=q\/N a) n (w+n) (fun _=>0) 0 (Lat.beside w M P,PB)) (fun key=>?_) ?_
   . refine⟨_,rfl,_,rfl,L,Ag,dx,fs,_,rfl,hp,T.cl_Lines,T.na_Lines_rows,l1,ta,r,rfl,⟨_,g9⟩,⟨_,.of xp.2.1⟩,fun D hD=>?_⟩
     refine Mt (K:=K) (a:=ta) (b:=r) (xs:=us) (ys:=ps.map V.ref) (n:=n) (by rw[Mr,qa2,xp.1,qp1]) (fun i zs τ H1=>∃cs,zs=cs.map V.ref/\cs.length=i/\Rows H H1 D cs (w+n) (Lat.beside w M P)/\∃o1 o2,τ=[o1,o2])
      ⟨[],rfl,rfl,Rows.nil hD,none,none,rfl⟩ (fun i zs τ H1 _ ⟨cs,_,_,R,_⟩=>⟨R.same.seq g9,R.same.seq (.of xp.2.1)⟩) ?_ ?_
     . rintro i x y zs τ H1 pr hx hy ⟨cs,rfl,hcl,R,o1,o2,rfl⟩ hpr;obtain⟨hi,bx,rfl,XY⟩:=Hq i x hx;obtain⟨cy,_,ey,_,XX⟩:=xp.row (K:=K) hi;rw[ey]at hy;cases hy;have sp:Aj H1 (upd H1 pr (.tup [.ref bx,.ref cy])):=Aj.new hpr;refine⟨pr,_,rfl,.of Ae,rfl,_,_,rfl,_,_,rfl,rfl,?_⟩;refine⟨_,rfl,_,rfl,bx,cy,_,_,rfl,rfl,sp.seq (R.same.seq XY),sp.seq (R.same.seq XX),Cc (by rw[By,By];omega),fun E hE=>?_⟩;have sE:Aj (upd H1 pr (.tup [.ref bx,.ref cy])) (upd (upd H1 pr (.tup [.ref bx,.ref cy])) E (.lst (VI w (M i)++VI n (P i)))):=Aj.new hE;refine⟨sE _ _ (sp _ _ R.at),small (by rw[qa2];omega),cs++[E],by rw[qc8];rfl,by rw[qe5,hcl];rfl,?_,_,_,rfl⟩;refine R.push (sp.free hE) (sp.trans sE) ?_;rw[hcl,Ae,Zc (h:=Lat.beside w M P i) (fun c hc=>Lat.beside_lo hc) (fun a _=>Lat.beside_hi w M P i a)]
     rintro zs τ H1 ⟨cs,rfl,hcl,R,_⟩;have hp1:=R.same _ _ hp;refine⟨_,rfl,L,Ag,dx,fs,_,rfl,hp1,T.cl_Lines,T.na_Lines_backs,l2,b,_,rfl,.inl (.of (R.same _ _ xb.2.1)),fun B hB=>?_⟩;intro p HX qZ KQ mF;have s2:Aj H1 (upd H1 B (.lst (bs.map V.ref))):=Aj.new hB;have hB2:upd H1 B (.lst (bs.map V.ref)) B=some (.lst (bs.map V.ref)):=Ae;generalize upd H1 B (.lst (bs.map V.ref))=H2 at s2 hB2 qZ KQ;have s3:Aj H2 (upd (upd H2 HX (.own p)) p (.ins Ac HX [])):=(Aj.new KQ).turn qZ;have V9:=(R.same.trans s2).trans s3;have f2:∀a,H2 a=none->H a=none:=fun a e=>(R.same.trans s2).free e;refine⟨p,HX,_,_,rfl,Ae,fun q H4 fs' hq hfs sx vM Pz=>⟨rfl,?_⟩⟩;generalize upd (upd H2 HX (.own p)) p (.ins Ac HX [])=H3 at s3 V9 hq sx;have f3:∀a,H3 a=none->H a=none:=fun a e=>V9.free e;have st:∀a o,H2 a=some o->H4 a=some o:=fun a o e=>sx _ _ (Bj e qZ) (s3 _ _ e);have xc:=((TA.of R hcl).same s2)
     have IC:TA H2 B bs n n PB:=⟨xb.1,hB2,fun i c e=>s2 _ _ (R.same _ _ (xb.2.2 i c e))⟩
     have tT:H B=none:=R.same.free hB;have tV:=s2 _ _ R.at
     have q2:H2 q=none:=s3.free hq;have nM:∀a,H2 a≠none->¬N a->¬(a=q\/N a):=fun a h1 h2 h3=>h3.elim (fun z=>h1 (z▸q2)) h2;refine key _ _ ⟨p,q,rfl,⟨⟨D,B,⟨⟨HX,fs',Pz,?_,?_,?_,fun m hm=>?_,?_⟩,⟨cs,xc.same st,fun a ha=>?_⟩,⟨bs,IC.same st,fun a ha=>?_⟩,?_,?_,?_,fun a ha z=>?_⟩,R.free,tT⟩,vM,fun a o e=>st _ _ (s2 _ _ (R.same _ _ e)),f2 _ qZ,f3 _ hq,.inl rfl,⟨O9m,O9m,qa8 _⟩⟩⟩
     . rw[hfs];((repeat (first | rw[An,if_pos rfl] | rw[An,if_neg (by decide +kernel)]))<;>first | rfl | assumption)
     . rw[hfs];((repeat (first | rw[An,if_pos rfl] | rw[An,if_neg (by decide +kernel)]))<;>first | rfl | assumption)
     . rw[hfs];((repeat (first | rw[An,if_pos rfl] | rw[An,if_neg (by decide +kernel)]))<;>first | rfl | assumption)
     . rw[hfs,An,if_neg (fun z=>absurd (z▸hm) (by decide +kernel)),An,if_neg (fun z=>absurd (z▸hm) (by decide +kernel)),An,if_neg (fun z=>absurd (z▸hm) (by decide +kernel))];rfl
     . rw[hfs];exact qa1 (Ci _ _ _) (qa1 (qg2 (Ci _ _ _)) (qa1 (qg2 (qg2 (Ci _ _ _))) (by decide)))
     . obtain⟨i,hi,rfl⟩:=qi7 ha;obtain⟨z1,z2,z3⟩:=R.row i _ (qb0 hi);exact⟨z2,Bj z3 hB,nM _ (by rw[s2 _ _ z3];exact fun z=>nomatch z) (nN _ z1)⟩
     . have:=xb.there.2 a ha;refine⟨fun z=>this (z▸R.free),fun z=>this (z▸tT),nM a (IC.there.2 a ha) (nb a ha).2.2⟩
     . exact Bj R.at hB
     . exact nM D (by rw[tV];exact fun z=>nomatch z) (nN _ R.free)
     . exact nM B (by rw[hB2];exact fun z=>nomatch z) (nN _ tT)
     . rcases ha with rfl | ha
       . rw[vM]at z;cases z
       . cases e:H a with
         | none=>exact lx.nn a ha e
         | some o=>rw[st _ _ (s2 _ _ (R.same _ _ e))]at z;cases z
   refine KG fun p q H1 x0=>?_;refine qs2 (fun σ' H'=>∃(o4:Option V) (t:Nat->Nat) (s:Lat.Mat × Lat.Mat),σ'=[rS ta,some (.int (w:Int)),rS L,rS p,o4,none]/\SX Ac H H' p q (fun a=>a=q\/N a) n (w+n) t n s/\J n t s) (fun key=>?_) ?_
   . refine⟨_,rfl,ta,us,rfl,.inl (x0.same.seq g9),_,rfl,O9m,O9m,?_⟩;refine Ft (lo:=0) (n:=((us.length:Nat):Int).toNat) (fun i σ' G=>∃(o4:Option V) (t:Nat->Nat) (s:Lat.Mat × Lat.Mat),σ'=[rS ta,some (.int (w:Int)),rS L,rS p,o4,none]/\SX Ac H G p q (fun a=>a=q\/N a) n (w+n) t i s/\J i t s) ⟨none,_,_,rfl,x0,j0 _⟩ ?_ ?_
     . rintro i σ G hi ⟨o4,t,s,rfl,y,hJ⟩;rw[qe4,Mr]at hi;rw[qi4];obtain⟨I,hP,hD⟩:=TJ.step i t s hi hJ;obtain⟨r3,b3,ly,_⟩:=y.ex;obtain⟨qH,kZ,hp3,_,_,_,m4,_⟩:=ly.ob;refine⟨_,rfl,p,qH,kZ,rfl,hp3,m4 _ (by decide +kernel),_,rfl,H,p,q,_,n,w+n,t,i,s,I,rfl,y,hi,hP,jt i t s hJ,fun G1 spot st s' hs hI hb hex z=>?_⟩;obtain⟨d1,d2⟩:=hD spot st s' hs hI hb hex;obtain⟨r4,b4,lz,_⟩:=z.ex;obtain⟨YX,qE,Pz,_,_,_,m5,_⟩:=lz.ob;refine⟨_,rfl,p,YX,qE,rfl,Pz,m5 _ (by decide +kernel),H,p,q,_,n,w+n,_,i,_,rfl,z,d1,fun G2 z2=>?_⟩;exact⟨_,_,_,rfl,z2,d2⟩
     . rintro σ G ⟨o4,t,s,rfl,y,hJ⟩;rw[qe4,Mr]at y hJ;exact key _ _ ⟨o4,t,s,rfl,y,hJ⟩
   refine OE fun o4 t s G y hJ=>?_;obtain⟨r,b,ly,f1,f2⟩:=y.ex;obtain⟨dx,fs,hp,l1,l2,l3,l4,l5⟩:=ly.ob;obtain⟨as,xa,na⟩:=ly.rw;obtain⟨bs,xb,nb⟩:=ly.bk;have s0:=y.same;refine qs2 (fun σ' H'=>∃(L' E:Addr),σ'=[rS ta,some (.int (w:Int)),rS L,rS p,o4,rS L']/\Aj G H'/\H L'=none/\H E=none/\LX H' Ag L' E b none n n (fun x a=>s.1 x (w+a),s.2) N) (fun key=>?_) ?_
   . refine⟨_,rfl,p,Ac,dx,fs,_,rfl,hp,T.cl_Stairs,T.na_Stairs_rows,l1,r,rfl,⟨_,.of xa.2.1⟩,fun E hE=>?_⟩;have qR:=xa.2.1;refine Ev (K:=K) (a:=r) (xs:=as.map V.ref) (fun i zs τ G1=>∃cs,zs=cs.map V.ref/\cs.length=i/\Rows G G1 E cs n (fun x a=>s.1 x (w+a))/\∃o1,τ=[o1,some (.int (w:Int))]) ⟨[],rfl,rfl,Rows.nil hE,none,rfl⟩ (fun i zs τ G1 _ ⟨cs,_,_,R,_⟩=>R.same.seq (.of qR)) ?_ ?_
     . rintro i x zs τ G1 hx ⟨cs,rfl,hcl,R,o1,rfl⟩;have hi:i<n:=by have:=(qb2.mp hx).1;rw[qa2,xa.1]at this;exact this
       obtain⟨c,_,ec,_,hc⟩:=xa.row (K:=K) hi;rw[ec]at hx;cases hx;refine⟨_,rfl,_,rfl,_,rfl,c,_,rfl,R.same.seq hc,fun F hF=>?_⟩;have sF:Aj G1 (upd G1 F (.lst (cutV (VI (w+n) (s.1 i)) (some (w:Int)) none))):=Aj.new hF;refine⟨sF _ _ R.at,small (by rw[qa2];omega),cs++[F],by rw[qc8];rfl,by rw[qe5,hcl];rfl,?_,_,rfl⟩;refine R.push hF sF ?_;rw[hcl,Ae,KA]
     rintro zs τ G1 ⟨cs,rfl,hcl,R,_⟩;rw[qa2,xa.1]at hcl;have hp1:=R.same _ _ hp;refine⟨_,rfl,p,Ac,dx,fs,_,rfl,hp1,T.cl_Stairs,T.na_Stairs_backs,l2,?_⟩;intro L' Yo nL KQ mF;have s3:Aj G1 (upd (upd G1 Yo (.own L')) L' (.ins Ag Yo [])):=(Aj.new KQ).turn nL;refine⟨L',Yo,Ag,_,_,rfl,.inl rfl,Ae,fun H4 fs' hfs TU=>⟨rfl,?_⟩⟩;have sx:SameX L' (upd (upd G1 Yo (.own L')) L' (.ins Ag Yo [])) H4:=by rw[TU];exact SameX.upd (SameX.upd (SameX.refl _ _))
     have TR:H4 L'=some (.ins Ag Yo fs'):=by rw[TU];exact Ae
     clear TU;generalize upd (upd G1 Yo (.own L')) L' (.ins Ag Yo [])=G3 at s3 sx;have st:∀a o,G1 a=some o->H4 a=some o:=fun a o e=>sx _ _ (Bj e nL) (s3 _ _ e);have vB:∀a,G a=none->¬N a:=fun a e=>nN a (s0.free e);refine key _ _ ⟨L',E,rfl,R.same.trans st,s0.free (R.same.free nL),s0.free R.free,⟨⟨Yo,fs',TR,?_,?_,?_,fun m hm=>?_,?_⟩,⟨cs,(TA.of R hcl).same st,fun a ha=>?_⟩,⟨bs,(xb.same R.same).same st,fun a ha=>?_⟩,?_,vB _ R.free,?_,fun a ha z=>?_⟩⟩
     . rw[hfs];((repeat (first | rw[An,if_pos rfl] | rw[An,if_neg (by decide +kernel)]))<;>first | rfl | assumption)
     . rw[hfs];((repeat (first | rw[An,if_pos rfl] | rw[An,if_neg (by decide +kernel)]))<;>first | rfl | assumption)
     . rw[hfs];((repeat (first | rw[An,if_pos rfl] | rw[An,if_neg (by decide +kernel)]))<;>first | rfl | assumption)
     . rw[hfs,An,if_neg (fun z=>absurd (z▸hm) (by decide +kernel)),An,if_neg (fun z=>absurd (z▸hm) (by decide +kernel))];rfl
     . rw[hfs];exact qa1 (Ci _ _ _) (qa1 (qg2 (Ci _ _ _)) (by decide))
     . obtain⟨i,hi,rfl⟩:=qi7 ha;obtain⟨z1,z2,z3⟩:=R.row i _ (qb0 hi);exact⟨z2,fun z=>xb.there.1 (z▸z1),vB _ z1⟩
     . exact⟨fun z=>xb.there.2 a ha (z▸R.free),(nb a ha).2.1,fun z=>(nb a ha).2.2 (.inr z)⟩
     . exact fun z=>xb.there.1 (z▸R.free)
     . exact fun z=>ly.nb (.inr z)
     . cases e:H a with
       | none=>exact lx.nn a ha e
       | some o=>rw[st _ _ (R.same _ _ (s0 _ _ e))]at z;cases z
   refine oF fun L' E G4 s4 fL fE sM=>?_;have Pz:=s4 _ _ hp;have qR:=s4 _ _ xa.2.1;refine⟨_,rfl,p,Ac,dx,fs,_,rfl,Pz,T.cl_Stairs,T.na_Stairs_rows,l1,r,rfl,⟨_,.of qR⟩,fun D hD=>?_⟩;refine Ev (K:=K) (a:=r) (xs:=as.map V.ref) (fun i zs τ G1=>∃cs,zs=cs.map V.ref/\cs.length=i/\Rows G4 G1 D cs w (fun x a=>s.1 x a)/\∃o1,τ=[o1,some (.int (w:Int))]) ⟨[],rfl,rfl,Rows.nil hD,none,rfl⟩ (fun i zs τ G1 _ ⟨cs,_,_,R,_⟩=>R.same.seq (.of qR)) ?_ ?_
   . rintro i x zs τ G1 hx ⟨cs,rfl,hcl,R,o1,rfl⟩;have hi:i<n:=by have:=(qb2.mp hx).1;rw[qa2,xa.1]at this;exact this
     obtain⟨c,_,ec,_,hc⟩:=xa.row (K:=K) hi;rw[ec]at hx;cases hx;refine⟨_,rfl,_,rfl,_,rfl,c,_,rfl,R.same.seq (s4.seq hc),fun F hF=>?_⟩;have sF:Aj G1 (upd G1 F (.lst (cutV (VI (w+n) (s.1 i)) none (some (w:Int))))):=Aj.new hF;refine⟨sF _ _ R.at,small (by rw[qa2];omega),cs++[F],by rw[qc8];rfl,by rw[qe5,hcl];rfl,?_,_,rfl⟩;refine R.push hF sF ?_;rw[hcl,Ae,QI]
   rintro zs τ G1 ⟨cs,rfl,hcl,R,_⟩;rw[qa2,xa.1]at hcl;refine⟨_,rfl,Cc (by simp),fun tp htp=>?_⟩;have s5:Aj G1 (upd G1 tp (.tup [.ref D,.ref L'])):=Aj.new htp;have KJ:=R.same.trans s5;exact k tp D L' E b cs t s _ ((s0.trans s4).trans KJ) hJ (.of Ae) ((TA.of R hcl).same s5) (sM.keep KJ) ((s0.trans s4).free R.free) fL fE f2
noncomputable abbrev Ls:Stmt:=El (Gs 44) 2
theorem Hk:FnScope ["self","height","by_rows","by_columns"] ["self"] (Ar Ls):=B4
theorem Xw{f:Addr}{fd:FuncData}(F:Ey K "step" "Work.step" Ls f fd)(T:Gq K mg Am At Be Bg Ax Ay Ad Bd Bp Bh Av As Bf Bo Aw Au Ag Ac Ai Ao)(Pa:Has P w K mg base "stepped" ["table","width","lines"] 7 (Q5 K Ag Ac Ai))(Eu:Has P w K mg base "flipped" ["table","width"] 2 (Kh K)):Cj P w K mg base Fw 8 f fd ["self"] (Zt K Ag Ac Ai):=by
 refine F.ok Hk (fun vs H Q E h=>?_) (fun Dk A outer s H vs Q E hr h=>?_)
 . obtain⟨_,_,_,_,_,_,_,_,_,_,_,_,rfl,_⟩:=h;rfl
 . obtain⟨H0,p,L,R,nm,n,w,M,l,r,ns,Nx,rfl,x,ok,k⟩:=h;obtain⟨HP,HN⟩:=x.sm;obtain⟨tv,dx,fs,hp,l1,l2,l3,l4,l5,l6,l7,hrep⟩:=x.ob;obtain⟨r1,b1,r2,b2,lx,ly,f1,f2,f3,f4⟩:=x.li
   replace hrep:=hrep _ rfl
   obtain⟨ta,us,rfl,hq,Mr,_⟩:=Hi hrep;obtain⟨J1,T1,XF,XE,xF⟩:=ok.ex;have pU:=Rep.same J8 hrep
   replace hq:=J8.seq hq
   refine⟨_,(Ah (Bk (i:=1) Hk.nd (Bc (Bm (K:=K)) T.n_len qf6 (Aa (Bl (K:=K) (pv 0)) Af)))
    (Ah (Bk (i:=2) Hk.nd (Ba Pa hr (Aa (Bl (K:=K) (pv 0)) (Aa (Bl (K:=K) (pv 0)) (Aa (Bl (K:=K) (pv 0)) Af)))))
    (Ah (Bk (i:=3) Hk.nd (Ba Pa hr (Aa (Ba Eu hr (Aa (Bv (B7 (K:=K)) (pv 2) Ak (fun _ _=>rfl)) (Aa (Bl (K:=K) (pv 0)) Af))) (Aa (pv 1) (Aa (Bl (K:=K) (pv 0)) Af)))))
    (Ah (Dh (K:=K) (pv 0) (Ba Eu hr (Aa (Bv (B7 (K:=K)) (pv 3) Ak (fun _ _=>rfl)) (Aa (pv 1) Af))))
    (Ah (Dh (K:=K) (pv 0) (Bv (B7 (K:=K)) (pv 2) Ak (fun _ _=>rfl)))
    (Al (Dh (K:=K) (pv 0) (Bv (B7 (K:=K)) (pv 3) Ak (fun _ _=>rfl))))))))),?_⟩
   refine qs2 (fun σ' H'=>σ'=[rS p,some (.int (n:Int)),none,none]/\H=H') (fun key=>?_) ?_
   . refine⟨_,rfl,p,Ai,dx,fs,_,rfl,hp,T.cl_Work,T.na_Work_table,l1,ta,us,rfl,.inl hq,key _ _ ⟨by rw[Mr];rfl,rfl⟩⟩
   refine Eb ?_;refine qs2 (fun σ' H'=>∃(tp D L' r1' lF:Addr) (as:List Addr) (t:Nat->Nat) (s:Lat.Mat × Lat.Mat),σ'=[rS p,some (.int (n:Int)),rS tp,none]/\Aj H H'/\J1 n t s/\Fe K H' tp [.ref D,.ref L']/\TA H' D as n w s.1/\LX H' Ag L' r1' lF none n n (fun x a=>s.1 x (w+a),s.2) (fun a=>a=nm\/a=r2\/a=b2)/\H L'=none/\H r1'=none/\H lF=none) (fun key=>?_) ?_
   . refine⟨_,rfl,p,Ai,dx,fs,_,rfl,hp,T.cl_Work,T.na_Work_table,l1,_,rfl,p,Ai,dx,fs,_,rfl,hp,T.cl_Work,T.na_Work_width,l2,_,rfl,p,Ai,dx,fs,_,rfl,hp,T.cl_Work,T.na_Work_left,l3,.ref ta,L,r1,b1,none,_,n,w,M,l.1,l.2,J1,rfl,pU,lx,HP,HN,T1,XF,XE,fun tp D L' r' b' as t s H1 s1 hJ hT xD rA _ fL fr fb=>?_⟩;exact key _ _ ⟨tp,D,L',r',b',as,t,s,rfl,s1,hJ,hT,xD,rA,fL,fr,fb⟩
   refine kD fun tp D L' r1' lF as t s H1 s1 hJ hT xD rA fL fr fb=>?_;obtain⟨J2,T2,xE,XC,XD⟩:=xF t s hJ;have hp1:=s1 _ _ hp;refine qs2 (fun σ' H'=>∃(lO D2 R' r2' HZ:Addr) (EU:List Addr) (t2:Nat->Nat) (s2:Lat.Mat × Lat.Mat),σ'=[rS p,some (.int (n:Int)),rS tp,rS lO]/\Aj H1 H'/\J2 w t2 s2/\Fe K H' lO [.ref D2,.ref R']/\TA H' D2 EU w n s2.1/\LX H' Ag R' r2' HZ none w w (fun x a=>s2.1 x (n+a),s2.2) (fun a=>a=nm)/\H1 R'=none/\H1 r2'=none/\H1 HZ=none) (fun key=>?_) ?_
   . refine⟨_,rfl,tp,_,_,_,rfl,rfl,hT,rfl,_,rfl,p,Ai,dx,fs,_,rfl,hp1,T.cl_Work,T.na_Work_width,l2,.ref D,n,w,s.1,rfl,xD.rep,O9m,O9m,fun F ZW H2 hl2 R2=>?_⟩;have hp2:=R2.same _ _ hp1;refine⟨_,rfl,_,rfl,p,Ai,dx,fs,_,rfl,hp2,T.cl_Work,T.na_Work_right,l4,.ref F,R,r2,b2,none,_,w,n,(fun i j=>s.1 j i),r.1,r.2,J2,rfl,R2.rep hl2,ly.keep (s1.trans R2.same),HN,HP,T2,xE,XC,fun lO D2 R' r' b' EU t2 s2 H3 s3 tS hT2 RT MJ _ fR jQ rM=>?_⟩;exact key _ _ ⟨lO,D2,R',r',b',EU,t2,s2,rfl,R2.same.trans s3,tS,hT2,RT,MJ,R2.same.free fR,R2.same.free jQ,R2.same.free rM⟩
   refine kD fun lO D2 R' r2' HZ EU t2 s2 H3 s3 tS hT2 RT MJ fR jQ rM=>?_;have hp3:=s3 _ _ hp1;have pZ:=s3.seqT hT;refine⟨_,rfl,lO,_,_,_,rfl,rfl,hT2,rfl,_,rfl,.ref D2,w,n,s2.1,rfl,RT.rep,O9m,O9m,fun E ZY H4 pX R4=>?_⟩;have iM:=R4.same;have Pz:=iM _ _ hp3;have kK:Aj H0 H4:=((x.same.trans s1).trans s3).trans iM;have n4:=(s1.trans (s3.trans iM)) _ _ x.nu;have sA:Rep K (O7 H4 fun a=>a=nm) (.ref E) (dT n w fun i j=>s2.1 j i):=R4.hid pX fun a ha z=>by cases ha;rw[(s1.trans s3) _ _ x.nu]at z;cases z
   have RH:=iM.seqT pZ;have tR:=iM.seqT hT2
   have ex:∀a,a=nm\/a=r2'\/a=HZ->H4 a≠none:=fun a ha=>by
    rcases ha with rfl | rfl | rfl
    . rw[n4];exact fun z=>nomatch z
    . obtain⟨_,z,_⟩:=MJ.rw;exact(z.same iM).there.1
    . obtain⟨_,z,_⟩:=MJ.bk;exact(z.same iM).there.1
   have z1:LX H4 Ag L' r1' lF none n n (fun x a=>s.1 x (w+a),s.2) (fun a=>a=nm\/a=r2'\/a=HZ):=rA.more (s3.trans iM) (fun a ha=>by
    rcases ha with rfl | rfl | rfl
    . exact .inl (.inl rfl)
    . exact .inr jQ
    . exact .inr rM) ex
   have z2:=MJ.keep iM;have JD:p≠L':=Bj hp fL;have kP:p≠R':=Bj hp1 fR;have LR:L'≠R':=fun z=>by obtain⟨_,_,q,_⟩:=rA.ob;rw[z,fR]at q;cases q
   refine⟨_,rfl,p,Ai,dx,fs,rfl,Pz,T.cl_Work,T.na_Work_table,O9m,?_⟩;have lU:SameX p H4 (upd H4 p (.ins Ai dx (putF "table" (.ref E) fs))):=SameX.upd (SameX.refl _ _);have DO:upd H4 p (.ins Ai dx (putF "table" (.ref E) fs)) p=some (.ins Ai dx (putF "table" (.ref E) fs)):=Ae;have nP:Kp H4 (upd H4 p (.ins Ai dx (putF "table" (.ref E) fs))):=Kp.upd;have e1:(putF "table" (V.ref E) fs).length=fs.length:=J6 l1;generalize upd H4 p (.ins Ai dx (putF "table" (.ref E) fs))=H5 at lU DO nP;have tQ:=bD RH Pz lU;have TQ:=bD tR Pz lU;refine⟨_,rfl,tp,_,_,_,rfl,rfl,tQ,rfl,_,rfl,p,Ai,dx,_,rfl,DO,T.cl_Work,T.na_Work_left,O9m,?_⟩;have e2:(putF "left" (V.ref L') (putF "table" (V.ref E) fs)).length=(putF "table" (V.ref E) fs).length:=J6 (x:=.ref L) (by rw[An,if_neg (by decide +kernel)];exact l3);have lT:SameX p H5 (upd H5 p (.ins Ai dx (putF "left" (.ref L') (putF "table" (.ref E) fs)))):=SameX.upd (SameX.refl _ _);have vO:upd H5 p (.ins Ai dx (putF "left" (.ref L') (putF "table" (.ref E) fs))) p=some (.ins Ai dx (putF "left" (.ref L') (putF "table" (.ref E) fs))):=Ae;have VH:Kp H5 (upd H5 p (.ins Ai dx (putF "left" (.ref L') (putF "table" (.ref E) fs)))):=Kp.upd;generalize upd H5 p (.ins Ai dx (putF "left" (.ref L') (putF "table" (.ref E) fs)))=H6 at lT vO VH;refine⟨_,rfl,lO,_,_,_,rfl,rfl,bD TQ DO lT,rfl,_,rfl,p,Ai,dx,_,rfl,vO,T.cl_Work,T.na_Work_right,O9m,?_⟩;have e3:(putF "right" (V.ref R') (putF "left" (V.ref L') (putF "table" (V.ref E) fs))).length=(putF "left" (V.ref L') (putF "table" (V.ref E) fs)).length:=J6 (x:=.ref R) (by rw[An,if_neg (by decide +kernel),An,if_neg (by decide +kernel)];exact l4);have sx:SameX p H4 (upd H6 p (.ins Ai dx (putF "right" (.ref R') (putF "left" (.ref L') (putF "table" (.ref E) fs))))):=SameX.upd (lU.trans lT);have kp:Kp H4 (upd H6 p (.ins Ai dx (putF "right" (.ref R') (putF "left" (.ref L') (putF "table" (.ref E) fs))))):=(nP.trans VH).trans Kp.upd;have g0:∀a,H a=none->H0 a=none:=fun a e=>x.same.free e;have g1:∀a,H1 a=none->H0 a=none:=fun a e=>(x.same.trans s1).free e;have QY:nm≠p:=E5 x.nu hp (by intro z;cases z)
   refine k L' R' _ _ _ _ (XD t2 s2 tS) ⟨⟨.ref E,dx,_,Ae,?_,?_,?_,?_,?_,fun m hm=>?_,O9m,fun M' e=>by
    cases e
    exact uG (p:=p) (dx:=dx) (C:=Ai) sA (by rw[Uc QY.symm];exact Pz) (fun a o ne e=>by
     by_cases z:a=nm
     . rw[dP z]at e;cases e
     . rw[Uc z]at e ⊢;exact sx _ _ ne e)⟩,⟨r1',lF,r2',HZ,z1.x Pz JD sx kp,z2.x Pz kP sx kp,g0 _ fr,g0 _ fb,g1 _ jQ,g1 _ rM⟩,sx _ _ QY n4,sx.same kK x.fr.1,⟨x.fr.1,g0 _ fL,g1 _ fR,x.fr.2.2.2⟩,⟨JD,kP,LR⟩,⟨HP,HN⟩⟩
   . ((repeat (first | rw[An,if_pos rfl] | rw[An,if_neg (by decide +kernel)]))<;>first | rfl | assumption)
   . ((repeat (first | rw[An,if_pos rfl] | rw[An,if_neg (by decide +kernel)]))<;>first | rfl | assumption)
   . ((repeat (first | rw[An,if_pos rfl] | rw[An,if_neg (by decide +kernel)]))<;>first | rfl | assumption)
   . ((repeat (first | rw[An,if_pos rfl] | rw[An,if_neg (by decide +kernel)]))<;>first | rfl | assumption)
   . ((repeat (first | rw[An,if_pos rfl] | rw[An,if_neg (by decide +kernel)]))<;>first | rfl | assumption)
   . iterate 3 rw[An,if_neg (fun z=>absurd (z▸hm) (by decide +kernel))]
     exact l6 m hm
noncomputable abbrev F2:Stmt:=El (Gs 44) 1
theorem Ib:FnScope ["self","i"] ["self"] (Ar F2):=B4
theorem N2{f:Addr}{fd:FuncData}(F:Ey K "straighten" "Work.straighten" F2 f fd)(T:Gq K mg Am At Be Bg Ax Ay Ad Bd Bp Bh Av As Bf Bo Aw Au Ag Ac Ai Ao)(Jc:Iq P w K mg base Ai "step" ["self"] 8 (Zt K Ag Ac Ai))(Kz:Has P w K mg base "is_straight" ["table"] 1 (Lb K)):Cj P w K mg base Fw 9 f fd ["self"] (Lm K Ag Ac Ai):=by
 refine F.ok Ib (fun vs H Q E h=>?_) (fun Dk A outer s H vs Q E hr h=>?_)
 . obtain⟨_,_,_,_,_,_,_,_,_,_,_,rfl,_⟩:=h;rfl
 . obtain⟨H0,p,L,R,nm,n,w,M,l,r,U,rfl,x,ok,nx,k⟩:=h;have sm:=x.sm;obtain⟨_,dx,fs,hp,_,_,_,_,_,l6,_⟩:=x.ob
   refine⟨_,(Ah (Cf (J7 (pv 0) T.cl_Work Jc hr))
    (Ah (Ot qc9 (Jr (Ie (Ba Kz hr (Aa (Bl (K:=K) (pv 0)) Af)))) (Al (Cf (J7 (pv 0) T.cl_Work Jc hr))))
    (Al (F3 qc9 rfl (Dz (by rfl) T.n_range (Aa (Bc (eF (by rfl)) T.n_min EI (Aa (Bc (Bm (K:=K)) T.n_len qf6 (Aa (Bl (K:=K) (pv 0)) Af)) (Aa (Bl (K:=K) (pv 0)) Af))) Af)) (Bs (i:=1) Ib.nd) (Al (Ck (Bt Q9 (Bv (Br (K:=K)) (Bv (Br (K:=K)) (Bl (K:=K) (pv 0)) (pv 1) (fun _ _=>rfl)) (pv 1) (fun _ _=>rfl)) Ak (Bx _)) (Al (Cf (L5 (K:=K) qf4 qn7 qn5 Mp (Bl (K:=K) (pv 0)) (Aa (Bv (Br (K:=K)) (Bv (Br (K:=K)) (Bl (K:=K) (pv 0)) (pv 1) (fun _ _=>rfl)) (pv 1) (fun _ _=>rfl)) Af)))) Cb)))))),?_⟩
   refine qs2 (fun σ' H'=>σ'=[rS p,none]/\∃L R m M l r,U m M l r/\WX K Ag Ai H0 H' p L R nm n w (some M) l r []) (fun key=>?_) ?_
   . exact⟨_,rfl,p,dx,fs,rfl,hp,l6 _ (by decide +kernel),H0,p,L,R,nm,n,w,M,l,r,[],_,rfl,x,ok,fun L' R' M' l' r' H' ⟨m,hu⟩ y=>key _ _ ⟨rfl,L',R',m,M',l',r',hu,y⟩⟩
   refine K9 fun H1 Zj=>?_;obtain⟨L,R,m,M,l,r,hU,x⟩:=Zj;clear ok hp l6;refine qs2 (fun σ' H'=>σ'=[rS p,none]/\∃L R m M l r,U m M l r/\Lat.Straight n w M/\WX K Ag Ai H0 H' p L R nm n w (some M) l r []) (fun key=>?_) ?_
   . refine⟨fun m σ' G=>σ'=[rS p,none]/\∃L R M l r,U m M l r/\WX K Ag Ai H0 G p L R nm n w (some M) l r [],⟨m,rfl,L,R,M,l,r,hU,x⟩,?_⟩;rintro m σ G ⟨rfl,L,R,M,l,r,hU,x⟩;obtain⟨tv,dx,fs,hp,l1,l2,l3,l4,l5,l6,l7,hrep⟩:=x.ob
     replace hrep:=hrep _ rfl
     refine⟨_,rfl,p,Ai,dx,fs,_,rfl,hp,T.cl_Work,T.na_Work_table,l1,tv,n,w,M,rfl,Rep.same J8 hrep,O9m,O9m,fun hS G1 s1=>⟨_,rfl,?_⟩,fun hS G1 s1=>⟨_,rfl,?_⟩⟩
     . refine aC (by simp) ?_;exact key _ _ ⟨rfl,L,R,m,M,l,r,hU,hS,x.keep s1⟩
     . refine bO (by simp) ?_;refine⟨fun σ' G'=>σ'=[rS p,none]/\∃L R m' M l r,m'<m/\U m' M l r/\WX K Ag Ai H0 G' p L R nm n w (some M) l r [],?_,?_⟩
       . rintro σ' G' ⟨rfl,L,R,m',M,l,r,hm,hU,y⟩;exact⟨m',hm,rfl,L,R,M,l,r,hU,y⟩
       . exact⟨_,rfl,p,dx,fs,rfl,s1 _ _ hp,l6 _ (by decide +kernel),H0,p,L,R,nm,n,w,M,l,r,[],_,rfl,x.keep s1,nx m M l r hU hS,fun L' R' M' l' r' H' ⟨m',hm,hu⟩ y=>⟨rfl,L',R',m',M',l',r',hm,hu,y⟩⟩
   refine K9 fun H2 Zj=>?_;obtain⟨L,R,m,M,l,r,hU,hS,x⟩:=Zj;obtain⟨tv,dx,fs,hp,l1,l2,l3,l4,l5,l6,l7,hrep⟩:=x.ob
   replace hrep:=hrep _ rfl
   obtain⟨ta,us,rfl,hq,Mr,Hq⟩:=Hi hrep
   replace hq:=J8.seq hq
   have emin:(if (w:Int)<((us.length:Nat):Int) then(w:Int) else((us.length:Nat):Int)).toNat=min n w:=by split<;>omega
   refine⟨_,rfl,p,Ai,dx,fs,_,rfl,hp,T.cl_Work,T.na_Work_table,l1,ta,us,rfl,.inl hq,_,rfl,p,Ai,dx,fs,_,rfl,hp,T.cl_Work,T.na_Work_width,l2,_,_,rfl,_,rfl,by split<;>omega,by split<;>omega,?_⟩;refine Ft (lo:=0) (n:=(if (w:Int)<((us.length:Nat):Int) then(w:Int) else((us.length:Nat):Int)).toNat) (fun i σ' G=>∃o1,σ'=[rS p,o1]/\WX K Ag Ai H0 G p L R nm n w (some M) l r (ES i M)) ⟨none,rfl,x⟩ ?_ ?_
   . clear hp hrep hq Hq l1 l2 l3 l4 l5 l6 l7;rintro i σ G hi ⟨o1,rfl,y⟩;rw[emin]at hi;rw[qi4];obtain⟨tv,dx,fs,hp,l1,l2,l3,l4,l5,l6,l7,hrep⟩:=y.ob
     replace hrep:=hrep _ rfl
     obtain⟨ta,us,rfl,hq,Mr,Hq⟩:=Hi (Rep.same J8 hrep);have e:=qb0 (l:=us) (i:=i) O9m;obtain⟨_,b,eb,hb⟩:=Hq i _ e;rw[eb]at e;refine⟨_,rfl,p,Ai,dx,fs,_,rfl,hp,T.cl_Work,T.na_Work_table,l1,_,rfl,ta,_,_,_,rfl,rfl,hq,B5 e,_,rfl,b,_,_,_,rfl,rfl,hb,B5 (Cw O9m),rfl,_,rfl,?_⟩;refine ite2 (fun h1=>?_) (fun h1=>?_)
     . have h0:¬M i i=0:=by simpa using h1
       refine⟨_,rfl,p,Ai,dx,fs,_,rfl,hp,T.cl_Work,T.na_Work_numbers,l5,.inl ⟨rfl,_,.of y.nu⟩,_,rfl,p,Ai,dx,fs,_,rfl,hp,T.cl_Work,T.na_Work_table,l1,_,rfl,ta,_,_,_,rfl,rfl,hq,B5 e,_,rfl,b,_,_,_,rfl,rfl,hb,B5 (Cw O9m),nm,_,_,rfl,rfl,y.nu,?_,?_⟩
       . have:=jD i M;exact small (by rw[qa2];omega)
       . have z:=y.num (ns':=ES (i+1) M);rw[L4,if_neg h0,qc8]at z;exact⟨_,rfl,by rw[L4,if_neg h0];exact z⟩
     . have h0:M i i=0:=by simpa using h1
       exact⟨_,rfl,by rw[L4,if_pos h0];exact y⟩
   . rintro σ G ⟨o1,rfl,y⟩;rw[emin]at y;exact k L R m M l r _ hU hS y
noncomputable abbrev Nu:Stmt:=Gs 42
theorem Ir:FnScope ["table","width","work","left_back","right"] ["table","width"] (Ar Nu):=B4
theorem a9{f:Addr}{fd:FuncData}(F:Ey K "diagonal" "diagonal" Nu f fd)(T:Gq K mg Am At Be Bg Ax Ay Ad Bd Bp Bh Av As Bf Bo Aw Au Ag Ac Ai Ao)(Ye:o9 P w K mg base Ai ["self","table","width"] 3 (Zu K Ag Ac Ai))(F4:Iq P w K mg base Ai "straighten" ["self"] 9 (Lm K Ag Ac Ai))(Fd:Iq P w K mg base Ai "put_in_order" ["self"] 5 (V6 K Ag Ac Ai))(Eu:Has P w K mg base "flipped" ["table","width"] 2 (Kh K))(Hu:Has P w K mg base "is_table" ["thing","width"] 3 (Jy K)):Cj P w K mg base (Zi P w) 10 f fd ["table","width"] (Fz K Ad):=by
 refine F.okX Ir (fun vs H Q E h=>?_) (fun Dk A outer s H vs Q E hr h=>?_)
 . obtain⟨_,_,_,_,rfl,_⟩:=h;rfl
 . obtain⟨v,n,w,t,rfl,hA,kE,kQ⟩:=h
   refine⟨_,(Ah (Ck (Jr (Ie (Ba Hu hr (Aa (pv 0) (Aa (pv 1) Af))))) (Al (Tb Qm (by rfl) (by rfl) T.m_NoTable T.e_NoTable (Aa Ek Af))) Cb)
    (Ah (Bk (i:=2) Ir.nd (Ih Ye hr (by rfl) T.m_Work (Aa (pv 0) (Aa (pv 1) Af))))
    (Ah (Cf (J7 (pv 2) T.cl_Work F4 hr))
    (Ah (Cf (J7 (pv 2) T.cl_Work Fd hr))
    (Ah (Bk (i:=3) Ir.nd (Ba Eu hr (Aa (Bl (K:=K) (Bl (K:=K) (pv 2))) (Aa (Bc (Bm (K:=K)) T.n_len qf6 (Aa (pv 0) Af)) Af))))
    (Ah (Bk (i:=4) Ir.nd (Ba Eu hr (Aa (Bl (K:=K) (Bl (K:=K) (pv 2))) (Aa (pv 1) Af))))
    (Al (Bq (Ej (Aa (Bl (K:=K) (pv 2)) (Aa (Bl (K:=K) (Bl (K:=K) (pv 2))) (Aa (pv 3) (Aa (pv 4) (Aa (Bl (K:=K) (Bl (K:=K) (pv 2))) Af)))))))))))))),?_⟩
   refine qs2 (t:=Ri _ _ _) (fun σ' H'=>σ'=[some v,some (.int (w:Int)),none,none,none]/\Aj H H'/\Dm (w:Int) t=true) (fun key=>?_) ?_
   . refine⟨_,rfl,_,rfl,v,t,w,rfl,hA.rep,hA.sz,fun H1 s1=>?_⟩;cases hb:Dm (w:Int) t with
     | false =>
       refine⟨_,rfl,?_⟩;refine bO rfl ?_;exact⟨Cc (by simp),kE hb H1 s1⟩
     | true =>
       refine⟨_,rfl,?_⟩;refine aC (by simp) ?_;exact key _ _ ⟨rfl,s1,hb⟩
   refine Q3 fun H1 s1 hb=>?_;obtain⟨A,hv,hn,hP⟩:=hA.good hb;have hw:=hA.w60;have k:=fun tp nm r1 D1 D2 b2 kk f l r H'=>kQ hb A tp nm r1 D1 D2 b2 kk f l r H' hv hn;obtain⟨Fin,TV⟩:∃F,F=Zh n w A:=⟨_,rfl⟩
   rw[←TV]at hP k;obtain⟨ta,us,rfl,hq,Mr,_⟩:=Hi hv;obtain⟨U,Y,a1,a2,a3,a4,a5⟩:=hP.ex;refine qs2 (fun σ' H'=>∃p L R nm,σ'=[rS ta,some (.int (w:Int)),rS p,none,none]/\WX K Ag Ai H1 H' p L R nm n w (some A) (Lat.one,Lat.one) (Lat.one,Lat.one) []) (fun key=>?_) ?_
   . refine⟨_,rfl,_,rfl,?_⟩;intro p dx np KQ mF;have sN:Aj H1 (upd (upd H1 dx (.own p)) p (.ins Ai dx [])):=(Aj.new KQ).turn np;exact⟨H1,p,dx,.ref ta,n,w,A,rfl,sN,np,Ae,Rep.same s1 hv,O9m,hw,fun L R nm H' y=>⟨rfl,key _ _ ⟨p,L,R,nm,rfl,y⟩⟩⟩
   refine OC fun p L R nm H2 x=>?_;refine qs2 (fun σ' H'=>∃L R k f l r,σ'=[rS ta,some (.int (w:Int)),rS p,none,none]/\k<=n/\k<=w/\Y k 0 f l r/\WX K Ag Ai H1 H' p L R nm n w none l r (Ga k f)) (fun key=>?_) ?_
   . obtain⟨qS,AG,AE,hpa,RD,RC,mL,nO,kU,NN,rB,_⟩:=x.ob;refine⟨_,rfl,p,AG,AE,rfl,hpa,NN _ (by decide +kernel),H1,p,L,R,nm,n,w,A,_,_,U,rfl,x,a1,a2,fun L' R' m M l r H' hU hS y=>?_⟩;obtain⟨k,f,e,k1,k2,hY⟩:=a3 m M l r hU hS;rw[e]at y;exact key _ _ ⟨L',R',k,f,l,r,rfl,k1,k2,hY,y.drop⟩
   refine oB fun L R kk f l r H3 k1 k2 hY x=>?_;refine qs2 (fun σ' H'=>∃f l r,σ'=[rS ta,some (.int (w:Int)),rS p,none,none]/\Fin kk f l r/\Lat.ChainTo kk kk f/\WX K Ag Ai H1 H' p L R nm n w none l r (Ga kk f)) (fun key=>?_) ?_
   . obtain⟨qS,AG,AE,hpa,RD,RC,mL,nO,kU,NN,rB,_⟩:=x.ob;refine⟨_,rfl,p,AG,AE,rfl,hpa,NN _ (by decide +kernel),H1,p,L,R,nm,n,w,kk,l,r,f,Y kk,rfl,x,k1,k2,hY,a4 kk,fun d f' l' r' H' XZ hC y=>?_⟩;exact key _ _ ⟨f',l',r',rfl,a5 _ _ _ _ _ XZ,hC,y⟩
   refine oE fun f l r H4 hF hC x=>?_;obtain⟨qS,AG,AE,hpa,RD,RC,mL,nO,kU,NN,rB,_⟩:=x.ob;obtain⟨r1,b1,r2,b2,lx,ly,f1,f2,f3,f4⟩:=x.li;obtain⟨dl,fl,hL,e1,e2,_⟩:=lx.ob;obtain⟨dr,fr,hR,e3,e4,_⟩:=ly.ob;obtain⟨jX,RS,_⟩:=lx.rw;obtain⟨uH,wH,_⟩:=lx.bk;obtain⟨EU,WH,_⟩:=ly.rw;obtain⟨QH,IC,_⟩:=ly.bk;have QU:=x.same;refine⟨_,rfl,p,Ai,AG,AE,_,rfl,hpa,T.cl_Work,T.na_Work_left,mL,L,Ag,dl,fl,_,rfl,hL,T.cl_Lines,T.na_Lines_backs,e2,_,rfl,ta,us,rfl,.inl ((s1.trans QU).seq hq),.ref b1,n,n,l.2,(by rw[Mr]<;>rfl),wH.rep,O9m,O9m,fun D1 c1 H5 hc1 R1=>?_⟩;have KJ:=R1.same;refine⟨_,rfl,p,Ai,AG,AE,_,rfl,(KJ _ _ hpa),T.cl_Work,T.na_Work_right,nO,R,Ag,dr,fr,_,rfl,(KJ _ _ hR),T.cl_Lines,T.na_Lines_rows,e3,_,rfl,.ref r2,w,w,r.1,rfl,(WH.same KJ).rep,O9m,O9m,fun D2 c2 H6 hc2 R2=>?_⟩;have IL:=KJ.trans R2.same;refine⟨_,rfl,p,Ai,AG,AE,_,rfl,(IL _ _ hpa),T.cl_Work,T.na_Work_numbers,kU,_,rfl,p,Ai,AG,AE,_,rfl,(IL _ _ hpa),T.cl_Work,T.na_Work_left,mL,L,Ag,dl,fl,_,rfl,(IL _ _ hL),T.cl_Lines,T.na_Lines_rows,e1,_,rfl,_,rfl,_,rfl,p,Ai,AG,AE,_,rfl,(IL _ _ hpa),T.cl_Work,T.na_Work_right,nO,R,Ag,dr,fr,_,rfl,(IL _ _ hR),T.cl_Lines,T.na_Lines_backs,e4,Cc (by simp),fun tp htp=>?_⟩;have OP:Aj H6 (upd H6 tp (.tup [.ref nm,.ref r1,.ref D1,.ref D2,.ref b2])):=Aj.new htp;have HQ:=IL.trans OP;have rZ:=(s1.trans QU).trans HQ;have g1:∀a,H1 a=none->H a=none:=fun a e=>s1.free e;refine k tp nm r1 D1 D2 b2 kk f l r _ hF hC k1 k2 ⟨rZ,.of Ae,HQ _ _ x.nu,(RS.same HQ).rep,(R1.later (R2.same.trans OP)).rep hc1,(R2.later OP).rep hc2,(IC.same HQ).rep,fun a ha=>?_⟩;rcases ha with rfl | rfl | rfl | rfl | rfl
   . exact⟨g1 _ x.fr.2.2.2,_,HQ _ _ x.nu,by rw[By];omega⟩
   . exact⟨g1 _ f1,_,HQ _ _ RS.2.1,by rw[qa2,RS.1];omega⟩
   . exact⟨g1 _ (QU.free R1.free),_,(R2.same.trans OP) _ _ R1.at,by rw[qa2,hc1];omega⟩
   . exact⟨g1 _ (QU.free (KJ.free R2.free)),_,OP _ _ R2.at,by rw[qa2,hc2];omega⟩
   . exact⟨g1 _ f4,_,HQ _ _ IC.2.1,by rw[qa2,IC.1];omega⟩
noncomputable abbrev v5:Stmt:=Gs 43
theorem IJ:FnScope ["table","width"] ["table","width"] (Ar v5):=B4
theorem jB{f:Addr}{fd:FuncData}(F:Ey K "rank" "rank" v5 f fd)(T:Gq K mg Am At Be Bg Ax Ay Ad Bd Bp Bh Av As Bf Bo Aw Au Ag Ac Ai Ao)(C7:HasX P w K mg base "diagonal" ["table","width"] 10 (Fz K Ad)):Cj P w K mg base (Zi P w) 11 f fd ["table","width"] (Rv K Ad):=by
 refine F.okX IJ (fun vs H Q E h=>?_) (fun Dk A outer s H vs Q E hr h=>?_)
 . obtain⟨_,_,_,_,rfl,_⟩:=h;rfl
 . obtain⟨v,n,w,t,rfl,hA,kE,kQ⟩:=h;refine⟨_,(Al (Bq (Bc (Bm (K:=K)) T.n_len qf6 (Aa (Bv (B7 (K:=K)) (Ep D8 C7 hr (by rfl) (Aa (pv 0) (Aa (pv 1) Af))) Ak (fun _ _=>rfl)) Af)))),?_⟩;refine⟨_,rfl,_,rfl,v,n,w,t,rfl,hA,kE,fun hb A tp nm r1 D1 D2 b2 kk f l r H' hv hn hF hC k1 k2 x=>?_⟩;refine⟨tp,_,_,_,rfl,rfl,x.tup,rfl,nm,_,rfl,.inl (.of x.num),?_⟩;exact kQ hb _ H' x.same
noncomputable abbrev Xg:Stmt:=Gs 49
theorem Zx:FnScope ["table","width","papers"] ["table","width"] (Ar Xg):=B4
theorem fU{f:Addr}{fd:FuncData}(F:Ey K "spare" "spare" Xg f fd)(T:Gq K mg Am At Be Bg Ax Ay Ad Bd Bp Bh Av As Bf Bo Aw Au Ag Ac Ai Ao)(C7:HasX P w K mg base "diagonal" ["table","width"] 10 (Fz K Ad))(Eu:Has P w K mg base "flipped" ["table","width"] 2 (Kh K)):Cj P w K mg base (Zi P w) 11 f fd ["table","width"] (Rv K Ad):=by
 refine F.okX Zx (fun vs H Q E h=>?_) (fun Dk A outer s H vs Q E hr h=>?_)
 . obtain⟨_,_,_,_,rfl,_⟩:=h;rfl
 . obtain⟨v,n,w,t,rfl,hA,kE,kQ⟩:=h
   refine⟨_,(Ah (Bk (i:=2) Zx.nd (Ep D8 C7 hr (by rfl) (Aa (pv 0) (Aa (pv 1) Af))))
    (Al (Bq (Gu (Gw (K:=K)) (Ba Eu hr (Aa (Bv (B7 (K:=K)) (pv 2) Ak (fun _ _=>rfl)) (Aa (pv 1) Af))) (Iv (Bc (Bm (K:=K)) T.n_len qf6 (Aa (Bv (B7 (K:=K)) (pv 2) Ak (fun _ _=>rfl)) Af))) Iw)))),?_⟩
   refine qs2 (fun σ' H'=>∃(A:Lat.Mat) (tp nm r1 D1 D2 b2:Addr) (k0:Nat) (f:Nat->Int) (l r:Lat.Mat × Lat.Mat),σ'=[some v,some (.int (w:Int)),rS tp]/\Dm (w:Int) t=true/\Pw K H' tp nm r1 D1 D2 b2 n w k0 f l r/\k0<=w/\Aj H H') (fun key=>?_) ?_
   . exact⟨_,rfl,_,rfl,v,n,w,t,rfl,hA,kE,fun hb A tp nm r1 D1 D2 b2 k0 f l r H' hv hn hF hC k1 k2 x=>key _ _ ⟨A,tp,nm,r1,D1,D2,b2,k0,f,l,r,rfl,hb,x.r,k2,x.same⟩⟩
   refine lM fun A tp nm r1 D1 D2 b2 k0 f l r H1 hb x kw s1=>?_;have hw:=hA.w60;refine⟨_,rfl,tp,_,_,_,rfl,rfl,x.tup,rfl,_,rfl,.ref D2,w,w,_,rfl,x.right,O9m,O9m,fun D as H2 hal R2=>?_⟩;have x2:=x.same R2.same;refine⟨_,rfl,tp,_,_,_,rfl,rfl,x2.tup,rfl,nm,_,rfl,.inl x2.num,_,rfl,D,_,rfl,.of R2.at,fun C hC=>?_⟩;exact kQ hb _ _ ((s1.trans R2.same).trans (Aj.new hC))
noncomputable abbrev Km:Stmt:=Gs 50
theorem M8:FnScope ["table","width","wanted","papers"] ["table","width","wanted"] (Ar Km):=B4
theorem U1{f:Addr}{fd:FuncData}(F:Ey K "papers_for" "papers_for" Km f fd)(T:Gq K mg Am At Be Bg Ax Ay Ad Bd Bp Bh Av As Bf Bo Aw Au Ag Ac Ai Ao)(C7:HasX P w K mg base "diagonal" ["table","width"] 10 (Fz K Ad))(Cz:Has P w K mg base "is_list_of_wholes" ["thing","many"] 2 (Jz K)):Cj P w K mg base (Zi P w) 11 f fd ["table","width","wanted"] (Nn K Ad):=by
 refine F.okX M8 (fun vs H Q E h=>?_) (fun Dk A outer s H vs Q E hr h=>?_)
 . obtain⟨_,_,_,_,_,_,rfl,_⟩:=h;rfl
 . obtain⟨v,u,n,w,t,e,rfl,hA,hW,kE,kQ⟩:=h
   refine⟨_,(Ah (Bk (i:=3) M8.nd (Ep D8 C7 hr (by rfl) (Aa (pv 0) (Aa (pv 1) Af))))
    (Ah (Ck (Jr (Ie (Ba Cz hr (Aa (pv 2) (Aa (Bc (Bm (K:=K)) T.n_len qf6 (Aa (pv 0) Af)) Af))))) (Al (Tb Qm (by rfl) (by rfl) T.m_NoTable T.e_NoTable (Aa Ek Af))) Cb)
    (Al (Bq (pv 3))))),?_⟩
   refine qs2 (fun σ' H'=>∃(A:Lat.Mat) (tp nm r1 D1 D2 b2:Addr) (k0:Nat) (f:Nat->Int) (l r:Lat.Mat × Lat.Mat),σ'=[some v,some (.int (w:Int)),some u,rS tp]/\Dm (w:Int) t=true/\Rep K H v (dT n w A)/\n<=40/\Zh n w A k0 f l r/\k0<=n/\k0<=w/\Pw K H' tp nm r1 D1 D2 b2 n w k0 f l r/\Aj H H') (fun key=>?_) ?_
   . exact⟨_,rfl,_,rfl,v,n,w,t,rfl,hA,fun hb=>kE (by rw[hb];rfl),fun hb A tp nm r1 D1 D2 b2 k0 f l r H' hv hn hF hC k1 k2 x=>key _ _ ⟨A,tp,nm,r1,D1,D2,b2,k0,f,l,r,rfl,hb,hv,hn,hF,k1,k2,x.r,x.same⟩⟩
   refine LL fun A tp nm r1 D1 D2 b2 k0 f l r H1 hb hv hn hF k1 k2 x s1=>?_;obtain⟨ta,us,rfl,hq,Mr,_⟩:=Hi hv;refine qs2 (t:=Ri _ _ _) (fun σ' H'=>σ'=[rS ta,some (.int (w:Int)),some u,rS tp]/\Aj H1 H'/\Dp (n:Int) e=true) (fun key=>?_) ?_
   . refine⟨_,rfl,_,rfl,ta,us,rfl,.inl (s1.seq hq),u,e,n,(by rw[Mr]<;>rfl),Fv.same s1 hW.rep,hW.sz,fun H2 s2=>?_⟩;cases he:Dp (n:Int) e with
     | false =>
       refine⟨_,rfl,?_⟩;refine bO rfl ?_;exact⟨Cc (by simp),kE (by rw[hb,he];rfl) H2 (s1.trans s2)⟩
     | true =>
       refine⟨_,rfl,?_⟩;refine aC (by simp) ?_;exact key _ _ ⟨rfl,s2,he⟩
   refine Q3 fun H2 s2 he=>?_;obtain⟨a,y,rfl,ha,by_⟩:=hW.bits n he;exact⟨_,rfl,kQ (by rw[hb,he];rfl) A a y tp nm r1 D1 D2 b2 k0 f l r _ rfl ha by_ hn hF k1 k2 (x.same s2) (s1.trans s2)⟩
noncomputable abbrev S3:Stmt:=Gs 47
theorem J4:FnScope ["table","width","wanted","papers","numbers","seen","parts"] ["table","width","wanted"] (Ar S3):=B4
theorem cY{f:Addr}{fd:FuncData}(F:Ey K "solved" "solved" S3 f fd)(T:Gq K mg Am At Be Bg Ax Ay Ad Bd Bp Bh Av As Bf Bo Aw Au Ag Ac Ai Ao)(E2:HasX P w K mg base "papers_for" ["table","width","wanted"] 11 (Nn K Ad))(Et:Has P w K mg base "times_list" ["table","numbers"] 1 (Ji K))(Gh:Has P w K mg base "first_bar" ["numbers","seen"] 2 (Jk K)):Cj P w K mg base (Zi P w) 12 f fd ["table","width","wanted"] (Oq K Ad):=by
 refine F.okX J4 (fun vs H Q E h=>?_) (fun Dk A outer s H vs Q E hr h=>?_)
 . obtain⟨_,_,_,_,_,_,rfl,_⟩:=h;rfl
 . obtain⟨v,uv,n,w,t,e,rfl,hA,hW,kE,kQ⟩:=h
   refine⟨_,(Ah (Bk (i:=3) J4.nd (Ep D8 E2 hr (by rfl) (Aa (pv 0) (Aa (pv 1) (Aa (pv 2) Af)))))
    (Ah (Bk (i:=4) J4.nd (Bv (B7 (K:=K)) (pv 3) Ak (fun _ _=>rfl)))
    (Ah (Bk (i:=5) J4.nd (Ba Et hr (Aa (Bv (B7 (K:=K)) (pv 3) Ak (fun _ _=>rfl)) (Aa (pv 2) Af))))
    (Ah (Ck (Bt JA (Ba Gh hr (Aa (pv 4) (Aa (pv 5) Af))) Ig (Bx _)) (Al (Bq Ig)) Cb)
    (Ah (BH (N':=["value","number"]) (cap:=[none,none]) (i:=6) J4.nd (by rfl) (by first | exact Or.inl rfl | exact Or.inr rfl) (by rfl) (by kernel_rfl) (Xp (K:=K) (by rfl) T.n_zip (Aa (pv 5) (Aa (pv 4) Af))) (fun _ _ _ _=>(Ja (K:=K) (n:=2) (by rfl) (C8 (Bs (i:=0) FY) (C8 (Bs (i:=1) FY) Ix)))) (fun _ _ _ _=>Da) (fun _ _ _ _=>(Bn Gv (pv 0) (pv 1))))
    (Al (Bq (Ba Et hr (Aa (Bv (B7 (K:=K)) (pv 3) Ak (fun _ _=>rfl)) (Aa (Bn (D7 (K:=K)) (pv 6) (Bn mC (Fn (Aa Ak Af)) (Bn Kr (pv 1) (Bc (Bm (K:=K)) T.n_len qf6 (Aa (pv 4) Af))))) Af)))))))))),?_⟩
   refine qs2 (fun σ' H'=>∃(A:Lat.Mat) (wn:Addr) (u:Nat->Int) (tp nm r1 D1 D2 b2:Addr) (k0:Nat) (f:Nat->Int) (l r:Lat.Mat × Lat.Mat),σ'=[some v,some (.int (w:Int)),rS wn,rS tp,none,none,none]/\(Dm (w:Int) t&&Dp (n:Int) e)=true/\SqL K H wn (VI n u)/\(∀i,i<n->(u i).natAbs<2 ^ 200)/\n<=40/\Zh n w A k0 f l r/\k0<=n/\k0<=w/\Pw K H' tp nm r1 D1 D2 b2 n w k0 f l r/\Aj H H') (fun key=>?_) ?_
   . exact⟨_,rfl,_,rfl,_,rfl,v,uv,n,w,t,e,rfl,hA,hW,kE,fun ok A a x tp nm r1 D1 D2 b2 k0 f l r H' eu hx bx hn hF h1 h2 xx s=>by subst eu;exact key _ _ ⟨A,a,x,tp,nm,r1,D1,D2,b2,k0,f,l,r,rfl,ok,hx,bx,hn,hF,h1,h2,xx,s⟩⟩
   refine EX fun A wn u tp nm r1 D1 D2 b2 k0 f l r H1 ok hu bu hn hF kn kw x s1=>?_;have hw:=hA.w60;have k1:¬nH n w A u->∀H',Aj H H'->Q .non H':=fun _ H' s=>kQ ok _ H' s;have k2:∀(x:Nat->Int) (L:Addr) (H':Hp),(∀i,i<n->Lat.mulV w A x i=u i)->(∀j,j<w->(x j).natAbs<2 ^ qI)->Aj H H'->H' L=some (.lst (VI w x))->Q (.ref L) H':=fun _ _ H' _ _ s _=>kQ ok _ H' s;obtain⟨E,hE,dg,i1,i2,⟨q1,q2⟩,⟨q3,q4⟩⟩:=hF;have hu1:=s1.seq hu;refine⟨_,rfl,tp,_,_,_,rfl,rfl,x.tup,rfl,?_⟩;refine Fq (fun σ' H'=>σ'=[some v,some (.int (w:Int)),rS wn,rS tp,rS nm,none,none]/\H1=H') ?_ fun N4=>N4 _ _ ⟨rfl,rfl⟩;refine Eb ?_;have bs:∀i,i<n->(Aq (fun a=>l.1 i a*u a) n).natAbs<2 ^ (Kb+200+n):=fun i hi=>aM fun a ha=>Y4 (q1 _ _ hi ha) (bu a ha);refine qs2 (fun σ' H'=>∃S,σ'=[some v,some (.int (w:Int)),rS wn,rS tp,rS nm,rS S,none]/\Aj H1 H'/\H' S=some (.lst (VI n fun i=>Aq (fun a=>l.1 i a*u a) n))) (fun key=>?_) ?_
   . exact⟨_,rfl,tp,_,_,_,rfl,rfl,x.tup,rfl,_,rfl,.ref r1,wn,n,n,l.1,u,rfl,x.left,hu1,O9m,O9m,fun i a hi ha=>Nc (q1 _ _ hi ha) (bu a ha) (by have:Kb=67000000:=rfl;omega),fun S H2 hS s2 h2=>key _ _ ⟨S,rfl,s2,h2⟩⟩
   refine R8 fun S H2 s2 MV=>?_;have x2:=x.same s2;refine qs2 (t:=Ri _ _ _) (fun σ' H'=>σ'=[some v,some (.int (w:Int)),rS wn,rS tp,rS nm,rS S,none]/\Aj H2 H'/\∀i,i<n->¬Lat.Bar f k0 (fun i=>Aq (fun a=>l.1 i a*u a) n) i) (fun key=>?_) ?_
   . refine⟨_,rfl,_,rfl,nm,S,k0,n,f,_,rfl,x2.num,.of MV,O9m,dg.pos,fun hno H3 s3=>⟨rfl,_,rfl,?_⟩,fun i hi hb H3 s3=>⟨rfl,_,rfl,?_⟩⟩
     . refine aC (by simp) ?_;exact key _ _ ⟨rfl,s3,hno⟩
     . refine bO (by simp) ?_;exact k1 (fun⟨y,hy⟩=>dg.noBar i2 hy hi hb) _ ((s1.trans s2).trans s3)
   refine Q3 fun H3 s3 hno=>?_;have x3:=x2.same s3;have vQ:=s3 _ _ MV;refine qs2 (fun σ' H'=>∃Pt,σ'=[some v,some (.int (w:Int)),rS wn,rS tp,rS nm,rS S,rS Pt]/\Aj H3 H'/\H' Pt=some (.lst (VI k0 fun y=>Aq (fun a=>l.1 y a*u a) n / f y))) (fun key=>?_) ?_
   . refine⟨_,rfl,_,rfl,S,nm,rfl,⟨_,.of vQ⟩,⟨_,x3.num⟩,fun D hD=>?_⟩
     refine Mt (K:=K) (a:=S) (b:=nm) (xs:=VI n fun i=>Aq (fun a=>l.1 i a*u a) n) (ys:=VI k0 f) (n:=k0) (by rw[By,By];omega) (fun i zs τ G=>Aj H3 G/\G D=some (.lst zs)/\zs=VI i (fun y=>Aq (fun a=>l.1 y a*u a) n / f y)/\i<=k0/\∃o1 o2,τ=[o1,o2])
      ⟨Aj.new hD,Ae,rfl,qa8 _,none,none,rfl⟩ (fun i zs τ G _ ⟨g,_⟩=>⟨.of (g _ _ vQ),g.seq x3.num⟩) ?_ ?_
     . rintro i y z zs τ G pr hy hz ⟨g,kY,rfl,_,o1,o2,rfl⟩ hpr;obtain⟨hi,rfl⟩:=K6 hy;obtain⟨hik,rfl⟩:=K6 hz;have gp:Aj G (upd G pr (.tup [.int (Aq (fun a=>l.1 i a*u a) n),.int (f i)])):=Aj.new hpr;have p0:=dg.pos i hik;have p9:(f i).natAbs<L9:=yZ dg hE hik;refine⟨pr,_,rfl,.of Ae,rfl,_,_,rfl,_,_,rfl,rfl,?_⟩;have ef:(Aq (fun a=>l.1 i a*u a) n).fdiv (f i)=Aq (fun a=>l.1 i a*u a) n / f i:=qd6 _ (qp8 p0);refine⟨_,rfl,_,rfl,_,_,rfl,rfl,Px.of9 O9m p9,?_⟩;refine⟨gp _ _ kY,small (by rw[By];omega),(g.trans gp).turn hD,Ae,?_,hik,_,_,rfl⟩;rw[Gp,←ef]
     . rintro zs τ G ⟨g,kY,rfl,_⟩;exact key _ _ ⟨D,rfl,g,kY⟩
   refine R8 fun Pt H4 s4 yC=>?_;have x4:=x3.same s4;refine⟨_,rfl,tp,_,_,_,rfl,rfl,x4.tup,rfl,_,rfl,Cc (by simp),fun Bz hB=>?_⟩;have sB:Aj H4 (upd H4 Bz (.lst [V.int 0])):=Aj.new hB;have eB:upd H4 Bz (.lst [V.int 0]) Bz=some (.lst [V.int 0]):=Ae;generalize upd H4 Bz (.lst [V.int 0])=H5 at sB eB;refine⟨_,rfl,_,rfl,nm,_,rfl,.inl (sB.seq x4.num),_,_,rfl,rfl,Bz,_,_,rfl,rfl,eB,by rw[By];omega,by rw[By];omega,?_,fun C hC=>?_⟩
   . rw[By];exact Cc (by simp;omega)
   rw[By]
   have eC:(List.replicate (((w:Int))-((k0:Nat):Int)).toNat [V.int 0]).flatten=VI (w-k0) fun _=>0:=by
    rw[show(((w:Int))-((k0:Nat):Int)).toNat=w-k0 by omega];exact nE _
   rw[eC];have sC:Aj H5 (upd H5 C (.lst (VI (w-k0) fun _=>0))):=Aj.new hC;have vV:upd H5 C (.lst (VI (w-k0) fun _=>0)) C=some (.lst (VI (w-k0) fun _=>0)):=Ae;generalize upd H5 C (.lst (VI (w-k0) fun _=>0))=H6 at sC vV;have IL:=sB.trans sC;refine⟨Pt,C,_,_,rfl,rfl,.of (IL _ _ yC),.of vV,Cc (by rw[By,By];omega),fun Z hZ=>?_⟩
   have eZ:VI k0 (fun y=>Aq (fun a=>l.1 y a*u a) n / f y)++VI (w-k0) (fun _=>0)=VI w fun y=>if y<k0 then Aq (fun a=>l.1 y a*u a) n / f y else 0:=by
    rw[Zc (h:=fun y=>if y<k0 then Aq (fun a=>l.1 y a*u a) n / f y else 0) (fun c hc=>if_pos hc) (fun a ha=>if_neg (by omega)),show k0+(w-k0)=w by omega]
   rw[eZ];have sZ:Aj H6 (upd H6 Z (.lst (VI w fun y=>if y<k0 then Aq (fun a=>l.1 y a*u a) n / f y else 0))):=Aj.new hZ;have VP:upd H6 Z (.lst (VI w fun y=>if y<k0 then Aq (fun a=>l.1 y a*u a) n / f y else 0)) Z=_:=Ae;generalize upd H6 Z (.lst (VI w fun y=>if y<k0 then Aq (fun a=>l.1 y a*u a) n / f y else 0))=H7 at sZ VP;have HQ:=IL.trans sZ
   have bp:∀y,y<w->(if y<k0 then Aq (fun a=>l.1 y a*u a) n / f y else 0).natAbs<2 ^ (Kb+200+n):=fun y hy=>by
    split
    . exact qa4 (qe0 _ _) (bs y O9m)
    . exact Nat.two_pow_pos _
   refine⟨.ref D2,Z,w,w,(fun i j=>r.1 j i),_,rfl,Rep.same HQ x4.right,.of VP,O9m,O9m,fun i y hi hy=>Nc (q3 _ _ hy hi) (bp y hy) (by have:Kb=67000000:=rfl;omega),fun L H8 hL s8 h8=>?_⟩;refine k2 _ L H8 (dg.made i1 hno) (fun j hj=>?_) ((((s1.trans s2).trans s3).trans s4).trans (HQ.trans s8)) h8;exact Pi (aM fun y hy=>Y4 (q3 _ _ hy hj) (bp y hy)) (by have:Kb=67000000:=rfl;have:qI=134000700:=rfl;omega)
noncomputable abbrev S6:Stmt:=Gs 48
theorem P5:FnScope ["table","width","wanted","papers","bar"] ["table","width","wanted"] (Ar S6):=B4
theorem CZ{f:Addr}{fd:FuncData}(F:Ey K "barred" "barred" S6 f fd)(T:Gq K mg Am At Be Bg Ax Ay Ad Bd Bp Bh Av As Bf Bo Aw Au Ag Ac Ai Ao)(E2:HasX P w K mg base "papers_for" ["table","width","wanted"] 11 (Nn K Ad))(Gh:Has P w K mg base "first_bar" ["numbers","seen"] 2 (Jk K))(Et:Has P w K mg base "times_list" ["table","numbers"] 1 (Ji K))(Gg:Has P w K mg base "number_at" ["numbers","i"] 1 (Jj K)):Cj P w K mg base (Zi P w) 12 f fd ["table","width","wanted"] (Oq K Ad):=by
 refine F.okX P5 (fun vs H Q E h=>?_) (fun Dk A outer s H vs Q E hr h=>?_)
 . obtain⟨_,_,_,_,_,_,rfl,_⟩:=h;rfl
 . obtain⟨v,uv,n,w,t,e,rfl,hA,hW,kE,kQ⟩:=h
   refine⟨_,(Ah (Bk (i:=3) P5.nd (Ep D8 E2 hr (by rfl) (Aa (pv 0) (Aa (pv 1) (Aa (pv 2) Af)))))
    (Ah (Bk (i:=4) P5.nd (Ba Gh hr (Aa (Bv (B7 (K:=K)) (pv 3) Ak (fun _ _=>rfl)) (Aa (Ba Et hr (Aa (Bv (B7 (K:=K)) (pv 3) Ak (fun _ _=>rfl)) (Aa (pv 2) Af))) Af))))
    (Ah (Ck (Bt fQ (pv 4) Ig (Bx _)) (Al (Bq Ig)) Cb)
    (Al (Bq (Ej (Aa (Bv (Br (K:=K)) (Bv (B7 (K:=K)) (pv 3) Ak (fun _ _=>rfl)) (pv 4) (fun _ _=>rfl)) (Aa (Ba Gg hr (Aa (Bv (B7 (K:=K)) (pv 3) Ak (fun _ _=>rfl)) (Aa (pv 4) Af))) Af)))))))),?_⟩
   refine qs2 (fun σ' H'=>∃(A:Lat.Mat) (wn:Addr) (u:Nat->Int) (tp nm r1 D1 D2 b2:Addr) (k0:Nat) (f:Nat->Int) (l r:Lat.Mat × Lat.Mat),σ'=[some v,some (.int (w:Int)),rS wn,rS tp,none]/\(Dm (w:Int) t&&Dp (n:Int) e)=true/\SqL K H wn (VI n u)/\(∀i,i<n->(u i).natAbs<2 ^ 200)/\n<=40/\Zh n w A k0 f l r/\k0<=n/\k0<=w/\Pw K H' tp nm r1 D1 D2 b2 n w k0 f l r/\Aj H H') (fun key=>?_) ?_
   . exact⟨_,rfl,_,rfl,_,rfl,v,uv,n,w,t,e,rfl,hA,hW,kE,fun ok A a x tp nm r1 D1 D2 b2 k0 f l r H' eu hx bx hn hF h1 h2 xx s=>by subst eu;exact key _ _ ⟨A,a,x,tp,nm,r1,D1,D2,b2,k0,f,l,r,rfl,ok,hx,bx,hn,hF,h1,h2,xx,s⟩⟩
   refine EX fun A wn u tp nm r1 D1 D2 b2 k0 f l r H1 ok hu bu hn hF kn kw x s1=>?_;have hw:=hA.w60;have k1:nH n w A u->∀H',Aj H H'->Q .non H':=fun _ H' s=>kQ ok _ H' s;have k2:∀(tp c:Addr) (d:Int) (p:Nat->Int) (H':Hp),¬nH n w A u->0<=d->(∀j,j<w->d∣Aq (fun a=>p a*A a j) n)->¬d∣Aq (fun a=>p a*u a) n->(∀a,a<n->(p a).natAbs<2 ^ Kb)->Aj H H'->Fe K H' tp [.ref c,.int d]->SqL K H' c (VI n p)->Q (.ref tp) H':=fun tp _ _ _ H' _ _ _ _ _ s _ _=>kQ ok _ H' s;obtain⟨E,hE,dg,i1,i2,⟨q1,q2⟩,⟨q3,q4⟩⟩:=hF;have hu1:=s1.seq hu;refine qs2 (fun σ' H'=>∃y,σ'=[some v,some (.int (w:Int)),rS wn,rS tp,some y]/\Aj H1 H'/\((y=.non/\∀i,i<n->¬Lat.Bar f k0 (fun i=>Aq (fun a=>l.1 i a*u a) n) i)\/∃i:Nat,y=.int (i:Int)/\i<n/\Lat.Bar f k0 (fun i=>Aq (fun a=>l.1 i a*u a) n) i)) (fun key=>?_) ?_
   . refine⟨_,rfl,tp,_,_,_,rfl,rfl,x.tup,rfl,_,rfl,tp,_,_,_,rfl,rfl,x.tup,rfl,_,rfl,.ref r1,wn,n,n,l.1,u,rfl,x.left,hu1,O9m,O9m,fun i a hi ha=>Nc (q1 _ _ hi ha) (bu a ha) (by have:Kb=67000000:=rfl;omega),fun S H2 hS s2 h2=>?_⟩;exact⟨nm,S,k0,n,f,_,rfl,s2.seq x.num,.of h2,O9m,dg.pos,fun hno H3 s3=>key _ _ ⟨_,rfl,s2.trans s3,.inl ⟨rfl,hno⟩⟩,fun i hi hb H3 s3=>key _ _ ⟨_,rfl,s2.trans s3,.inr ⟨i,rfl,hi,hb⟩⟩⟩
   refine R8 fun y H2 s2 hy=>?_;have x2:=x.same s2;rcases hy with⟨rfl,hno⟩|⟨i,rfl,hi,hb⟩
   . refine⟨_,rfl,rfl,_,rfl,?_⟩;refine bO (by simp) ?_;exact k1 ⟨_,dg.made i1 hno⟩ _ (s1.trans s2)
   . refine⟨_,rfl,rfl,_,rfl,?_⟩;refine aC (by simp) ?_;obtain⟨ra,wQ,e,XO,hrl,hrr⟩:=Hi x2.left;cases e;have eg:=qb0 (l:=wQ) (i:=i) O9m;obtain⟨_,c,ec,hc⟩:=hrr i _ eg;rw[ec]at eg;refine⟨_,rfl,tp,_,_,_,rfl,rfl,x2.tup,rfl,_,rfl,r1,_,_,_,rfl,rfl,XO,B5 eg,_,rfl,tp,_,_,_,rfl,rfl,x2.tup,rfl,_,rfl,nm,k0,i,f,rfl,x2.num,Cc (by simp),fun T1 hT1=>?_⟩;have sT:Aj H2 (upd H2 T1 (.tup [.ref c,.int (Lat.numAt f k0 i)])):=Aj.new hT1
     have h0:0<=Lat.numAt f k0 i:=by
      unfold Lat.numAt;split
      . exact qp8 (dg.pos _ (by assumption))
      . decide
     exact k2 T1 c _ (l.1 i) _ (fun⟨z,hz⟩=>dg.noBar i2 hz hi hb) h0 (fun j hj=>dg.rows i2 hi hj) hb (fun a ha=>q1 _ _ hi ha) ((s1.trans s2).trans sT) (.of Ae) (sT.seq hc)
noncomputable abbrev Xi:Stmt:=Gs 68
theorem fH:FnScope ["_law_which","_law_thing","_law_width","_law_wanted"] ["_law_which","_law_thing","_law_width","_law_wanted"] (Ar Xi):=B4
theorem fV{f:Addr}{fd:FuncData}(F:Ey K "_law_ask" "_law_ask" Xi f fd)(T:Gq K mg Am At Be Bg Ax Ay Ad Bd Bp Bh Av As Bf Bo Aw Au Ag Ac Ai Ao)(C7:HasX P w K mg base "diagonal" ["table","width"] 10 (Fz K Ad))(aD:HasX P w K mg base "rank" ["table","width"] 11 (Rv K Ad))(T9:HasX P w K mg base "solved" ["table","width","wanted"] 12 (Oq K Ad))(Ua:HasX P w K mg base "barred" ["table","width","wanted"] 12 (Oq K Ad))(Yb:HasX P w K mg base "spare" ["table","width"] 11 (Rv K Ad))(N6:HasCX P w K mg base Ao ["self","table","width"] 4 (Sm K Ag Ao Ad)):Cj P w K mg base (Zi P w) 13 f fd ["_law_which","_law_thing","_law_width","_law_wanted"] (Zs K Ad):=by
 refine F.okX fH (fun vs H Q E h=>?_) (fun Dk A outer s H vs Q E hr h=>?_)
 . obtain⟨_,_,_,_,_,_,_,rfl,_⟩:=h;rfl
 . obtain⟨which,v,u,h,w,t,e,rfl,hA,hW,kE,kQ⟩:=h;refine⟨_,(Al (Ck (Bt C6 (pv 0) Ak (Bx _)) (Al (Cf (Ep D8 C7 hr (by rfl) (Aa (pv 1) (Aa (pv 2) Af))))) (Al (Ck (Bt C6 (pv 0) Ak (Bx _)) (Al (Cf (Ep D8 aD hr (by rfl) (Aa (pv 1) (Aa (pv 2) Af))))) (Al (Ck (Bt C6 (pv 0) Ak (Bx _)) (Al (Cf (Ep D8 T9 hr (by rfl) (Aa (pv 1) (Aa (pv 2) (Aa (pv 3) Af)))))) (Al (Ck (Bt C6 (pv 0) Ak (Bx _)) (Al (Cf (Ep D8 Ua hr (by rfl) (Aa (pv 1) (Aa (pv 2) (Aa (pv 3) Af)))))) (Al (Ck (Bt C6 (pv 0) Ak (Bx _)) (Al (Cf (Ep D8 Yb hr (by rfl) (Aa (pv 1) (Aa (pv 2) Af))))) (Al (Cf (fO D8 N6 hr (by rfl) T.m_Turner (Aa (pv 1) (Aa (pv 2) Af))))))))))))))),?_⟩;refine⟨_,rfl,rfl,_,rfl,?_⟩;refine ite2 (fun h0=>?_) (fun h0=>?_)
   . have hw:which=0:=by simpa using h0
     refine⟨_,rfl,_,rfl,v,h,w,t,rfl,hA,fun z=>kE (by unfold Hh;rw[if_neg (by omega),z];rfl),?_⟩;exact fun z A tp nm r1 D1 D2 b2 k f l r H' hv hn hF hC k1 k2 x=>kQ (by unfold Hh;rw[if_neg (by omega),z];rfl) H' x.same
   refine⟨_,rfl,rfl,_,rfl,?_⟩;refine ite2 (fun h1=>?_) (fun h1=>?_)
   . have hw:which=1:=by simpa using h1
     refine⟨_,rfl,_,rfl,v,h,w,t,rfl,hA,fun z=>kE (by unfold Hh;rw[if_neg (by omega),z];rfl),?_⟩;exact fun z x H' s=>kQ (by unfold Hh;rw[if_neg (by omega),z];rfl) H' s
   refine⟨_,rfl,rfl,_,rfl,?_⟩;refine ite2 (fun h2=>?_) (fun h2=>?_)
   . have hw:which=2:=by simpa using h2
     refine⟨_,rfl,_,rfl,_,rfl,v,u,h,w,t,e,rfl,hA,hW,fun z=>kE (by unfold Hh;rw[if_pos (by omega)];exact z),fun z x H' s=>kQ (by unfold Hh;rw[if_pos (by omega)];exact z) H' s⟩
   refine⟨_,rfl,rfl,_,rfl,?_⟩;refine ite2 (fun h3=>?_) (fun h3=>?_)
   . have hw:which=3:=by simpa using h3
     refine⟨_,rfl,_,rfl,_,rfl,v,u,h,w,t,e,rfl,hA,hW,fun z=>kE (by unfold Hh;rw[if_pos (by omega)];exact z),fun z x H' s=>kQ (by unfold Hh;rw[if_pos (by omega)];exact z) H' s⟩
   refine⟨_,rfl,rfl,_,rfl,?_⟩;refine ite2 (fun h4=>?_) (fun h4=>?_)
   . have hw:which=4:=by simpa using h4
     refine⟨_,rfl,_,rfl,v,h,w,t,rfl,hA,fun z=>kE (by unfold Hh;rw[if_neg (by omega),z];rfl),?_⟩;exact fun z x H' s=>kQ (by unfold Hh;rw[if_neg (by omega),z];rfl) H' s
   have n2:¬which=2:=by simpa using h2
   have n3:¬which=3:=by simpa using h3
   refine⟨_,rfl,_,rfl,?_⟩;intro x dx nx KQ mF;have s0:Aj H (upd (upd H dx (.own x)) x (.ins Ao dx [])):=(Aj.new KQ).turn nx;refine⟨x,dx,v,h,w,t,rfl,Ae,hA.same s0,fun z H' s=>kE (by unfold Hh;rw[if_neg (by omega),z];rfl) H' (s0.trans s),fun z H' sx=>⟨rfl,kQ (by unfold Hh;rw[if_neg (by omega),z];rfl) H' fun y o hy=>sx _ _ (Bj hy nx) (s0 _ _ hy)⟩⟩
noncomputable abbrev Qd:Stmt:=Gs 69
theorem Kk:FnScope ["_law_which","_law_thing","_law_width","_law_wanted","_law_told","_law_e"] ["_law_which","_law_thing","_law_width","_law_wanted"] (Ar Qd):=B4
theorem y8{f:Addr}{fd:FuncData}(F:Ey K "_law_asked" "_law_asked" Qd f fd)(T:Gq K mg Am At Be Bg Ax Ay Ad Bd Bp Bh Av As Bf Bo Aw Au Ag Ac Ai Ao)(Yc:HasX P w K mg base "_law_ask" ["_law_which","_law_thing","_law_width","_law_wanted"] 13 (Zs K Ad))(N5:HasN P w K mg base "_law_marks" ["_law_e"] 1 (V3 K Ad))(Yi:Has P w K mg base "_law_only" ["_law_at"] 1 (Zr K)):Cj P w K mg base Fw 14 f fd ["_law_which","_law_thing","_law_width","_law_wanted"] (V4 K):=by
 refine F.ok Kk (fun vs H Q E h=>?_) (fun Dk A outer s H vs Q E hr h=>?_)
 . obtain⟨_,_,_,_,_,_,_,rfl,_⟩:=h;rfl
 . obtain⟨which,v,u,h,w,t,e,rfl,hA,hW,k⟩:=h;have sW:=hr.u8
   refine⟨_,(Ah (Bk (i:=4) Kk.nd Ig)
    (Ah (LW (fun _ _=>(Al (Cf (Ep i7 Yc hr (by rfl) (Aa (pv 0) (Aa (pv 1) (Aa (pv 2) (Aa (pv 3) Af))))))))
    (OV (i:=5) Kk.nd (by rfl) (by rfl) (by rfl) T.m_HoleError T.k_HoleError (fun _=>(Al (Bk (i:=4) Kk.nd (FO N5 hr.n (by rfl) (Aa (pv 5) Af)))))
    IU))
    (Ah (Ck (Bt fQ (pv 4) Ig (Bx _)) (Al (Bq Ak)) Cb)
    (Al (Bq (Bn D6 Ak (D5 Qu (by rfl) T.n_int boot_intT (Aa (Iy (jK (K:=K) sW) (pv 4) (Ba Yi hr (Aa Ak Af)) (Bx _)) Af)))))))),?_⟩
   refine Fq (fun σ' H'=>σ'=[iS which,some v,some (.int (w:Int)),some u,some .non,none]/\H=H') ?_ fun N4=>N4 _ _ ⟨rfl,rfl⟩;refine Eb ?_;refine qs2 (fun σ' H'=>(Hh which h w t e=false/\Aj H H'/\∃M:Addr,σ'=[iS which,some v,some (.int (w:Int)),some u,rS M,none]/\H' M=some (.lst (c9.map V.bl)))\/(Hh which h w t e=true/\Aj H H'/\σ'=[iS which,some v,some (.int (w:Int)),some u,some .non,none])) (fun key=>?_) ?_
   . refine⟨_,rfl,_,rfl,_,rfl,_,rfl,which,v,u,h,w,t,e,rfl,hA,hW,fun hb H1 s1=>?_,fun hb H1 s1=>key _ _ (.inr ⟨hb,s1,rfl⟩)⟩;refine⟨Ad,true,rfl,T.s_NoTable_HoleError,?_⟩;refine bO rfl fun e2 xV=>?_;have g2:Aj H1 (upd H1 e2 (JS e2 (.ref Ad))):=Aj.new xV;exact⟨_,rfl,e2,rfl,Ae,fun M H6 s6 hM=>key _ _ (.inl ⟨hb,s1.trans (g2.trans s6),M,rfl,hM⟩)⟩
   rintro σ1 H1 alt;rcases alt with⟨hb,s1,M,rfl,hM⟩|⟨hb,s1,rfl⟩
   . refine qs2 (fun σ' H'=>σ'=[iS which,some v,some (.int (w:Int)),some u,rS M,none]/\H1=H') (fun key=>?_) ?_
     . refine⟨_,rfl,rfl,_,rfl,?_⟩;refine aC (by simp) ?_;exact key _ _ ⟨rfl,rfl⟩
     refine Eb ?_;refine⟨_,rfl,6,rfl,fun N H7 s7 hN=>?_⟩;rw[fT]at hN;refine⟨.lst (c9.map L2.D.bl),.lst (c9.map L2.D.bl),oR (s7 _ _ hM),oR hN,by show deps _+1<=8;rw[lC];decide,?_⟩;rw[Pc];have k1:=k H7 (s1.trans s7);rw[if_neg (by rw[hb];decide)]at k1;exact .inr ⟨_,rfl,_,_,rfl,rfl,k1⟩
   . refine Ap (fun σ' H'=>False) ?_ fun key=>?_
     . exact fun _ _ z=>z.elim
     . refine⟨_,rfl,rfl,_,rfl,?_⟩;refine bO (by simp) ?_;have k1:=k H1 s1;rw[if_pos hb]at k1;exact k1
noncomputable abbrev Os:Stmt:=Gs 70
theorem E9:FnScope ["_law_script","_law_height","_law_width","_law_table","_law_wanted","_law_way","_law_to","_law_which","_law_due","_law_before"] ["_law_script"] (Ar Os):=B4
theorem mE{f:Addr}{fd:FuncData}(F:Ey K "law" "law" Os f fd)(T:Gq K mg Am At Be Bg Ax Ay Ad Bd Bp Bh Av As Bf Bo Aw Au Ag Ac Ai Ao)(Mb:Has P w K mg base "_law_table_by" ["_law_script","_law_begin","_law_height","_law_width","_law_kind"] 2 (V7 K))(K3:Has P w K mg base "_law_table_due" ["_law_thing","_law_width"] 3 (Jy K))(Dw:Has P w K mg base "_law_cell_at" ["_law_script","_law_k"] 1 (Oo K))(Qr:Has P w K mg base "_law_spoilt" ["_law_table","_law_way","_law_to"] 2 (Sn K))(Pb:Has P w K mg base "_law_asked" ["_law_which","_law_thing","_law_width","_law_wanted"] 14 (V4 K))(Ei:Has P w K mg base "_law_row_spoilt" ["_law_row","_law_way","_law_to"] 1 (W9 K))(Fs:Has P w K mg base "_law_list_due" ["_law_thing","_law_size"] 2 (Jz K))(Hv:Has P w K mg base "_law_spread" ["_law_script","_law_k"] 1 (Ll K)):Cj P w K mg base Fw 15 f fd ["_law_script"] (Ru K):=by
 refine F.ok E9 (fun vs H Q E h=>?_) (fun Dk A outer s H vs Q E hr h=>?_)
 . obtain⟨_,_,rfl,_⟩:=h;rfl
 . obtain⟨a,ns,rfl,hS,hl,Yf,k⟩:=h;obtain⟨h0,yT⟩:=qg0 (ql0 (Io ns 0) (by decide:(5:Int)≠0));obtain⟨w0,YQ⟩:=qg0 (ql0 (Io ns 0 / 5) (by decide:(5:Int)≠0));have xU:h0<=4:=O9m
   have hw0:w0<=4:=O9m
   refine⟨_,(Ah (Bk (i:=1) E9.nd (Bn Cu (Ba Dw hr (Aa (pv 0) (Aa Ak Af))) Ak))
    (Ah (Bk (i:=2) E9.nd (Bn Cu (Bn Ks (Ba Dw hr (Aa (pv 0) (Aa Ak Af))) Ak) Ak))
    (Ah (Ck (Bt C6 (Bn Cu (Bn Ks (Ba Dw hr (Aa (pv 0) (Aa Ak Af))) Ak) Ak) Ak (Bx _)) (Ah (Bk (i:=1) E9.nd (Bn D6 Ak (Bn Cu (Bn Ks (Ba Dw hr (Aa (pv 0) (Aa Ak Af))) Ak) Ak)))
    (Al (Bk (i:=2) E9.nd Ak))) Cb)
    (Ah (Bk (i:=3) E9.nd (Ba Mb hr (Aa (pv 0) (Aa Ak (Aa (pv 1) (Aa (pv 2) (Aa Ak Af)))))))
    (Ah (BH (N':=["_law_k","_law_script"]) (cap:=[none,some 0]) (i:=4) E9.nd (by rfl) (by first | exact Or.inl rfl | exact Or.inr rfl) (by rfl) (by kernel_rfl) (Dz (by rfl) T.n_range (Aa (pv 1) Af)) (fun _ _ _ _=>(Bs (i:=0) MG)) (fun _ _ _ _=>Da) (fun _ _ _ _=>(Bn Kr (Bn Cu (Ba Hv hr (Aa (pv 1) (Aa (Bn D6 Ak (pv 0)) Af))) Ak) Ak)))
    (Ah (Bk (i:=5) E9.nd (Bn Cu (Ba Dw hr (Aa (pv 0) (Aa Ak Af))) Ak))
    (Ah (Bk (i:=6) E9.nd (Bn Cu (Ba Dw hr (Aa (pv 0) (Aa Ak Af))) Ak))
    (Ah (Bk (i:=7) E9.nd (Bn Cu (Ba Dw hr (Aa (pv 0) (Aa Ak Af))) Ak))
    (Ah (Ck (Bt C6 (Bn Cu (Bn Ks (Ba Dw hr (Aa (pv 0) (Aa Ak Af))) Ak) Ak) Ak (Bx _)) (Al (Bk (i:=3) E9.nd (Ba Qr hr (Aa (pv 3) (Aa (pv 5) (Aa (pv 6) Af)))))) (Al (Ck (Bt Tk (pv 5) Ak (Bx _)) (Al (Bk (i:=4) E9.nd (nG.h (Xs (K:=K) (Ce (pv 4) (Ce (D5 (Er (K:=K)) (by rfl) T.n_tuple Gz (Aa (pv 4) Af)) (Wb (Xs (K:=K) (Ce Ig (Ce Ek (Ce Ak (Ce Ek (Ce Ii (Ce (Ej Af) (Ce Ti Mo))))))) (Bn Cu (pv 6) Ak) (fun _ _=>rfl)) Mo))) (pv 5) (fun _ _=>rfl))))) (Al (Bk (i:=4) E9.nd (Ba Ei hr (Aa (pv 4) (Aa (pv 5) (Aa (pv 6) Af)))))))))
    (Ah (Bk (i:=8) E9.nd (Ba K3 hr (Aa (pv 3) (Aa (pv 2) Af))))
    (Ah (Ck (PW.pt (BG (Bt C6 (pv 7) Ak (Bx _)) (Xm (Bt C6 (pv 7) Ak (Bx _))))) (Al (Bk (i:=8) E9.nd (Qf (pv 8) (Tg (Ba Fs hr (Aa (pv 4) (Aa (pv 1) Af))))))) Cb)
    (Ah (Bk (i:=9) E9.nd (Bn Tl (Bc (K5 (K:=K) (n:=0) hr.gd (qa4 (qk4 (by decide:16<=64) _) hr.units)) T.n_repr ql2 (Aa (pv 3) Af)) (Bc (K5 (K:=K) (n:=0) hr.gd (qa4 (qk4 (by decide:16<=64) _) hr.units)) T.n_repr ql2 (Aa (pv 4) Af))))
    (Ah (Ck (Bt Q9 (Ba Pb hr (Aa (pv 7) (Aa (pv 3) (Aa (pv 2) (Aa (pv 4) Af))))) (D5 Qu (by rfl) T.n_int boot_intT (Aa (Xr (pv 8)) Af)) (Bx _)) (Al (Bq Ii)) Cb)
    (Al (Bq (Qf (Iy C6 (Ba Pb hr (Aa (pv 7) (Aa (pv 3) (Aa (pv 2) (Aa (pv 4) Af))))) (D5 Qu (by rfl) T.n_int boot_intT (Aa (Xr (pv 8)) Af)) (Bx _)) (Tg (Iy C6 (Bn Tl (Bc (K5 (K:=K) (n:=0) hr.gd (qa4 (qk4 (by decide:16<=64) _) hr.units)) T.n_repr ql2 (Aa (pv 3) Af)) (Bc (K5 (K:=K) (n:=0) hr.gd (qa4 (qk4 (by decide:16<=64) _) hr.units)) T.n_repr ql2 (Aa (pv 4) Af))) (pv 9) (Bx _))))))))))))))))))),?_⟩
   refine qs2 (fun σ' H'=>σ'=[rS a,some (.int (h0:Int)),none,none,none,none,none,none,none,none]/\H=H') (fun key=>?_) ?_
   . refine⟨_,rfl,a,ns,0,rfl,hS,by decide,hl,_,_,rfl,rfl,(by show(0:Int)<5;decide),key _ _ ⟨?_,rfl⟩⟩;rw[←yT];rfl
   refine Eb ?_;refine qs2 (fun σ' H'=>σ'=[rS a,some (.int (h0:Int)),some (.int (w0:Int)),none,none,none,none,none,none,none]/\H=H') (fun key=>?_) ?_
   . refine⟨_,rfl,a,ns,0,rfl,hS,by decide,hl,_,_,rfl,rfl,⟨by decide,by decide⟩,_,_,rfl,rfl,(by show(0:Int)<5;decide),key _ _ ⟨?_,rfl⟩⟩;rw[←YQ];rfl
   refine Eb ?_;refine qs2 (t:=Ri _ _ _) (fun σ' H'=>∃(h w:Nat),σ'=[rS a,some (.int (h:Int)),some (.int (w:Int)),none,none,none,none,none,none,none]/\H=H'/\Zd h w) (fun key=>?_) ?_
   . refine⟨_,rfl,a,ns,0,rfl,hS,by decide,hl,_,_,rfl,rfl,⟨by decide,by decide⟩,_,_,rfl,rfl,(by show(0:Int)<6;decide),rfl,_,rfl,?_⟩;refine ite2 (fun h1=>?_) (fun h1=>key _ _ ⟨h0,w0,rfl,rfl,.inl ⟨xU,hw0⟩⟩);refine⟨_,rfl,a,ns,0,rfl,hS,by decide,hl,_,_,rfl,rfl,⟨by decide,by decide⟩,_,_,rfl,rfl,(by show(0:Int)<3;decide),_,_,rfl,rfl,?_⟩;exact key _ _ ⟨39+(Io ns 0 / 150%3).toNat,1,by rw[Int.natCast_add,Int.toNat_of_nonneg (by omega)];rfl,rfl,.inr ⟨O9m,rfl⟩⟩
   refine OF fun h w hsz=>?_;have hh:h<=41:=by rcases hsz with⟨_,_⟩|⟨_,_⟩<;>omega
   have hw:w<=4:=by rcases hsz with⟨_,_⟩|⟨_,_⟩<;>omega
   refine qs2 (fun σ' H'=>∃(D:Addr) (f:Lat.Mat),σ'=[rS a,some (.int (h:Int)),some (.int (w:Int)),rS D,none,none,none,none,none,none]/\Aj H H'/\Rep K H' (.ref D) (dT h w f)/\∀i j,(f i j).natAbs<=4) (fun key=>?_) ?_
   . exact⟨_,rfl,_,rfl,_,rfl,a,ns,4,h,w,0,rfl,hS,hl,Yf,by decide,O9m,O9m,fun D as H2 hal R2=>key _ _ ⟨D,_,rfl,R2.same,R2.rep hal,fun i j=>ME (by decide) (by decide)⟩⟩
   refine kF fun D f H1 s1 rD bf=>?_;refine qs2 (fun σ' H'=>∃(W:Addr) (g:Nat->Int),σ'=[rS a,some (.int (h:Int)),some (.int (w:Int)),rS D,rS W,none,none,none,none,none]/\Aj H1 H'/\H' W=some (.lst ((Ga h g).map V.int))/\∀j,(g j).natAbs<=4) (fun key=>?_) ?_
   . refine⟨_,rfl,_,rfl,O9m,O9m,fun E hE=>?_⟩;refine Gy (lo:=0) (n:=((h:Int)).toNat) (fun j zs τ G=>Aj H1 G/\G E=some (.lst zs)/\zs=VI j (fun j=>spreadV ns (20+(j:Int))%9-4)/\∃o1,τ=[o1,rS a]) ⟨Aj.new hE,Ae,rfl,none,rfl⟩ ?_ ?_
     . rintro j zs τ G hj ⟨s2,rJ,rfl,o1,rfl⟩;rw[qe4]at hj;rw[qi4];refine⟨_,rfl,_,rfl,_,_,rfl,rfl,a,ns,_,rfl,(s1.trans s2).seq hS,O9m,O9m,hl,_,_,rfl,rfl,(by show(0:Int)<9;decide),_,_,rfl,rfl,?_⟩;refine⟨rJ,small (by rw[By];omega),s2.turn hE,Ae,?_,_,rfl⟩;rw[Gp]
     . rintro zs τ G ⟨s2,rJ,rfl,_⟩;rw[qe4]at rJ;exact key _ _ ⟨E,_,rfl,s2,rJ,fun j=>O9m⟩
   refine kF fun W g H2 s2 hW bg=>?_;have MV:=(s1.trans s2).seq hS;have UX:=Rep.same s2 rD;have UH:∀n∈Ga h g,n.natAbs<=4:=fun n hn=>by obtain⟨j,_,rfl⟩:=qf7.mp hn;exact bg j
   obtain⟨way,UB⟩:∃way,way=Io ns 1%9:=⟨_,rfl⟩
   obtain⟨to,YR⟩:∃to,to=Io ns 2%1000003:=⟨_,rfl⟩
   obtain⟨which,MZ⟩:∃which,which=Io ns 3%6:=⟨_,rfl⟩
   refine qs2 (fun σ' H'=>σ'=[rS a,some (.int (h:Int)),some (.int (w:Int)),rS D,rS W,iS way,none,none,none,none]/\H2=H') (fun key=>?_) ?_
   . refine⟨_,rfl,a,ns,1,rfl,MV,by decide,hl,_,_,rfl,rfl,(by show(0:Int)<9;decide),key _ _ ⟨?_,rfl⟩⟩;rw[UB];rfl
   refine Eb ?_;refine qs2 (fun σ' H'=>σ'=[rS a,some (.int (h:Int)),some (.int (w:Int)),rS D,rS W,iS way,iS to,none,none,none]/\H2=H') (fun key=>?_) ?_
   . refine⟨_,rfl,a,ns,2,rfl,MV,by decide,hl,_,_,rfl,rfl,(by show(0:Int)<1000003;decide),key _ _ ⟨?_,rfl⟩⟩;rw[YR];rfl
   refine Eb ?_;refine qs2 (fun σ' H'=>σ'=[rS a,some (.int (h:Int)),some (.int (w:Int)),rS D,rS W,iS way,iS to,iS which,none,none]/\H2=H') (fun key=>?_) ?_
   . refine⟨_,rfl,a,ns,3,rfl,MV,by decide,hl,_,_,rfl,rfl,(by show(0:Int)<6;decide),key _ _ ⟨?_,rfl⟩⟩;rw[MZ];rfl
   refine Eb ?_;refine qs2 (t:=Ri _ _ _) (fun σ' H'=>∃(v u:V) (t:TH) (e:DE),σ'=[rS a,some (.int (h:Int)),some (.int (w:Int)),some v,some u,iS way,iS to,iS which,none,none]/\Ke K H' v t/\Nl t/\NU h t/\Fv K H' u e/\IA e) (fun key=>?_) ?_
   . obtain⟨va,us,ev,hq,Mr,Hq⟩:=Hi UX;have ZA:∀i j,(f i j).natAbs<2 ^ 200:=fun i j=>qa4 (bf i j) (by decide);have qW:Ke K H2 (.ref D) (.rows (My h w f)):=⟨va,us,ev,hq,W7 Mr Hq⟩
     have RM:Nl (.rows (My h w f)):=Zn (by simp[My];exact hh) (Mm O9m ZA)
     have QT:NU h (.rows (My h w f)):=fun es z=>by
      cases z;refine⟨by simp[My],fun e he=>?_⟩;obtain⟨i,_,rfl⟩:=qf7.mp he;exact fun _ _=>⟨Ga w (f i),rfl,fun n hn=>by obtain⟨j,_,rfl⟩:=qf7.mp hn;exact bf i j⟩
     have uX:Fv K H2 (.ref W) (.d (.lst (Ea (Ga h g)))):=⟨W,_,rfl,.of hW,Dl.mpr rfl⟩
     have uZ:IA (.d (.lst (Ea (Ga h g)))):=Ov (by rw[Iz];omega) UH;refine⟨_,rfl,a,ns,1,rfl,MV,by decide,hl,_,_,rfl,rfl,⟨by decide,by decide⟩,_,_,rfl,rfl,(by show(0:Int)<2;decide),rfl,_,rfl,?_⟩;refine ite2 (fun h1=>?_) (fun h1=>?_)
     . exact⟨_,rfl,_,rfl,_,rfl,.ref D,way,to,h,w,f,rfl,UX,hh,O9m,bf,fun v t H' s hv hf hs=>key _ _ ⟨v,.ref W,t,_,rfl,hv,hf,hs,Fv.same s uX,uZ⟩⟩
     refine⟨_,rfl,_,_,rfl,rfl,_,rfl,?_⟩;refine ite2 (fun h2=>?_) (fun h2=>?_);rotate_left
     . exact⟨_,rfl,_,rfl,_,rfl,W,Ga h g,way,to,rfl,.of hW,by rw[Iz];exact hh,UH,fun u e H' s hu he=>key _ _ ⟨.ref D,u,_,e,rfl,Ke.same s qW,RM,QT,hu,he⟩⟩
     have SV:way=0\/way=1\/way=2:=by simp at h2;omega
     refine⟨_,rfl,_,rfl,W,_,rfl,.inl ⟨.of hW,fun q0 RG=>?_⟩⟩;have uU:Aj H2 (upd H2 q0 (.tup ((Ga h g).map V.int))):=Aj.new RG;have vZ:upd H2 q0 (.tup ((Ga h g).map V.int)) q0=some (.tup ((Ga h g).map V.int)):=Ae;generalize upd H2 q0 (.tup ((Ga h g).map V.int))=G0 at uU vZ;refine⟨qa8 _,fun p hp=>?_⟩;have Lg:Aj G0 (upd G0 p (.tup [])):=Aj.new hp;have Pd:upd G0 p (.tup []) p=some (.tup []):=Ae;generalize upd G0 p (.tup [])=G1 at Lg Pd;intro d hd;have Xj:Aj G1 (upd G1 d (.dK [])):=Aj.new hd;have GQ:upd G1 d (.dK []) d=some (.dK []):=Ae;generalize upd G1 d (.dK [])=G2 at Xj GQ;refine⟨Cc (by simp),fun q dO=>?_⟩;have v7:Aj G2 (upd G2 q (.tup [.non,.str (Str.ofString ""),.int 7,.str (Str.ofString "[]"),.bl true,.ref p,.ref d])):=Aj.new dO;have LA:upd G2 q (.tup [.non,.str (Str.ofString ""),.int 7,.str (Str.ofString "[]"),.bl true,.ref p,.ref d]) q=some (.tup [.non,.str (Str.ofString ""),.int 7,.str (Str.ofString "[]"),.bl true,.ref p,.ref d]):=Ae;generalize upd G2 q (.tup [.non,.str (Str.ofString ""),.int 7,.str (Str.ofString "[]"),.bl true,.ref p,.ref d])=G3 at v7 LA;have uF:=v7 _ _ (Xj _ _ Pd);have UE:=v7 _ _ GQ
     obtain⟨c,ce,hc,hcd,hok⟩:∃(c:V) (ce:DE),eU ([.non,.str (Str.ofString ""),.int 7,.str (Str.ofString "[]"),.bl true,.ref p,.ref d]:List V) (to%7)=some c/\(∀G,Aj G3 G->Fv K G c ce)/\IA ce:=by
      rcases (show to%7=0\/to%7=1\/to%7=2\/to%7=3\/to%7=4\/to%7=5\/to%7=6 by omega) with z | z | z | z | z | z | z
      . exact⟨_,.d .non,by rw[z];rfl,fun _ _=>rfl,Gf rfl Ym⟩
      . exact⟨_,.d (.str (Str.ofString "")),by rw[z];rfl,fun _ _=>rfl,Gf rfl bT⟩
      . exact⟨_,.d (.int 7),by rw[z];rfl,fun _ _=>rfl,Gf rfl (aG (by decide))⟩
      . exact⟨_,.d (.str (Str.ofString "[]")),by rw[z];rfl,fun _ _=>rfl,Gf rfl BS⟩
      . exact⟨_,.d (.bl true),by rw[z];rfl,fun _ _=>rfl,Gf rfl (i9 true)⟩
      . exact⟨_,.d (.tup []),by rw[z];rfl,fun G s=>⟨p,[],rfl,.of (s _ _ uF),rfl⟩,Gf rfl Yl⟩
      . exact⟨_,.nul,by rw[z];rfl,fun G s=>⟨d,rfl,.inl (s _ _ UE)⟩,Gf rfl AF⟩
     refine⟨_,rfl,_,_,rfl,rfl,(by show(0:Int)<7;decide),q,_,_,c,rfl,rfl,.of LA,hc,Cc (by simp),fun T0 YB=>?_⟩;have bF:Aj G3 (upd G3 T0 (.tup [.ref W,.ref q0,c])):=Aj.new YB;have HW:upd G3 T0 (.tup [.ref W,.ref q0,c]) T0=some (.tup [.ref W,.ref q0,c]):=Ae;generalize upd G3 T0 (.tup [.ref W,.ref q0,c])=G4 at bF HW;have IM:=(((uU.trans Lg).trans Xj).trans v7).trans bF;rcases SV with z | z | z
     . exact⟨_,rfl,T0,_,_,.ref W,rfl,rfl,.of HW,by rw[z];rfl,key _ _ ⟨.ref D,.ref W,_,_,rfl,Ke.same IM qW,RM,QT,Fv.same IM uX,uZ⟩⟩
     . exact⟨_,rfl,T0,_,_,.ref q0,rfl,rfl,.of HW,by rw[z];rfl,key _ _ ⟨.ref D,.ref q0,_,.d (.tup (Ea (Ga h g))),rfl,Ke.same IM qW,RM,QT,⟨q0,_,rfl,.of ((((Lg.trans Xj).trans v7).trans bF) _ _ vZ),Dl.mpr rfl⟩,BJ (by rw[Iz];omega) UH⟩⟩
     . exact⟨_,rfl,T0,_,_,c,rfl,rfl,.of HW,by rw[z];rfl,key _ _ ⟨.ref D,c,_,ce,rfl,Ke.same IM qW,RM,QT,hcd _ bF,hok⟩⟩
   refine KD fun v u t e H3 hv hf hs hu ho=>?_;refine qs2 (fun σ' H'=>σ'=[rS a,some (.int (h:Int)),some (.int (w:Int)),some v,some u,iS way,iS to,iS which,some (.bl (Dm (w:Int) t)),none]/\Aj H3 H') (fun key=>?_) ?_
   . exact⟨_,rfl,_,rfl,v,t,w,rfl,hv,hf.sz,fun H' s=>key _ _ ⟨rfl,s⟩⟩
   refine K9 fun H4 s4=>?_;refine qs2 (t:=Ri _ _ _) (fun σ' H'=>σ'=[rS a,some (.int (h:Int)),some (.int (w:Int)),some v,some u,iS way,iS to,iS which,some (.bl (Hh which h w t e)),none]/\Aj H4 H') (fun key=>?_) ?_
   . have body:∀(z:which=2\/which=3),Hh which h w t e=(Dm (w:Int) t&&Dp (h:Int) e):=fun z=>by unfold Hh;rw[if_pos z]
     refine⟨_,rfl,rfl,_,rfl,?_⟩;refine ite2 (fun h1=>?_) (fun h1=>?_)
     . have z:which=2\/which=3:=.inl (by simpa using h1);refine⟨_,rfl,_,rfl,?_⟩;refine ite2 (fun h3=>?_) (fun h3=>?_)
       . refine⟨_,rfl,_,rfl,u,e,h,rfl,Fv.same s4 hu,ho.sz,fun H' s=>key _ _ ⟨?_,s⟩⟩;rw[body z,h3,qm5];rfl
       . refine key _ _ ⟨?_,Aj.refl _⟩;rw[body z,show Dm (w:Int) t=false by simpa using h3,qj9];rfl
     . refine⟨_,rfl,rfl,_,rfl,?_⟩;refine ite2 (fun h2=>?_) (fun h2=>?_)
       . have z:which=2\/which=3:=.inr (by simpa using h2);refine⟨_,rfl,_,rfl,?_⟩;refine ite2 (fun h3=>?_) (fun h3=>?_)
         . refine⟨_,rfl,_,rfl,u,e,h,rfl,Fv.same s4 hu,ho.sz,fun H' s=>key _ _ ⟨?_,s⟩⟩;rw[body z,h3,qm5];rfl
         . refine key _ _ ⟨?_,Aj.refl _⟩;rw[body z,show Dm (w:Int) t=false by simpa using h3,qj9];rfl
       . have z1:¬(which=2\/which=3):=by simp at h1 h2;omega
         refine key _ _ ⟨?_,Aj.refl _⟩;unfold Hh;rw[if_neg z1,Bool.and_true]
   refine K9 fun H5 s5=>?_;have OQ:=s4.trans s5;refine qs2 (fun σ' H'=>σ'=[rS a,some (.int (h:Int)),some (.int (w:Int)),some v,some u,iS way,iS to,iS which,some (.bl (Hh which h w t e)),some (.str ((Kg t).shown++(Dx e).shown))]/\H5=H') (fun key=>?_) ?_
   . exact⟨_,rfl,v,t,rfl,Ke.same OQ hv,hf.fin,hf.each,_,rfl,u,.one e,rfl,Fv.same OQ hu,ho.fin.mono (by decide) (by decide),(fun _ z=>nomatch z),_,_,rfl,rfl,qa1 (Nat.add_le_add hf.fin.le ho.fin.le) (by decide),key _ _ ⟨rfl,rfl⟩⟩
   refine Eb ?_;have aT:=(hs.ask hf hsz hv).same OQ;have aW:=(ho.askW hu).same OQ;refine qs2 (t:=Ri _ _ _) (fun σ' H'=>σ'=[rS a,some (.int (h:Int)),some (.int (w:Int)),some v,some u,iS way,iS to,iS which,some (.bl (Hh which h w t e)),some (.str ((Kg t).shown++(Dx e).shown))]/\Aj H5 H') (fun key=>?_) ?_
   . refine⟨_,rfl,_,rfl,_,rfl,_,rfl,which,v,u,h,w,t,e,rfl,aT,aW,fun H6 s6=>?_⟩;refine⟨_,rfl,_,rfl,.inr ⟨_,rfl,rfl,_,rfl,?_⟩⟩;refine aC ?_ (key _ _ ⟨rfl,s6⟩);cases Hh which h w t e<;>simp
   refine K9 fun H6 s6=>?_;refine⟨_,rfl,_,rfl,_,rfl,_,rfl,which,v,u,h,w,t,e,rfl,aT.same s6,aW.same s6,fun H7 s7=>?_⟩;have UU:=(OQ.trans s6).trans s7;refine⟨_,rfl,_,rfl,.inr ⟨_,rfl,rfl,_,rfl,?_⟩⟩;refine bO ?_ ?_
   . cases Hh which h w t e<;>simp
   refine⟨_,rfl,v,t,rfl,Ke.same UU hv,hf.fin,hf.each,_,rfl,u,.one e,rfl,Fv.same UU hu,ho.fin.mono (by decide) (by decide),(fun _ z=>nomatch z),_,_,rfl,rfl,qa1 (Nat.add_le_add hf.fin.le ho.fin.le) (by decide),_,rfl,rfl,?_⟩;rw[show decide (V.str ((Kg t).shown++(Kg (.one e)).shown)=V.str ((Kg t).shown++(Dx e).shown))=true from qj1 rfl];exact k _
end
theorem Ka{α:Type}{P:List α->Prop}(h:∀a0,P [a0])(us:List α)(hl:us.length=1):P us:=by
 cases us with
 | nil=>exact nomatch hl
 | cons a0 u0 =>
   cases u0 with
   | nil=>exact h a0
   | cons _ _=>simp at hl
theorem E6{α:Type}{P:List α->Prop}(h:∀a0 a1,P [a0,a1])(us:List α)(hl:us.length=2):P us:=by
 cases us with
 | nil=>exact nomatch hl
 | cons a0 u0 =>
   cases u0 with
   | nil=>exact nomatch hl
   | cons a1 u1 =>
     cases u1 with
     | nil=>exact h a0 a1
     | cons _ _=>simp at hl
theorem Je{α:Type}{P:List α->Prop}(h:∀a0 a1 a2,P [a0,a1,a2])(us:List α)(hl:us.length=3):P us:=by
 cases us with
 | nil=>exact nomatch hl
 | cons a0 u0 =>
   cases u0 with
   | nil=>exact nomatch hl
   | cons a1 u1 =>
     cases u1 with
     | nil=>exact nomatch hl
     | cons a2 u2 =>
       cases u2 with
       | nil=>exact h a0 a1 a2
       | cons _ _=>simp at hl
theorem gQ{α:Type}{P:List α->Prop}(h:∀a0 a1 a2 a3,P [a0,a1,a2,a3])(us:List α)(hl:us.length=4):P us:=by
 cases us with
 | nil=>exact nomatch hl
 | cons a0 u0 =>
   cases u0 with
   | nil=>exact nomatch hl
   | cons a1 u1 =>
     cases u1 with
     | nil=>exact nomatch hl
     | cons a2 u2 =>
       cases u2 with
       | nil=>exact nomatch hl
       | cons a3 u3 =>
         cases u3 with
         | nil=>exact h a0 a1 a2 a3
         | cons _ _=>simp at hl
theorem GP{α:Type}{P:List α->Prop}(h:∀a0 a1 a2 a3 a4,P [a0,a1,a2,a3,a4])(us:List α)(hl:us.length=5):P us:=by
 cases us with
 | nil=>exact nomatch hl
 | cons a0 u0 =>
   cases u0 with
   | nil=>exact nomatch hl
   | cons a1 u1 =>
     cases u1 with
     | nil=>exact nomatch hl
     | cons a2 u2 =>
       cases u2 with
       | nil=>exact nomatch hl
       | cons a3 u3 =>
         cases u3 with
         | nil=>exact nomatch hl
         | cons a4 u4 =>
           cases u4 with
           | nil=>exact h a0 a1 a2 a3 a4
           | cons _ _=>simp at hl
set_option maxHeartbeats 4000000 in
noncomputable abbrev nS(K:W.Frag)(s:Str)(a:Addr):Prop:=W.nsIn K mainGlobals s=some (some (.ref a))
noncomputable abbrev nN9(K:W.Frag)(s:Str):Prop:=W.nsIn K mainGlobals s=some none
noncomputable abbrev kO(K:W.Frag)(a b:Addr)(v:Bool):Prop:=PySem.W.kitOne K (.ref a) (.ref b)=some v
theorem all_mk{l:PySem.W.OpenLaw}{w:World}{K:W.Frag}{h:Heap}{mg:Str->Option Value}{fa:Addr}{Am:Addr}
 {At:Addr}
 {Be:Addr}
 {Bg:Addr}
 {Ax:Addr}
 {Ay:Addr}
 {Ad:Addr}
 {Bd:Addr}
 {Bp:Addr}
 {Bh:Addr}
 {Av:Addr}
 {As:Addr}
 {Bf:Addr}
 {Bo:Addr}
 {Aw:Addr}
 {Au:Addr}
 {Ag:Addr}
 {Ac:Addr}
 {Ai:Addr}
 {Ao:Addr}
 {Fj:Addr}{Tt Uq:OAddr}{Ss:Py}{Tu T7 Ui Te Me Uk:Value}
 {F5:Addr}{U5 Vn:OAddr}{Uw:Py}{U6 U9 Vb Uz Nj Vj:Value}
 {Gx:Addr}{Xy Y7:OAddr}{Xb:Py}{Xz X8 Ys Xo Ph Yy:Value}
 {MY:Addr}{OY LF:OAddr}{oO:Py}{oZ kW LC KL HC LD:Value}
 {Q4:Tok}
 {Yn:Addr}{JG:Nat}{FE:Py}{CJ cJ CI cI CH:Tok}
 (X:K.In h) (G:h.Ns mainGlobals mg) (XU:mg "law"=some (.ref fa))
 (Za:nS K "HoleError" Am)
 (aQ:nS K "NoShape" At)
 (eN:nS K "NoText" Be)
 (eO:nS K "NoName" Bg)
 (aS:nS K "NoLevel" Ax)
 (AS:nS K "NoChain" Ay)
 (AO:nS K "NoTable" Ad)
 (EM:nS K "NoTurn" Bd)
 (HG:nS K "NoMap" Bp)
 (EO:nS K "NoGlue" Bh)
 (aR:nS K "NoPrime" Av)
 (aP:nS K "NoStage" As)
 (EN:nS K "NoPair" Bf)
 (HF:nS K "NoRow" Bo)
 (AR:nS K "NoPiece" Aw)
 (AQ:nS K "NoRound" Au)
 (HH:nS K "Lines" Ag)
 (EL:nS K "Stairs" Ac)
 (JY:nS K "Work" Ai)
 (eL:nS K "Turner" Ao)
 (AH:D9 K "is_whole" Nr)
 (Qt:D9 K "shared_divisor" Ge)
 (GV:D9 K "column" S5)
 (DW:D9 K "one_row" P9)
 (Yt:D9 K "times_list" Kl)
 (JU:D9 K "mixed" Xh)
 (GU:D9 K "copied" S4)
 (GW:D9 K "across" S7)
 (Vp:W.findIn K (.ref Ag) "__init__"=some (some (.ref Fj)))
 (T8:W.isFn K (.ref Fj)=true)
 (U8:K.lookup Fj=some ⟨Tu,Tt,.func (W.fnOf "__init__" "Lines.__init__" (Gn Dy) (E3 Dy) (Ar Dy) .none T7 Ui Te Uq Me Uk),Ss⟩)
 (Vm:W.codeIn K Me "Lines.__init__"=true)
 (Nf:W.keepIn K (.ref Fj)=true)
 (aH:D9 K "start_of" Nq)
 (Vc:D9 K "is_straight" Jl)
 (j4:D9 K "number_at" Lq)
 (Vd:D9 K "is_multiple" Jm)
 (DX:D9 K "_law_whole" Qb)
 (j7:D9 K "_law_cell_at" Lu)
 (aJ:D9 K "_law_spread" Nv)
 (Vh:D9 K "_law_number_by" Jq)
 (Uj:D9 K "_law_row_spoilt" Id)
 (dY:D9 K "_law_marks" Qc)
 (gX:D9 K "_law_only" S8)
 (M4:D9 K "is_list_of_wholes" Fa)
 (dX:D9 K "flipped" Qa)
 (nB:D9 K "ones" v6)
 (gT:D9 K "turned" S0)
 (Zb:W.findIn K (.ref Ag) "blend"=some (some (.ref F5)))
 (Ng:W.isFn K (.ref F5)=true)
 (X4:K.lookup F5=some ⟨U6,U5,.func (W.fnOf "blend" "Lines.blend" (Gn Eh) (E3 Eh) (Ar Eh) .none U9 Vb Uz Vn Nj Vj),Uw⟩)
 (Y3:W.codeIn K Nj "Lines.blend"=true)
 (Kx:W.keepIn K (.ref F5)=true)
 (Rs:Ox K Ac "__init__" "Stairs.__init__" Hd)
 (j5:D9 K "first_bar" Lr)
 (Yw:D9 K "_law_table_by" Ko)
 (AJ:D9 K "_law_spoilt" Nw)
 (Yx:D9 K "_law_list_due" Kq)
 (aI:D9 K "is_table" Nt)
 (o6:W.findIn K (.ref Ag) "turn"=some (some (.ref Gx)))
 (O5:W.isFn K (.ref Gx)=true)
 (e9:K.lookup Gx=some ⟨Xz,Xy,.func (W.fnOf "turn" "Lines.turn" (Gn Ez) (E3 Ez) (Ar Ez) .none X8 Ys Xo Y7 Ph Yy),Xb⟩)
 (m9:W.codeIn K Ph "Lines.turn"=true)
 (L8:W.keepIn K (.ref Gx)=true)
 (Ve:Ox K Ai "__init__" "Work.__init__" Jn)
 (Vg:D9 K "_law_table_due" Jp)
 (M6:Ox K Ac "shrink_row" "Stairs.shrink_row" Fc)
 (Yv:Ox K Ai "share" "Work.share" Kn)
 (Rp:Ox K Ao "__init__" "Turner.__init__" G9)
 (Vf:Ox K Ac "meet" "Stairs.meet" Jo)
 (Rq:Ox K Ac "shrink" "Stairs.shrink" Ha)
 (M5:Ox K Ai "put_in_order" "Work.put_in_order" Fb)
 (Rr:Ox K Ac "put_in" "Stairs.put_in" Hc)
 (dW:D9 K "stepped" P8)
 (j6:Ox K Ai "step" "Work.step" Ls)
 (Pg:Ox K Ai "straighten" "Work.straighten" F2)
 (AI:D9 K "diagonal" Nu)
 (nA:D9 K "rank" v5)
 (jU:D9 K "spare" Xg)
 (Yu:D9 K "papers_for" Km)
 (gU:D9 K "solved" S3)
 (gW:D9 K "barred" S6)
 (jV:D9 K "_law_ask" Xi)
 (DY:D9 K "_law_asked" Qd)
 (UI:nS K "law" MY)
 (SN:K.lookup MY=some ⟨oZ,OY,.func (W.fnOf "law" "law" (Gn Os) (E3 Os) (Ar Os) .none kW LC KL LF HC LD),oO⟩)
 (UG:W.codeIn K HC "law"=true)
 (sR:W.keepIn K (.ref MY)=true)
 (Ur:W.findIn K (.ref Ac) "blend"=some (some (.ref F5)))
 (Vo:W.findIn K (.ref Ac) "turn"=some (some (.ref Gx)))
 (dM:PySem.W.readsIn K Ag (.type "type")=true)
 (dN:PySem.W.findCls K (.ref Ag) (.type "type") "__init__"=some (.val (.ref Fj)))
 (DM:PySem.W.specialIn K (.ref Ag) "__getattribute__"=some (some (.builtin "type.__getattribute__")))
 (GB:PySem.W.makesIn K Ag=true)
 (gG:W.keepIn K (.ref Ag)=true)
 (DH:PySem.W.makesIn K Ac=true)
 (DL:W.keepIn K (.ref Ac)=true)
 (JH:PySem.W.makesIn K Ai=true)
 (jM:W.keepIn K (.ref Ai)=true)
 (dH:PySem.W.makesIn K Ao=true)
 (DK:W.keepIn K (.ref Ao)=true)
 (Y9:PySem.W.ktsIn K Am "BaseException"=true)
 (aO:PySem.W.excIn K Ad bmV "ValueError.__new__"=true)
 (AN:PySem.W.ktsIn K Ad "BaseException"=true)
 (aX:W.findIn K (.ref Ad) "__getattribute__"=some (some (.builtin "BaseException.__getattribute__")))
 (AW:W.findIn K (.ref Ad) "__getattr__"=some none)
 (AV:W.findIn K (.ref Ad) "__class__"=some (some (.builtin "object.__class__")))
 (aV:PySem.W.subIn K (.ref Ad) (.type "object")=some true)
 (AU:PySem.W.subIn K (.ref Ad) (.type "BaseException")=some true)
 (aN:PySem.W.kitOne K (.ref Ad) (.type "ValueError")=some true)
 (Mg:PySem.W.subIn K (.ref Ad) (.ref Am)=some true)
 (Ob:kO K Ad At false)
 (Pl:kO K Ad Be false)
 (Pn:kO K Ad Bg false)
 (Of:kO K Ad Ax false)
 (Og:kO K Ad Ay false)
 (N9:kO K Ad Ad true)
 (Pk:kO K Ad Bd false)
 (Qy:kO K Ad Bp false)
 (Po:kO K Ad Bh false)
 (Od:kO K Ad Av false)
 (Oa:kO K Ad As false)
 (Pm:kO K Ad Bf false)
 (Qx:kO K Ad Bo false)
 (Oe:kO K Ad Aw false)
 (Oc:kO K Ad Au false)
 (fN:PySem.W.plainGet K Ag Str.empty=true)
 (gI:PySem.W.hasDictIn K Ag=true)
 (fM:PySem.W.plainOver K Ag=true)
 (FI:W.findIn K (.ref Ag) "__setattr__"=some (some (.builtin "object.__setattr__")))
 (qs3:W.findIn K (.ref Ag) "rows"=some none)
 (qs4:W.findIn K (.ref Ag) "backs"=some none)
 (cW:PySem.W.plainGet K Ac Str.empty=true)
 (DQ:PySem.W.hasDictIn K Ac=true)
 (CU:PySem.W.plainOver K Ac=true)
 (CQ:W.findIn K (.ref Ac) "__setattr__"=some (some (.builtin "object.__setattr__")))
 (qs5:W.findIn K (.ref Ac) "rows"=some none)
 (qs6:W.findIn K (.ref Ac) "backs"=some none)
 (qs7:W.findIn K (.ref Ac) "starts"=some none)
 (IV:PySem.W.plainGet K Ai Str.empty=true)
 (JO:PySem.W.hasDictIn K Ai=true)
 (IS:PySem.W.plainOver K Ai=true)
 (IK:W.findIn K (.ref Ai) "__setattr__"=some (some (.builtin "object.__setattr__")))
 (qs8:W.findIn K (.ref Ai) "table"=some none)
 (qs9:W.findIn K (.ref Ai) "width"=some none)
 (qt0:W.findIn K (.ref Ai) "left"=some none)
 (qt1:W.findIn K (.ref Ai) "right"=some none)
 (qt2:W.findIn K (.ref Ai) "numbers"=some none)
 (CV:PySem.W.plainGet K Ao Str.empty=true)
 (dQ:PySem.W.hasDictIn K Ao=true)
 (cU:PySem.W.plainOver K Ao=true)
 (cQ:W.findIn K (.ref Ao) "__setattr__"=some (some (.builtin "object.__setattr__")))
 (qt3:W.findIn K (.ref Ao) "table"=some none)
 (qt4:W.findIn K (.ref Ao) "width"=some none)
 (qt5:W.findIn K (.ref Ao) "left"=some none)
 (qt6:W.findIn K (.ref Ao) "right"=some none)
 (qt7:W.findIn K (.ref Ao) "done"=some none)
 (jZ:nS K "GAPS" Yn)
 (JJ:K.lookup Yn=some ⟨.type "tuple",none,.seq #[.int 32 CJ,.int 16 cJ,.int 8 CI,.int 4 cI,.int 2 CH] JG,FE⟩)
 (Y6:W.nsIn K mainGlobals "MOST_ROWS"=some (some (.int 40 Q4)))
 (W4:nN9 K "isinstance")
 (nZ:nN9 K "int")
 (LK:nN9 K "bool")
 (iB:nN9 K "tuple")
 (nX:nN9 K "zip")
 (oA:nN9 K "all")
 (LJ:nN9 K "list")
 (NY:nN9 K "len")
 (IB:nN9 K "range")
 (NX:nN9 K "sum")
 (nY:nN9 K "min")
 (Zk:nN9 K "enumerate")
 (NZ:nN9 K "any")
 (W5:nN9 K "ValueError")
 (lJ:nN9 K "repr") :
 ∃fd:FuncData,(∀(s:Shared) (v:Value),BindsTo s fd ⟨[v],[]⟩ [("_law_script",v)])/\∀base:Heap,K.In base->base.Ns mainGlobals mg->Cj l.prog w K mg base Fw 15 fa fd ["_law_script"] (Ru K):=by
 have e:=XU.symm.trans (qh5 X G UI);cases e;have T:Gq K mg Am At Be Bg Ax Ay Ad Bd Bp Bh Av As Bf Bo Aw Au Ag Ac Ai Ao:=⟨qh5 X G Za,Y9,qh5 X G aQ,qh5 X G eN,qh5 X G eO,qh5 X G aS,qh5 X G AS,qh5 X G AO,aO,⟨AN,aX,AW,AV,aV,AU⟩,aN,qh5 X G EM,qh5 X G HG,qh5 X G EO,qh5 X G aR,qh5 X G aP,qh5 X G EN,qh5 X G HF,qh5 X G AR,qh5 X G AQ,Mg,Ob,Pl,Pn,Of,Og,N9,Pk,Qy,Po,Od,Oa,Pm,Qx,Oe,Oc,qh5 X G HH,⟨fN,gI,fM,FI⟩,qs3,qs4,qh5 X G EL,⟨cW,DQ,CU,CQ⟩,qs5,qs6,qs7,qh5 X G JY,⟨IV,JO,IS,IK⟩,qs8,qs9,qt0,qt1,qt2,qh5 X G eL,⟨CV,dQ,cU,cQ⟩,qt3,qt4,qt5,qt6,qt7,⟨Yn,qh5 X G jZ,fun H=>.inr ⟨_,_,_,JJ,rfl,rfl,rfl,(by show(5:Nat)<=sizeLine;decide),.cons ⟨_,rfl⟩ (.cons ⟨_,rfl⟩ (.cons ⟨_,rfl⟩ (.cons ⟨_,rfl⟩ (.cons ⟨_,rfl⟩ (.nil)))))⟩⟩,⟨_,qh5 X G Y6⟩,qf9 X G W4,qf9 X G nZ,qf9 X G LK,qf9 X G iB,qf9 X G nX,qf9 X G oA,qf9 X G LJ,qf9 X G NY,qf9 X G IB,qf9 X G NX,qf9 X G nY,qf9 X G Zk,qf9 X G NZ,qf9 X G W5,qf9 X G lJ⟩
 have Gr:=Yk (st:=Dy) U8 Vm Nf;have Ht:=Yk (st:=Eh) X4 Y3 Kx;have Jh:=Yk (st:=Ez) e9 m9 L8;have uN:=Yk (st:=Os) SN UG sR;refine⟨W.fnOf "law" "law" (Gn Os) (E3 Os) (Ar Os) .none kW LC KL LF HC LD,fun s v=>.of_eq rfl,fun base _ _=>?_⟩;have uu:=@Cs l.prog w K mg base h X G;have uy:=@Ky l.prog w K mg base h X G;have uz:=@Jd l.prog w K mg base;have Qq:=uu AH (fun F=>Z9 F T) (fun _ _ _ _ _ _=>Ka (fun _=>rfl));have Fl:=uu Qt (fun F=>Ou F T) (fun _ _ _ _ _ _=>E6 (fun _ _=>rfl));have Yh:=uu GV (fun F=>cZ F T) (fun _ _ _ _ _ _=>E6 (fun _ _=>rfl));have Ue:=uu DW (fun F=>y3 F T) (fun _ _ _ _ _ _=>E6 (fun _ _=>rfl));have Et:=uu Yt (fun F=>U0 F T) (fun _ _ _ _ _ _=>E6 (fun _ _=>rfl));have Jx:=uu JU (fun F=>FU F T) (fun _ _ _ _ _ _=>gQ (fun _ _ _ _=>rfl));have Yg:=uu GU (fun F=>CY F T) (fun _ _ _ _ _ _=>Ka (fun _=>rfl));have Ry:=uu GW (fun F=>DB F T) (fun _ _ _ _ _ _=>Ka (fun _=>rfl));have Ud:NJ l.prog w K mg base Ag "__init__" ["self","rows","backs"] 1 (Hz K Ag Ac Ai):=⟨_,_,⟨dM,dN,DM,Nf⟩,Gr.binds (ps:=["self","rows","backs"]) (fun _ _ _ _ _ _=>Je (fun _ _ _=>rfl)),Lc Gr T⟩
 have Es:o9 l.prog w K mg base Ag ["self","rows","backs"] 1 (Hz K Ag Ac Ai):=⟨_,_,⟨GB,Vp,T8,gG⟩,Gr.binds (ps:=["self","rows","backs"]) (fun _ _ _ _ _ _=>Je (fun _ _ _=>rfl)),Lc Gr T⟩
 have J9:=uu aH (fun F=>Z8 F T) (fun _ _ _ _ _ _=>Ka (fun _=>rfl));have Kz:=uu Vc (fun F=>Tm F T) (fun _ _ _ _ _ _=>Ka (fun _=>rfl));have Gg:=uu j4 (fun F=>Xu F T) (fun _ _ _ _ _ _=>E6 (fun _ _=>rfl));have K0:=uu Vd (fun F=>To F T) (fun _ _ _ _ _ _=>E6 (fun _ _=>rfl));have Uf:=uu DX (fun F=>y6 F T) (fun _ _ _ _ _ _=>Ka (fun _=>rfl));have Dw:=uu j7 (fun F=>Xx F T) (fun _ _ _ _ _ _=>E6 (fun _ _=>rfl));have Hv:=uu aJ (fun F=>b6 F T) (fun _ _ _ _ _ _=>E6 (fun _ _=>rfl));have K4:=uu Vh (fun F=>Ts F T) (fun _ _ _ _ _ _=>E6 (fun _ _=>rfl));have Ei:=uu Uj (fun F=>Rm F T) (fun _ _ _ _ _ _=>Je (fun _ _ _=>rfl));have N5:=jP X G (P:=l.prog) (w:=w) (base:=base) dY (fun F=>y7 F T) (fun _ _ _ _ _ _=>Ka (fun _=>rfl));have Yi:=uu gX (fun F=>DC F T) (fun _ _ _ _ _ _=>Ka (fun _=>rfl));have Cz:=uu M4 (fun F=>Lx F T Qq) (fun _ _ _ _ _ _=>E6 (fun _ _=>rfl));have Eu:=uu dX (fun F=>y4 F T Yh) (fun _ _ _ _ _ _=>E6 (fun _ _=>rfl));have Le:=uu nB (fun F=>JB F T Ue) (fun _ _ _ _ _ _=>Ka (fun _=>rfl));have O9:=uu gT (fun F=>cX F T Jx) (fun _ _ _ _ _ _=>E6 (fun _ _=>rfl));have Jw:Iq l.prog w K mg base Ag "blend" ["self","i","j","one","other"] 2 (J0 K Ag Ac Ai):=⟨_,_,⟨Zb,Ng,Kx⟩,Ht.binds (ps:=["self","i","j","one","other"]) (fun _ _ _ _ _ _=>GP (fun _ _ _ _ _=>rfl)),L3 Ht T Fl Jx⟩
 have Hg:Iq l.prog w K mg base Ac "blend" ["self","i","j","one","other"] 2 (J0 K Ag Ac Ai):=⟨_,_,⟨Ur,Ng,Kx⟩,Ht.binds (ps:=["self","i","j","one","other"]) (fun _ _ _ _ _ _=>GP (fun _ _ _ _ _=>rfl)),L3 Ht T Fl Jx⟩
 have Qp:=bP DH DL (P:=l.prog) (w:=w) (base:=base) Rs (fun F=>Qj F T Ud) (fun _ _ _ _ _ _=>Je (fun _ _ _=>rfl));have Gh:=uu j5 (fun F=>Xv F T K0 Gg) (fun _ _ _ _ _ _=>E6 (fun _ _=>rfl));have Mb:=uu Yw (fun F=>U3 F T K4 Hv) (fun _ _ _ _ _ _=>GP (fun _ _ _ _ _=>rfl));have Qr:=uu AJ (fun F=>b8 F T Ei) (fun _ _ _ _ _ _=>Je (fun _ _ _=>rfl));have Fs:=uu Yx (fun F=>U4 F T Uf) (fun _ _ _ _ _ _=>E6 (fun _ _=>rfl));have Hu:=uu aI (fun F=>a8 F T Cz) (fun _ _ _ _ _ _=>E6 (fun _ _=>rfl));have Hs:Iq l.prog w K mg base Ag "turn" ["self","turn"] 3 (Hy K Ag Ac Ai):=⟨_,_,⟨o6,O5,L8⟩,Jh.binds (ps:=["self","turn"]) (fun _ _ _ _ _ _=>E6 (fun _ _=>rfl)),Na Jh T O9 Ry⟩
 have Cv:Iq l.prog w K mg base Ac "turn" ["self","turn"] 3 (Hy K Ag Ac Ai):=⟨_,_,⟨Vo,O5,L8⟩,Jh.binds (ps:=["self","turn"]) (fun _ _ _ _ _ _=>E6 (fun _ _=>rfl)),Na Jh T O9 Ry⟩
 have Ye:=bP JH jM (P:=l.prog) (w:=w) (base:=base) Ve (fun F=>Tp F T Es Le) (fun _ _ _ _ _ _=>Je (fun _ _ _=>rfl));have K3:=uu Vg (fun F=>Tr F T Fs) (fun _ _ _ _ _ _=>E6 (fun _ _=>rfl));have Cn:=uz M6 (fun F=>Lz F T Cv) (fun _ _ _ _ _ _=>Je (fun _ _ _=>rfl));have Hr:=uz Yv (fun F=>U2 F T Hs Jw) (fun _ _ _ _ _ _=>Je (fun _ _ _=>rfl));have N6:=GI dH DK (P:=l.prog) (w:=w) (base:=base) Rp (fun F=>Qg F T Yg Es Hu Le) (fun _ _ _ _ _ _=>Je (fun _ _ _=>rfl));have Jv:=uz Vf (fun F=>Tq F T Cn Cv Hg) (fun _ _ _ _ _ _=>Je (fun _ _ _=>rfl));have He:=uz Rq (fun F=>Qh F T Cn) (fun _ _ _ _ _ _=>Ka (fun _=>rfl));have Fd:=uz M5 (fun F=>Ly F T Hr) (fun _ _ _ _ _ _=>Ka (fun _=>rfl));have Hf:=uz Rr (fun F=>Qi F T J9 Cv Jv) (fun _ _ _ _ _ _=>E6 (fun _ _=>rfl));have Pa:=uu dW (fun F=>w9 F T Qp Es Hf He) (fun _ _ _ _ _ _=>Je (fun _ _ _=>rfl));have Jc:=uz j6 (fun F=>Xw F T Pa Eu) (fun _ _ _ _ _ _=>Ka (fun _=>rfl));have F4:=uz Pg (fun F=>N2 F T Jc Kz) (fun _ _ _ _ _ _=>Ka (fun _=>rfl));have C7:=uy AI (fun F=>a9 F T Ye F4 Fd Eu Hu) (fun _ _ _ _ _ _=>E6 (fun _ _=>rfl));have aD:=uy nA (fun F=>jB F T C7) (fun _ _ _ _ _ _=>E6 (fun _ _=>rfl));have Yb:=uy jU (fun F=>fU F T C7 Eu) (fun _ _ _ _ _ _=>E6 (fun _ _=>rfl));have E2:=uy Yu (fun F=>U1 F T C7 Cz) (fun _ _ _ _ _ _=>Je (fun _ _ _=>rfl));have T9:=uy gU (fun F=>cY F T E2 Et Gh) (fun _ _ _ _ _ _=>Je (fun _ _ _=>rfl));have Ua:=uy gW (fun F=>CZ F T E2 Gh Et Gg) (fun _ _ _ _ _ _=>Je (fun _ _ _=>rfl));have Yc:=uy jV (fun F=>fV F T C7 aD T9 Ua Yb N6) (fun _ _ _ _ _ _=>gQ (fun _ _ _ _=>rfl));have Pb:=uu DY (fun F=>y8 F T Yc N5 Yi) (fun _ _ _ _ _ _=>gQ (fun _ _ _ _=>rfl));exact mE uN T Mb K3 Dw Qr Pb Ei Fs Hv
theorem walk{l:PySem.W.OpenLaw}{q:Program}{loose:List Str}{XP:(Str->Option Value)->Heap->Prop}{YP:World->Heap->Prop}{d:DefRec}{K:Params->PySem.W.Frag}(hn:l.most=some 63)(hdf:d.params.defaults=[])
 (hY:∀(w:World) (h:Heap),YP w h->(K w.params).In h)
 (F:∀(w:World) (mg:Str->Option Value) (fa:Addr) (h:Heap),(K w.params).In h->h.Ns mainGlobals mg->mg d.name=some (.ref fa) →
   ∃fd:FuncData,(∀(s:Shared) (u:Value),BindsTo s fd ⟨[u],[]⟩ [("_law_script",u)])/\∀base:Heap,(K w.params).In base->base.Ns mainGlobals mg->Cj l.prog w (K w.params) mg base Fw 15 fa fd ["_law_script"] (Ru (K w.params))) :
 PySem.W.WalkO q loose XP YP l.row.toRowW d [] (fun f vs=>PySem.call f vs) :=
 L2.walk_ofB (n:=63) (k:=15) (x:="_law_script") (CX:=fun _=>Fw) (sp:=fun w=>Ru (K w.params)) hn (by decide) hdf ⟨rfl,by decide,by decide,rfl⟩ hY F (fun _ _ a ns hl Yf _ hS=>⟨a,ns,rfl,hS,hl,Yf,fun _=>rfl⟩) fun _ _ _ _ _ z=>z
end Hb
structure PySem.W.Fast:Prop where(tw4050938422206604899 tw757006641251988172 tw16943239980109476972 tw12994145633996119825 tw623629736825339013 tw3369875587045763774 tw36902482651007542 tw9430034929608411687 tw4005163111310788106 tw14949750794321836818 tw13690014212889209611 tw11077895095665783738 tw13187517514137181023 tw6181253234234867923 tw14474060287702896394 tw13494840070819711530 tw3721833465961368173 tw16410449395154213834 tw13300900450206840651 tw1021929423857246714 tw643361493456951003 tw14059135247941458622 tw15571887867048207056 tw14844281476073195921 tw2944565249574080200 tw12456043952426749343 tw10744226622398093970 tw17393173288671772806 tw12068879420878140067 tw11758353829364326592 tw15190717654231596537 tw14333421080875222742 tw15888825970437685949 tw12609067074968672838 tw17340333415353427786 tw1352145320783319182 tw3544047479497253574 tw8269553604041415497 tw17307108554512669498 tw12882227718913314480 tw3033349057046708974 tw17759833356299342568 tw11354385171723388991 tw15718665550340777258 tw1962202741689106452 tw14613108927982044681 tw6626103360707529624 tw11299774022802012292 tw11968232725164032831 tw14739766719011256465 tw11878581462513127709 tw7657340000760517760 tw6565603544354419449 tw16974170907445554386 tw12320216306821082025 tw18120511755855739214 tw3946655430592166208 tw17833914610959930041 tw2995514132395023000 tw12176145704229131645 tw10552255378364930667 tw3990087840690481027 tw2854707986056862206 tw15761000933748120876 tw12296564979391637317 tw2619808412877527691 tw7863127678444343078 tw9308250059526575212 tw7278642875192028889 tw12830639116286632334 tw14676946836813338667 tw1987832252027746098 tw4583832056460578824 tw15842851284456430050 tw18437407560087504124 tw1766483188529847672 tw11156163089197244555 tw13335833862039232902 tw11361259516486503902 tw2490645792150671119 tw17700574217816435939 tw4405393195751437600 tw15067158857496602367 tw15263408438807733221 tw460055741577083134 tw8487756069161212663 tw6146056354864584920 tw181932802694327154 tw10837198569786593572 tw7415894098527005208 tw7125873594265873425 tw15446015473176382541 tw4387674460432684730 tw7978969081744881832 tw999252499644426960 tw13150841564658233700 tw10731639942790184697 tw13976962314366475121 tw16360123315975858997 tw7714093675681078376 tw4416756997405832735 tw17101338644733257490 tw11144716397967124741 tw14702388398151877756 tw4600130786006732682 tw14374942797492759429 tw4607717732889728605 tw12645606576976780551 tw3484923072503341880 tw12572099675668463017 tw3591902109930617045 tw6323575197236344526 tw9697646226045779162 tw8337847254048950920 tw4271945121775935232 tw588454218802395629 tw18366269103852519745 tw5107701987099304248 tw13663592963663637217 tw5545350444841545538 tw14588262569410352074 tw14156482212877126551 tw7910433379023349725 tw14707462156791427345 tw14209721138064452785 tw6205025120433167910 tw12116954208112713902 tw14052226281071837500 tw5767508570116546021 tw14501643531117870997 tw15093280673563691621 tw14965217724800367706 tw17212835226817143132 tw12073532973828446628 tw1703902392842989094 tw18299876266502391170 tw7160960048092668529 tw3856712069624550075 tw8764952306807930013 tw18333901324126113932 tw4461581814623988883 tw1828741396182132249 tw185938044181474887 tw7404251658699238192 tw1590276392865723052 tw11622900099573241997 tw15613167778156343925 tw4382607811987720030 tw18280714176694261613 tw14687554799118404107 tw12875410088753174820 tw1961173127487906357 tw10582855780601773683 tw7706867331609852943 tw3137530383684258467 tw17255976525777933269 tw8209735252478296099 tw6956520933259076592 tw46760128486411906 tw7249270427998879240 tw309299068462412242 tw7916418583733045998 tw993788545213381498 tw7600577663832760415 tw9778008382504401793 tw11498634946935641247 tw10627194539797315535 tw5210206612587518035 tw17903871292998704810 tw19730263415735858 tw8879535433758707538 tw7628281438060443014 tw4798459426420778072 tw6066908668911476179 tw11510197786295045725 tw6884794988833081916 tw171856368059812735 tw15511831685973839985 tw17637703121765498529 tw430581203138756570 tw2548285109325065314 tw14211831828766652316 tw8666103655543186048 tw9261961123555337034 tw15555380150663037656 tw3189101094568382991 tw9350968315884381911 tw4087082477728690269 tw802173019821103627 tw17190972004219581697 tw2480774989174548141 tw16918102407346911865 tw8167069996062553656 tw13117973612546560493 tw1552184085463454620 tw14375678063700652360 tw640920284039165501 tw15068849781761266271 tw14770972637284962082 tw5860275429788780653 tw16340427609536698636 tw2612085259572957092 tw1845991572973858770 tw9479831645851448986 tw8383291290674738697 tw16628740975145446300 tw10066962873463431995 tw17563902556985915846 tw3779427118450689538 tw11158363533633518261 tw17180778463949462855 tw10408940595165947369 tw16260135376481431740 tw13278250789074135948 tw3140250125933858306 tw15982303933611730817 tw1477179850659098259 tw10938998083291589085 tw14353161693337832444 tw15270670452525285446 tw6547850631377002031 tw3705711478454524617 tw9648511646324025167 tw2345673396211727377 tw6988600294215942021 tw12567202487898135863 tw10919759435745183087 tw13444071634377570936 tw12189622383142592959 tw18381122353837600772 tw6502212923691661140 tw8283086918865992941 tw16403048430813072091 tw5057446258928939984 tw9626040055913757817 tw11356768857397083924 tw9114041142474788814 tw7331655028734042049 tw9495438876283282122 tw12076904633272107863 tw17039473437114445735 tw10312694375986789298 tw15423312441659559974 tw6930037612377197147 tw15862497111877800242 tw13509830318077009052 tw579582634139233353 tw5229657241939055070 tw13403516554524864392 tw14623617934653967462 tw12595554834582126195 tw7407567528497096203 tw10176273320843815756 tw12603332446107022132 tw12216869673619418019 tw12604189056196321184 tw14922587645997200821 tw16060178988954496037 tw14654579160219708284 tw15307193288109075559 tw14048766988308761606 tw2750588305427825187 tw11664000427149158442 tw11915672066972355615 tw3372396095085069536 tw9331339919591233857 tw13334911606745551388 tw5092829933072479506 tw4293634620853815479 tw4622896602601015543 tw16262688368481751365 tw11756643796803228525 tw2987736805759555322 tw4236134343153479730 tw16287829265999502880 tw4606283681075583830 tw1355915854535075777 tw13544529971658630270 tw6436541047376572115 tw6007909996324408851 tw21005325202021120 tw5711034847682160205 tw11572353382469421466 tw16478531529068258799 tw4043097571328936531 tw7471869125537277360 tw17448241932018501498 tw341560186358441118 tw1906197368634735125 tw4184817994399605788 tw12080887325418673400 tw13457971104989470720 tw18252839943857087341 tw16397878438888180572 tw8964973730623156767 tw16858734051969014027 tw3786302739564092920 tw17336126430766736753 tw12072765779356675916 tw1993170677055945584 tw13430155359463251460 tw14587874211002087584 tw7126922621272338817 tw9692196562102277108 tw5295240363138921649 tw4193513748861335816 tw12563126514329397983 tw10873630180854300602 tw3375683707719404046 tw18068744920129995975 tw18355974751797087235 tw3848460099704749924:True)
open PySem PySem.W PyProof.Rows
set_option maxRecDepth 100000 in
set_option maxHeartbeats 0 in
theorem PySem.Challenge.cw_holebook_k31_what_no_table_is_holds : PySem.Challenge.rw_holebook_k31_what_no_table_is.Holds := by
 w_on;o_law;k_head;(case hw=>w_witness2)
 k_fill
 refine Hb.walk (l:=PySem.Challenge.rw_holebook_k31_what_no_table_is) rfl rfl (fun w h Y=>PySem.W.kIn_of Y) ?F
 case F =>
  intro w mg fa h KX G hmg
  refine' Hb.all_mk KX G hmg ..
  all_goals try delta Hb.nS Hb.nN9 Hb.kO
  all_goals try first | exact⟨_,_,by k_is,⟨⟨_,_,_,_,_,_,_,_,_,rfl,by k_is,by k_is⟩,by k_is⟩⟩ | exact⟨_,_,by k_is,by k_is,⟨⟨_,_,_,_,_,_,_,_,_,rfl,by k_is,by k_is⟩,by k_is⟩⟩ | k_is | kit_is | kts_isx | k_exc | k_qdec | kernel_rfl | decide +kernel
