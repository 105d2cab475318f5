import PyProof.Rows.All
import Wide.All
import OpenK.AllK
import Wide.FinOn
import Lean
import PyProof.EqAt
import PyProof.EqKinds
import PyProof.TupleCall
import PySem.Challenge.RW_holebook_k30_whole_spare_lists
set_option linter.all false
set_option Elab.async false
set_option maxRecDepth 100000
set_option maxHeartbeats 4000000
noncomputable section
local macro_rules|`(tactic|omega)=>`(tactic|first|with_reducible assumption|with_reducible exact Nat.le_trans (by assumption) (Nat.le_of_ble_eq_true rfl)|with_reducible exact Nat.lt_of_lt_of_le (by assumption) (by assumption)|with_reducible exact Nat.le_of_lt (by assumption)|lia)
theorem O9m{p:Prop}(h:p:=by omega):p:=h
def qa0:=@Nat.le_refl
def qa1:=@Nat.le_trans
def qa2:=@PySem.Heap.get?_push_of_some
def qa3:=@List.length_map
def qa4:=@Int.natAbs_mul
def qa5:=@Nat.zero_le
def qa6:=@PySem.wpAny_bind
def qa7:=@Nat.lt_of_le_of_lt
def qa8:=@Nat.lt_of_lt_of_le
def qa9:=@PySem.Heap.lt_size
def qb0:=@List.getElem?_eq_getElem
def qb1:=@Nat.mul_le_mul_right
def qb2:=@List.getElem?_eq_some_iff
def qb3:=@Int.natAbs_neg
def qb4:=@List.size_toArray
def qb5:=@PySem.Heap.get?_push_size
def qb6:=@Int.toNat_natCast
def qb7:=@Nat.pow_add
def qb8:=@Int.one_mul
def qb9:=@Nat.pow_le_pow_right
def qc0:=@Bool.false_ne_true
def qc1:=@List.getElem?_map
def qc2:=@Nat.le_of_lt
def qc3:=@PySem.PassesOwn.never
def qc4:=@Nat.ne_of_lt
def qc5:=@Nat.mul_le_mul_left
def qc6:=@List.mem_cons
def qc7:=@Int.mul_zero
def qc8:=@Int.natAbs_add_le
def qc9:=@Nat.le_add_right
def qd0:=@Nat.mul_le_mul
def qd1:=@Nat.one_mul
def qd2:=@List.mem_cons_of_mem
def qd3:=@Nat.add_mul
def qd4:=@Int.mul_comm
def qd5:=@of_decide_eq_true
def qd6:=@Nat.pow_lt_pow_right
def qd7:=@Int.fdiv_eq_ediv_of_nonneg
def qd8:=@PySem.wpAny_pure
def qd9:=@PySem.F.plainAttrs_list
def qe0:=@Int.mul_assoc
def qe1:=@Int.natAbs_ediv_le_natAbs
def qe2:=@Decidable.byContradiction
def qe3:=@Nat.lt_or_ge
def qe4:=@List.length_cons
def qe5:=@Bool.and_eq_true
def qe6:=@Option.some.inj
def qe7:=@List.map_append
def qe8:=@List.mem_append_right
def qe9:=@Nat.le_of_not_lt
def qf0:=@PyProof.Rows.callWith_type1
def qf1:=@Nat.pow_succ
def qf2:=@Int.eq_ofNat_of_zero_le
def qf3:=@List.length_append
def qf4:=@List.getElem?_eq_none
def qf5:=@Nat.le_mul_of_pos_right
def qf6:=@Nat.le_antisymm
def qf7:=@PySem.boot_len
def qf8:=@Nat.succ_le_succ
def qf9:=@List.not_mem_nil
def qg0:=@List.length_take
def qg1:=@List.length_eraseIdx_of_lt
def qg2:=@List.getElem?_set
def qg3:=@Int.mul_nonneg
def qg4:=@List.length_set
def qg5:=@Int.mul_le_mul_of_nonneg_right
def qg6:=@List.mem_cons_self
def qg7:=@Int.mul_ediv_cancel_left
def qg8:=@Nat.lt_of_not_le
def qg9:=@PySem.W.mg_none_of
def qh0:=@List.replicate_succ
def qh1:=@List.getElem_of_mem
def qh2:=@PySem.Heap.size_push
def qh3:=@Nat.one_le_two_pow
def qh4:=@Int.zero_mul
def qh5:=@Classical.byContradiction
def qh6:=@List.mem_of_getElem?
def qh7:=@decide_eq_false
def qh8:=@PySem.F.type_list_append
def qh9:=@PySem.F.slot_list_append
def qi0:=@Int.emod_nonneg
def qi1:=@PySem.wpAny_field
def qi2:=@PySem.wpAny_truthy_bool
def qi3:=@List.length_drop
def qi4:=@List.all_eq_true
def qi5:=@Int.mul_le_mul_of_nonneg_left
def qi6:=@Int.emod_lt_of_pos
def qi7:=@Int.zero_add
def qi8:=@Nat.lt_trichotomy
def qi9:=@List.flatten_cons
def qj0:=@Int.le_of_dvd
def qj1:=@PySem.wpAny_passesOwn
def qj2:=@List.mem_range
def qj3:=@List.getElem?_append_left
def qj4:=@List.getElem_mem
def qj5:=@PySem.mem_of_lookup
def qj6:=@Int.neg_neg
def qj7:=@Nat.sub_self
def qj8:=@PySem.F.slot_tuple_iterator_next
def qj9:=@PySem.wpAny_seqItems
def qk0:=@PySem.W.kia_one
def qk1:=@Nat.lt_irrefl
def qk2:=@Bool.eq_iff_iff
def qk3:=@PySem.wpAny_mono
def qk4:=@Option.map_eq_some_iff
def qk5:=@Nat.le_mul_of_pos_left
def qk6:=@List.take_of_length_le
def qk7:=@Nat.le_succ
def qk8:=@Int.neg_mul
def qk9:=@PySem.wpAny_setField_rec
def ql0:=@PySem.W.methodCall_KW
def ql1:=@Nat.le_of_eq
def ql2:=@Nat.mul_lt_mul''
def ql3:=@List.lookup_cons
def ql4:=@List.getElem?_set_ne
def ql5:=@List.map_cons
def ql6:=@beq_eq_false_iff_ne
def ql7:=@Nat.lt_two_pow_self
def ql8:=@Int.mul_one
def ql9:=@Int.mul_eq_zero
def qm0:=@Nat.mul_lt_mul_of_pos_left
def qm1:=@Nat.le_of_mul_le_mul_right
def qm2:=@List.getElem?_append_right
def qm3:=@PySem.W.callWith_K
def qm4:=@Nat.ne_of_gt
def qm5:=@Nat.min_self
def qm6:=@List.mem_or_eq_of_mem_set
def qm7:=@PySem.F.type_list_insert
def qm8:=@PySem.F.slot_list_insert
def qm9:=@List.ext_getElem?
def qn0:=@Int.not_lt
def qn1:=@Int.dvd_mul_of_dvd_right
def qn2:=@Nat.add_assoc
def qn3:=@PySem.wpAny_Call_Name_kw
def qn4:=@Int.fmod_nonneg_of_pos
def qn5:=@PySem.wpAny_pyIter_list
def qn6:=@Nat.zero_add
def qn7:=@Nat.mul_comm
def qn8:=@List.nodup_cons
def qn9:=@Int.natAbs_dvd_natAbs
def qo0:=@Int.le_trans
def qo1:=@List.getElem?_of_mem
def qo2:=@PySem.wpAny_pyIter_zip
def qo3:=@PySem.wpAny_call_entry
def qo4:=@PySem.W.plainGet_of
def qo5:=@List.filterMap_cons
def qo6:=@Int.ediv_mul_cancel
def qo7:=@PySem.wpAny_execs_nil
def qo8:=@Int.fmod_lt_of_pos
def qo9:=@Int.dvd_trans
def qp0:=@PySem.F.slot_zip_next
def qp1:=@Bool.false_eq_true
def qp2:=@beq_iff_eq
def qp3:=@List.append_assoc
def qp4:=@Nat.pow_zero
def qp5:=@Nat.add_comm
def qp6:=@List.map_set
def qp7:=@Int.le_of_lt
open PySem in
noncomputable abbrev KY:=List (List Int)
open PySem in
noncomputable abbrev Bj:=List (Addr × Obj)
open PySem in
noncomputable abbrev Pg:=Array (Option Value)
open PySem in
noncomputable abbrev OAddr:=Option Addr
namespace L2
open PySem PySem.Spec PyProof.Rows
noncomputable abbrev Key:=Sum Int Str
noncomputable def FN:Key->Value->Bool
 | .inl k,v=>Value.isInt k v
 | .inr x,v=>Value.isStrOf x v
noncomputable def mX(w:World):Key->Int
 | .inl k=>hashInt k
 | .inr x=>hashStr w x
theorem C5:∀{k:Key}{v:Value},FN k v=true->(∃i t,k=Sum.inl i/\v=Value.int i t)\/(∃x t,k=Sum.inr x/\v=Value.str x t)
 | .inl i,v,h=>by
   obtain⟨t,e⟩:=Value.isInt_shape (k:=i) (v:=v) h;exact .inl ⟨i,t,rfl,e⟩
 | .inr x,v,h=>by
   obtain⟨t,e⟩:=Value.isStrOf_shape (x:=x) (v:=v) h;exact .inr ⟨x,t,rfl,e⟩
theorem HB(a b:Int):decide ((Sum.inl a:Key)=Sum.inl b)=(a==b):=by
 by_cases e:a=b
 . subst e;simp
 . have h:¬(Sum.inl a:Key)=Sum.inl b:=fun q=>e (Sum.inl.inj q);rw[qh7 h];exact(ql6.mpr e).symm
theorem gZ(a b:Str):decide ((Sum.inr a:Key)=Sum.inr b)=decide (a=b):=by
 by_cases e:a=b
 . subst e;simp
 . have h:¬(Sum.inr a:Key)=Sum.inr b:=fun q=>e (Sum.inr.inj q);rw[qh7 h,qh7 e]
theorem HA(a:Int)(b:Str):decide ((Sum.inl a:Key)=Sum.inr b)=false:=qh7 (fun q=>nomatch q)
theorem GZ(a:Str)(b:Int):decide ((Sum.inr a:Key)=Sum.inl b)=false:=qh7 (fun q=>nomatch q)
noncomputable def Z7(prog:Program)(w:World):PySem.KeyKind prog w Key where
 is:=FN
 hash:=mX w
 inj:=fun v a b ha hb=>by
  rcases C5 ha with⟨i,t,rfl,rfl⟩|⟨x,t,rfl,rfl⟩
  . rcases C5 hb with⟨j,u,rfl,e⟩|⟨y,u,rfl,e⟩
    . injection e with e1 _;rw[e1]
    . exact nomatch e
  . rcases C5 hb with⟨j,u,rfl,e⟩|⟨y,u,rfl,e⟩
    . exact nomatch e
    . injection e with e1 _;rw[e1]
 byValue:=fun k v h=>by
  rcases C5 h with⟨i,t,rfl,rfl⟩|⟨x,t,rfl,rfl⟩<;>rfl
 pyHash:=fun hv h=>by
  rcases C5 hv with⟨i,t,rfl,rfl⟩|⟨x,t,rfl,rfl⟩
  . exact wpAny_pyHash_int h
  . exact wpAny_pyHash_str h
 eqBool:=fun hu hv h=>by
  rcases C5 hu with⟨i,t,rfl,rfl⟩|⟨x,t,rfl,rfl⟩
  . rcases C5 hv with⟨j,u,rfl,rfl⟩|⟨y,u,rfl,rfl⟩
    . rw[HB]at h;exact wpAny_eqBool_int h
    . rw[HA]at h;exact SeqAt.EqAt.int_str i t y u _ _ _ _ h
  . rcases C5 hv with⟨j,u,rfl,rfl⟩|⟨y,u,rfl,rfl⟩
    . rw[GZ]at h;exact SeqAt.EqAt.str_int x t j u _ _ _ _ h
    . rw[gZ]at h;exact wpAny_eqBool_str h
 «strs»:=fun k x t v h=>by
  rcases C5 h with⟨i,u,rfl,e⟩|⟨y,u,rfl,e⟩
  . exact nomatch e
  . injection e with e1 _;subst e1;cases v<;>rfl
inductive V where
 | non | bl (b:Bool) | int (i:Int) | str (x:Str) | byt (b:Array UInt8) | flt (b:UInt64) | ref (a:Addr) | ty (n:String)
 deriving DecidableEq
noncomputable abbrev rS(a:Addr):Option V:=some (.ref a)
noncomputable abbrev iS(i:Int):Option V:=some (.int i)
noncomputable def RelV:V->Value->Prop
 | .non,u=>u=Value.none
 | .bl b,u=>u=Value.bool b
 | .int i,u=>∃t,u=Value.int i t
 | .str x,u=>∃t,u=Value.str x t
 | .byt b,u=>∃t,u=Value.bytes b t
 | .flt b,u=>∃t,u=Value.float b t
 | .ref a,u=>u=Value.ref a
 | .ty n,u=>u=Value.type n
noncomputable abbrev Bt:List V->List Value->Prop:=Paired RelV
theorem Bt.length{xs:List V}{us:List Value}(r:Bt xs us):xs.length=us.length:=Paired.length r
theorem Bt.get:∀{xs:List V}{us:List Value}{i:Nat}{x:V},Bt xs us->xs[i]?=some x->∃u,us[i]?=some u/\RelV x u
 | _,_,_,_,.nil,e=>by simp at e
 | _,_,0,_,.cons r _,e=>by simp at e;subst e;exact⟨_,rfl,r⟩
 | _,_,i+1,x,.cons _ t,e=>by
   obtain⟨u,h1,h2⟩:=Bt.get (i:=i) (x:=x) t (by simpa using e);exact⟨u,by simpa using h1,h2⟩
theorem Bt.set{x:V}{u:Value}(r:RelV x u):∀{xs:List V}{us:List Value} (i:Nat),Bt xs us->Bt (xs.set i x) (us.set i u)
 | _,_,_,.nil=>.nil
 | _,_,0,.cons _ t=>.cons r t
 | _,_,i+1,.cons q t=>.cons q (Bt.set r i t)
theorem Bt.append:∀{xs ys:List V}{us ws:List Value},Bt xs us->Bt ys ws->Bt (xs++ys) (us++ws)
 | _,_,_,_,.nil,s=>s
 | _,_,_,_,.cons r t,s=>.cons r (Bt.append t s)
theorem Bt.take:∀{xs:List V}{us:List Value} (n:Nat),Bt xs us->Bt (xs.take n) (us.take n)
 | _,_,0,_=>.nil
 | _,_,_+1,.nil=>.nil
 | _,_,n+1,.cons r t=>.cons r (Bt.take n t)
theorem Bt.drop:∀{xs:List V}{us:List Value} (n:Nat),Bt xs us->Bt (xs.drop n) (us.drop n)
 | _,_,0,r=>r
 | _,_,_+1,.nil=>.nil
 | _,_,n+1,.cons _ t=>Bt.drop n t
noncomputable def S5:Option V->Option Value->Prop
 | some v,some u=>RelV v u
 | none,none=>True
 | _,_=>False
noncomputable def KV{κ:Type}:List (κ × V)->List (κ × Value)->Prop:=Paired fun(p:κ × V) (q:κ × Value)=>p.1=q.1/\RelV p.2 q.2
noncomputable def kV:Key->V
 | .inl i=>.int i
 | .inr x=>.str x
inductive HO where
 | lst (xs:List V)
 | tup (xs:List V)
 | dK (Tq:List (Key × V)) | dT (Tq:List (List Key × V))
 | set (S:Int->Bool) (n:Nat)
 | ins (C dx:Addr) (fs:List (Str × V))
 | own (x:Addr)
 | xd (fs:List (Str × V))
 | met (f x:Addr)
 | rng (lo hi:Int)
 | frz (o:Obj) (u:HO)
 | tbl (ps:Array Value)
 | ext (φ:Heap->Prop)
noncomputable abbrev Hp:=Addr->Option HO
noncomputable def upd(H:Hp)(a:Addr)(o:HO):Hp:=fun b=>if b=a then some o else H b
theorem Ae{H:Hp}{a:Addr}{o:HO}:upd H a o a=some o:=by unfold upd;rw[if_pos rfl]
theorem As{H:Hp}{a b:Addr}{o:HO}(h:b≠a):upd H a o b=H b:=by unfold upd;rw[if_neg h]
theorem Eu{H:Hp}{a b:Addr}{o u:HO}(h:H a=some o)(h':H b=some u)(d:o≠u):a≠b:=by
 intro e;subst e;rw[h]at h';exact d (qe6 h')
theorem Bb{H:Hp}{a b:Addr}{o:HO}(h:H a=some o)(h':H b=none):a≠b:=by
 intro e;subst e;rw[h]at h';cases h'
noncomputable def Kx(h:Heap)(a:Addr)(items:Array Value):Prop:=∃o,h.get? a=some o/\o.cls=.type "tuple"/\o.dict=none/\∃n,o.data=.seq items n
theorem Kx.tup{h:Heap}{a:Addr}{items:Array Value}(x:Kx h a items):IsTup h a items:=let ⟨o,e,c,_,d⟩:=x;⟨o,e,c,d⟩
theorem Kx.lt{h:Heap}{a:Addr}{items:Array Value}(x:Kx h a items):a<h.objs.size:=x.tup.lt
theorem Kx.new(h:Heap)(items:Array Value):Kx (h.push { cls:=.type "tuple",data:=.seq items }) h.objs.size items:=⟨_,qb5 _ rfl,rfl,rfl,_,rfl⟩
section
variable(P:Program)(w:World)
noncomputable def G6(H:Hp)(h:Heap)(a:Addr):HO->Prop
 | .lst xs=>xs.length<=sizeLine/\∃(its:List Value) (n:Nat),Bt xs its/\h.get? a=some { cls:=.type "list",data:=.seq its.toArray n }
 | .tup xs=>xs.length<=sizeLine/\∃its:List Value,Bt xs its/\Kx h a its.toArray
 | .dK Tq=>Tq.length<=sizeLine/\(a==sysModules)=false/\∃vs,KV Tq vs/\h.DictOf (Z7 P w) a vs
 | .dT Tq=>Tq.length<=sizeLine/\(a==sysModules)=false/\∃xs:List (List Key × Addr × Value),
    Paired (fun(p:List Key × V) (q:List Key × Addr × Value)=>p.1=q.1/\H q.2.1=some (.tup (p.1.map kV))/\RelV p.2 q.2.2) Tq xs ∧
    ∃o es ep,h.get? a=some o/\o.ExactDict/\o.data=.dict es ep/\es.toList=xs.map (entryOfKey (tupleKind (Z7 P w)))/\(xs.map (·.1)).Nodup
 | .set S n=>h.SetOf (intKind P w) a S n
 | .ins C dx fs=>H dx=some (.own a)/\fs.length<=1000/\dx≠a/\h.get? a=some (PySem.W.instObj C dx) ∧
    ∃mA,h.Ns1 dx mA/\(∀f,S5 (fs.lookup f) (mA f))/\PySem.Within mA (fs.map (·.1))
 | .own _=>∃o,h.get? a=some o
 | .xd fs=>∃mA,h.Ns1 a mA/\∀f,S5 (fs.lookup f) (mA f)
 | .rng lo hi=>∃t u v,h.get? a=some { cls:=.type "range",data:=.fields #[.int lo t,.int hi u,.int 1 v] }
 | .frz o u=>h.get? a=some o/\G6 H h a u
 | .tbl ps=>h.get? a=some { cls:=.none,data:=.fields ps }
 | .met f x=>h.get? a=some (PySem.W.methodObj (.ref f) (.ref x))
 | .ext φ=>φ h/\(∃o,h.get? a=some o)/\∀h1 h2:Heap,φ h1->(∀o,h1.get? a=some o->h2.get? a=some o)->φ h2
noncomputable def Pw(H:Hp)(h:Heap):Prop:=∀a o,H a=some o->G6 P w H h a o
end
section
variable{P:Program}{w:World}{H H':Hp}{h h':Heap}{a:Addr}{o:HO}
theorem G6.lt(x:G6 P w H h a o):a<h.objs.size:=by
 cases o with
 | lst xs=>obtain⟨_,_,_,_,e⟩:=x;exact qa9 e
 | tup xs=>obtain⟨_,_,_,p⟩:=x;exact p.lt
 | dK Tq=>obtain⟨_,_,_,_,o,_,_,e,_⟩:=x;exact qa9 e
 | dT Tq=>obtain⟨_,_,_,_,o,_,_,e,_⟩:=x;exact qa9 e
 | set S n=>obtain⟨o,_,_,_,e,_⟩:=x;exact qa9 e
 | ins C dx fs=>obtain⟨_,_,_,e,_⟩:=x;exact qa9 e
 | own y=>obtain⟨_,e⟩:=x;exact qa9 e
 | xd fs=>obtain⟨_,⟨_,_,_,e,_⟩,_⟩:=x;exact qa9 e
 | rng lo hi=>obtain⟨_,_,_,e⟩:=x;exact qa9 e
 | frz ob u=>obtain⟨e,_⟩:=x;exact qa9 e
 | tbl ps=>exact qa9 (show h.get? a=some _ from x)
 | met f y=>exact qa9 (show h.get? a=some _ from x)
 | ext φ=>obtain⟨_,⟨_,e⟩,_⟩:=x;exact qa9 e
theorem Paired.mapP{α β:Type}{F G:α->β->Prop}:∀{l₁:List α}{l₂:List β},Paired F l₁ l₂->(∀a b,F a b->G a b)->Paired G l₁ l₂
 | _,_,.nil,_=>.nil
 | _,_,.cons r t,f=>.cons (f _ _ r) (Paired.mapP t f)
theorem G6.stay(x:G6 P w H h a o)(k:∀b u,(b=a\/H b=some (.own a))->h.get? b=some u->h'.get? b=some u)
 (ho:∀b,H b=some (.own a)->H' b=some (.own a)) (ht:∀b xs,H b=some (.tup xs)->H' b=some (.tup xs)):G6 P w H' h' a o:=by
 induction o with
 | lst xs=>obtain⟨z,its,n,r,e⟩:=x;exact⟨z,its,n,r,k _ _ (.inl rfl) e⟩
 | tup xs=>obtain⟨z,its,r,ob,e,c⟩:=x;exact⟨z,its,r,ob,k _ _ (.inl rfl) e,c⟩
 | dK Tq=>obtain⟨z,y,vs,r,ob,es,ep,e,c⟩:=x;exact⟨z,y,vs,r,ob,es,ep,k _ _ (.inl rfl) e,c⟩
 | dT Tq =>
   obtain⟨z,y,xs,r,ob,es,ep,e,c⟩:=x;exact⟨z,y,xs,Paired.mapP r fun p q z=>⟨z.1,ht _ _ z.2.1,z.2.2⟩,ob,es,ep,k _ _ (.inl rfl) e,c⟩
 | set S n=>obtain⟨ob,es,ep,t,e,c⟩:=x;exact⟨ob,es,ep,t,k _ _ (.inl rfl) e,c⟩
 | ins C dx fs =>
   obtain⟨d,z,ne,e,mA,⟨od,es,ep,e2,c⟩,r⟩:=x;exact⟨ho _ d,z,ne,k _ _ (.inl rfl) e,mA,⟨od,es,ep,k _ _ (.inr d) e2,c⟩,r⟩
 | own y=>obtain⟨ob,e⟩:=x;exact⟨ob,k _ _ (.inl rfl) e⟩
 | xd fs=>obtain⟨mA,⟨od,es,ep,e,c⟩,r⟩:=x;exact⟨mA,⟨od,es,ep,k _ _ (.inl rfl) e,c⟩,r⟩
 | rng lo hi=>obtain⟨t,u,v,e⟩:=x;exact⟨t,u,v,k _ _ (.inl rfl) e⟩
 | frz ob u ih=>obtain⟨e,q⟩:=x;exact⟨k _ _ (.inl rfl) e,ih q⟩
 | tbl ps =>
   have e:h.get? a=some { cls:=.none,data:=.fields ps }:=x;show h'.get? a=some { cls:=.none,data:=.fields ps };exact k a _ (.inl rfl) e
 | met f y =>
   have e:h.get? a=some (PySem.W.methodObj (.ref f) (.ref y)):=x;show h'.get? a=some (PySem.W.methodObj (.ref f) (.ref y));exact k a _ (.inl rfl) e
 | ext φ=>obtain⟨p,⟨o,e⟩,st⟩:=x;exact⟨st _ _ p fun o q=>k _ _ (.inl rfl) q,⟨o,k _ _ (.inl rfl) e⟩,st⟩
theorem Pw.lt(x:Pw P w H h)(e:H a=some o):a<h.objs.size:=(x a o e).lt
theorem Pw.fresh(x:Pw P w H h)(e:h.objs.size<=a):H a=none:=by
 cases q:H a with
 | none=>rfl
 | some u=>exact absurd (qa8 (x.lt q) e) (qk1 _)
theorem Pw.kept(x:Pw P w H h)(k:∀b u,h.get? b=some u->h'.get? b=some u):Pw P w H h':=fun a o e =>
 (x a o e).stay (fun b u _ q=>k b u q) (fun _ q=>q) fun _ _ q=>q
theorem Pw.laid(x:Pw P w H h)(k:∀b u,h.get? b=some u->h'.get? b=some u)(hp:h.objs.size<=a)(new:G6 P w (upd H a o) h' a o):Pw P w (upd H a o) h':=fun b u e=>by
 have hn:=x.fresh hp;by_cases hb:b=a
 . subst hb;rw[Ae]at e;cases e;exact new
 . rw[As hb]at e;exact(x b u e).stay (fun c v _ q=>k c v q) (fun c q=>by rw[As (Bb q hn)];exact q) fun c xs q=>by rw[As (Bb q hn)];exact q
end
noncomputable def Rd(H:Hp)(a:Addr)(u:HO):Prop:=H a=some u\/∃o,H a=some (.frz o u)
theorem Rd.ok{P:Program}{w:World}{H:Hp}{h:Heap}{a:Addr}{u:HO}(r:Rd H a u)(x:Pw P w H h):G6 P w H h a u:=by
 rcases r with r|⟨o,r⟩
 . exact x a u r
 . obtain⟨_,q⟩:=x a _ r;exact q
noncomputable def MC:Option HO->Prop
 | some (.lst _)=>True
 | some (.dK _)=>True
 | some (.dT _)=>True
 | some (.set _ _)=>True
 | some (.ins _ _ _)=>True
 | some (.ext _)=>True
 | _=>False
section
variable{P:Program}{w:World}{H:Hp}{h h':Heap}{x e:Addr}{o':HO}
theorem Pw.write(ok:Pw P w H h)(mu:MC (H x))(he:e=x\/H e=some (.own x))(k:∀b u,b≠e->h.get? b=some u->h'.get? b=some u)(IM:∃u,h'.get? e=some u)
 (new:G6 P w (upd H x o') h' x o'):Pw P w (upd H x o') h':=fun b u q=>by
 have JS:∀c y,H c=some (.own y)->c≠x:=fun c y r z=>by subst z;rw[r]at mu;exact mu
 have mQ:∀c xs,H c=some (.tup xs)->c≠x:=fun c xs r z=>by subst z;rw[r]at mu;exact mu
 by_cases hb:b=x
 . subst hb;rw[Ae]at q;cases q;exact new
 . rw[As hb]at q;by_cases HK:b=e
   . have q':H b=some (.own x):=by
      rcases he with z | z
      . exact absurd (HK.trans z) hb
      . rw[HK];exact z
     rw[q]at q';cases q';obtain⟨v,hv⟩:=IM;exact⟨v,by rw[HK];exact hv⟩
   . refine(ok b u q).stay (fun c v hc r=>k c v ?_ r) (fun c r=>by rw[As (JS c b r)];exact r) fun c xs r=>by rw[As (mQ c xs r)];exact r
     rcases hc with rfl | hc
     . exact HK
     . rintro rfl;rcases he with z | z
       . exact JS c b hc z
       . rw[hc]at z;cases z;exact hb rfl
end
structure Un(fs ex:List Addr)(H H':Hp)(h h':Heap):Prop where
 keep:∀b o,h.get? b=some o->H b=none->b ∉ fs->b ∉ ex->h'.get? b=some o
 slot:∀b o,h.get? b=some o->H b=none->b∈fs->b ∉ ex->∃sl,h'.get? b=some { o with slots:=sl }
 free:∀b o,h.get? b=some o->H b=none->b ∉ ex->H' b=none
 there:∀b o,h.get? b=some o->b ∉ ex->∃o',h'.get? b=some o'
 tups:∀b xs,H b=some (.tup xs)->H' b=some (.tup xs)
 frzs:∀b o u,H b=some (.frz o u)->H' b=some (.frz o u)
 tbls:∀b ps,H b=some (.tbl ps)->∃more,H' b=some (.tbl (ps++more))
section
variable{fs fs' ex ex':List Addr}{H H1 H2:Hp}{h h1 h2 h':Heap}{a x e:Addr}{o:HO}
theorem Un.any(u:Un fs ex H H1 h h1){b:Addr}{ob:Obj}(q:h.get? b=some ob)(n:H b=none)(hx:b ∉ ex):∃sl,h1.get? b=some { ob with slots:=sl }:=by
 by_cases hb:b∈fs
 . exact u.slot b ob q n hb hx
 . exact⟨ob.slots,u.keep b ob q n hb hx⟩
theorem Un.kept(k:∀b u,h.get? b=some u->h'.get? b=some u):Un fs ex H H h h' :=
 ⟨fun b ob q _ _ _=>k b ob q,fun b ob q _ _ _=>⟨ob.slots,k b ob q⟩,fun _ _ _ n _=>n,fun b ob q _=>⟨ob,k b ob q⟩,fun _ _ q=>q,fun _ _ _ q=>q,fun _ ps q=>⟨#[],by rw[q];simp⟩⟩
theorem Un.refl:Un fs ex H H h h:=Un.kept fun _ _ q=>q
theorem Un.laid(k:∀b u,h.get? b=some u->h'.get? b=some u)(hp:h.objs.size<=a)(hn:H a=none):Un fs ex H (upd H a o) h h' where
 keep:=fun b u q _ _ _=>k b u q
 slot:=fun b u q _ _ _=>⟨u.slots,k b u q⟩
 free:=fun b u q n _=>by rw[As (qc4 (qa8 (qa9 q) hp))];exact n
 there:=fun b u q _=>⟨u,k b u q⟩
 tups:=fun b xs q=>by rw[As (Bb q hn)];exact q
 frzs:=fun b u xs q=>by rw[As (Bb q hn)];exact q
 tbls:=fun b ps q=>⟨#[],by rw[As (Bb q hn),q];simp⟩
theorem Un.write(mu:MC (H x))(he:e=x\/H e=some (.own x))(k:∀b u,b≠e->h.get? b=some u->h'.get? b=some u)(IM:∃u,h'.get? e=some u):Un fs ex H (upd H x o) h h':=by
 have hx:∀b,H b=none->b≠x:=fun b n z=>by subst z;rw[n]at mu;exact mu
 have hb:∀b,H b=none->b≠e:=fun b n z=>by
  subst z;rcases he with r | r
  . exact hx b n r
  . rw[n]at r;cases r
 have hm:∀b u,H b=some u->¬MC (some u)->b≠x:=fun b u q nm z=>by subst z;rw[q]at mu;exact nm mu
 refine⟨fun b u q n _ _=>k b u (hb b n) q,fun b u q n _ _=>⟨u.slots,k b u (hb b n) q⟩,fun b u q n _=>by rw[As (hx b n)];exact n,fun b u q _=>?_,
  fun b xs q=>by rw[As (hm b _ q fun z=>z)];exact q,fun b u xs q=>by rw[As (hm b _ q fun z=>z)];exact q,fun b ps q=>⟨#[],by rw[As (hm b _ q fun z=>z),q];simp⟩⟩
 by_cases HK:b=e
 . subst HK;exact IM
 . exact⟨u,k b u HK q⟩
end
noncomputable def trk(h:Heap)(H:Hp):List Addr:=(List.range h.objs.size).filter fun a=>(H a).isSome
noncomputable def Ve(h:Heap)(H:Hp):Heap:=PySem.W.hideAll h (trk h H)
theorem y7(h:Heap)(H:Hp):(Ve h H).objs.size=h.objs.size:=PySem.W.hideAll_size _ _
theorem CB{h:Heap}{H:Hp}{b:Addr}{o:Obj}(e:h.get? b=some o)(n:H b=none):(Ve h H).get? b=some o :=
 PySem.W.hideAll_get _ e fun hm=>by
  have q:(H b).isSome=true:=(List.mem_filter.mp hm).2;rw[n]at q;simp at q
theorem DX{h:Heap}{H:Hp}{b:Addr}{o:Obj}(e:(Ve h H).get? b=some o):h.get? b=some o/\H b=none:=by
 have e':h.get? b=some o:=PySem.W.of_hideAll (trk h H) e;refine⟨e',?_⟩;cases q:H b with
 | none=>rfl
 | some x =>
   have hm:b∈trk h H:=List.mem_filter.mpr ⟨qj2.mpr (qa9 e'),by simp[q]⟩;have z:(Ve h H).get? b=none:=PySem.W.hideAll_none (trk h H) hm;rw[z]at e;cases e
structure Mod(K:W.Frag)(mg:Str->Option Value)(base:Heap):Prop where
 kin:K.In base
 glob:base.Ns mainGlobals mg
 blt:∃mb,base.Ns builtinsNs mb/\∀x:Str,x≠"__name__"->mb x=bootBuiltins x
 nolimit:base.NoLimit
structure Cx where
 prog:Program
 w:World
 K:PySem.W.Frag
 mg:Str->Option Value
 base:Heap
 A:Around
 N:List Str
 s₀:Shared
 H₀:Hp
 env:Env
 outer:List Env
 stack:List Env
 ex:List Addr
 fn:Str->Bool
 calm:Bool
 pn:Bj
 xe:Value->Shared->Prop
noncomputable def aS(l:List Env):List Addr:=l.filterMap (·.frame)
noncomputable abbrev Cx.fs(X:Cx):List Addr:=aS X.outer
noncomputable def MB(sc:Scope)(x:Str):Prop:=sc.names.lookup x=some .local\/sc.names.lookup x=some .cell\/sc.names.lookup x=some .free
noncomputable def iE(sc:Scope)(x:Str):Prop:=sc.names.lookup x=some .local\/sc.names.lookup x=some .cell
noncomputable def OE(env:Env)(h:Heap)(m:Str->Option Value)(x:Str)(u:Value):Prop :=
 (env.kindOf x=some .local/\m x=some u)\/((env.kindOf x=some .cell\/env.kindOf x=some .free)/\∃c,env.cells.lookup x=some c/\h.IsCell c (some u))
structure Cx.Ok(X:Cx):Prop where
 mod:Mod X.K X.mg X.base
 kind:X.env.scope.kind=.function
 glob:X.env.globals=mainGlobals
 blt:X.env.builtins=builtinsNs
 above:X.s₀.heap.objs.size<=X.env.locals
 inj:∀x y c,X.env.cells.lookup x=some c->X.env.cells.lookup y=some c->x=y
 has:∀x,(X.env.kindOf x=some .cell\/X.env.kindOf x=some .free)->∃c,X.env.cells.lookup x=some c
 cab:∀x c,X.fn x=true->X.env.cells.lookup x=some c->X.s₀.heap.objs.size<=c
 hd:X.calm=true->X.A.handled=none
 frames:X.A.frames=some X.stack
 stk:X.stack=X.outer\/(X.stack=X.env::X.outer/\X.env.frame=some X.env.locals)
 exf:∀b∈X.ex,b≠X.env.locals/\∀x c,X.env.cells.lookup x=some c->c≠b
 bs:∀b o,X.base.get? b=some o->X.s₀.heap.get? b=some o/\X.H₀ b=none
 bsz:X.base.objs.size<=X.s₀.heap.objs.size
 noex:∀b o,X.base.get? b=some o->b ∉ X.ex
 exfs:∀b∈X.ex,b ∉ X.fs
 funs:X.s₀.heap.FunFrames X.base X.outer
 frf:∀b∈X.fs,X.H₀ b=none
structure Bk(X:Cx)(Ac:Bj)(σ:List (Option V))(H:Hp)(s:Shared):Prop where
 ok:X.Ok
 os:s.os=X.s₀.os
 bare:AllBare s.gens
 base:Un X.fs X.ex X.H₀ H X.s₀.heap s.heap
 loc:∃m,s.heap.Ns X.env.locals m/\∀(i:Nat) (x:Str) (v:V),X.N[i]?=some x->σ[i]?=some (some v)->MB X.env.scope x->∃u,RelV v u/\OE X.env s.heap m x u
 cell:∀x c,X.env.cells.lookup x=some c->∃v,s.heap.IsCell c v
 free:H X.env.locals=none
 freeC:∀x c,X.env.cells.lookup x=some c->H c=none
 pin:∀p∈X.pn++Ac,s.heap.get? p.1=some p.2/\H p.1=none/\p.1≠X.env.locals/\p.1 ∉ X.fs/\∀v,p.2.data≠.cell v
 hok:Pw X.prog X.w H s.heap
 len:σ.length=X.N.length
section
variable{X:Cx}{Ac:Bj}{σ:List (Option V)}{H H':Hp}{s:Shared}{h':Heap}
theorem Cx.Ok.nofr(ok:X.Ok){b:Addr}{o:Obj}(e:X.base.get? b=some o):b ∉ X.fs:=fun hb=>by
 have:=(ok.funs.mem hb).1;rw[e]at this;cases this
theorem Bk.bs(I:Bk X Ac σ H s):∀b o,X.base.get? b=some o->s.heap.get? b=some o/\H b=none:=fun b o e =>
 ⟨I.base.keep b o (I.ok.bs b o e).1 (I.ok.bs b o e).2 (I.ok.nofr e) (I.ok.noex b o e),I.base.free b o (I.ok.bs b o e).1 (I.ok.bs b o e).2 (I.ok.noex b o e)⟩
theorem Bk.bk(I:Bk X Ac σ H s):∀b o,X.base.get? b=some o->s.heap.get? b=some o:=fun b o e=>(I.bs b o e).1
theorem Bk.mod(I:Bk X Ac σ H s):Mod X.K X.mg X.base:=I.ok.mod
theorem Bk.kIn(I:Bk X Ac σ H s):X.K.In s.heap:=I.ok.mod.kin.keeps I.bk
theorem Bk.lt(I:Bk X Ac σ H s):X.env.locals<s.heap.objs.size:=let ⟨_,hn,_⟩:=I.loc;hn.lt
theorem Bk.sz(I:Bk X Ac σ H s):X.s₀.heap.objs.size<=s.heap.objs.size:=qa1 I.ok.above (qc2 I.lt)
theorem Bk.nofs(I:Bk X Ac σ H s){a:Addr}(h:s.heap.objs.size<=a):a ∉ X.fs:=fun hb=>by
 obtain⟨_,o,ho,_⟩:=I.ok.funs.mem hb;exact absurd (qa8 (qa9 ho) (qa1 I.sz h)) (qk1 _)
theorem Bk.cne(I:Bk X Ac σ H s):∀x c,X.env.cells.lookup x=some c->c≠X.env.locals:=fun x c e z=>by
 obtain⟨v,o,ho,hd⟩:=I.cell x c e;obtain⟨m,⟨o',es,ep,ho',hd',_⟩,_⟩:=I.loc;rw[z,ho']at ho;cases ho;rw[hd']at hd;cases hd
theorem Bk.funs(I:Bk X Ac σ H s):s.heap.FunFrames X.base X.outer:=by
 have all:∀(l:List Env),(∀b∈aS l,b∈X.fs)->X.s₀.heap.FunFrames X.base l->s.heap.FunFrames X.base l:=by
  intro l
  induction l with
  | nil=>intro _ _;trivial
  | cons env r ih =>
    intro hs hl;obtain⟨hk,⟨L,o,hf,hn,ho,hd⟩,hr⟩:=hl;have hL:L∈X.fs:=hs L (by unfold aS;rw[qo5,hf];exact qg6);obtain⟨sl,e⟩:=I.base.slot L o ho (I.ok.frf L hL) hL fun z=>I.ok.exfs L z hL;exact⟨hk,⟨L,_,hf,hn,e,hd⟩,ih (fun b hb=>hs b (by unfold aS;rw[qo5,hf];exact qd2 _ hb)) hr⟩
 exact all X.outer (fun _ hb=>hb) I.ok.funs
theorem Bk.stack(I:Bk X Ac σ H s):s.heap.FunFrames X.base X.stack:=by
 rcases I.ok.stk with e|⟨e,hf⟩
 . rw[e];exact I.funs
 . rw[e];obtain⟨m,hn,_⟩:=I.loc;refine .cons (by rw[I.ok.kind];decide) hf hn ?_ I.funs;exact Heap.get?_none_of_le (qa1 I.ok.bsz I.ok.above)
theorem Bk.stkSub(I:Bk X Ac σ H s):∀b∈aS X.stack,b∈X.env.locals::X.fs:=fun b hb=>by
 rcases I.ok.stk with e|⟨e,hf⟩
 . rw[e]at hb;exact qd2 _ hb
 . rw[e]at hb;unfold aS at hb;rw[qo5,hf]at hb;exact hb
theorem Bk.stkFree(I:Bk X Ac σ H s):∀b∈aS X.stack,H b=none:=fun b hb=>by
 rcases qc6.mp (I.stkSub b hb) with e | hb
 . rw[e];exact I.free
 . obtain⟨_,o,ho,_⟩:=I.ok.funs.mem hb;exact I.base.free b o ho (I.ok.frf b hb) fun z=>I.ok.exfs b z hb
theorem Bk.step{g':Array GenState}{t':Nat}{d':Drawn}{ch:List Addr}(I:Bk X Ac σ H s)
 (hch:∀b∈ch,(b∈X.ex\/X.s₀.heap.objs.size<=b)/\b≠X.env.locals/\(∀x c,X.env.cells.lookup x=some c->c≠b)/\∀p∈X.pn++Ac,p.1≠b)
 (keep:∀b o,b≠X.env.locals->b ∉ X.fs->b ∉ ch->s.heap.get? b=some o->H b=none->h'.get? b=some o)
 (slot:∀b o,b≠X.env.locals->b∈X.fs->b ∉ ch->s.heap.get? b=some o->H b=none->∃sl,h'.get? b=some { o with slots:=sl }) (free:∀b o,b ∉ ch->s.heap.get? b=some o->H b=none->H' b=none)
 (there:∀b o,b ∉ ch->s.heap.get? b=some o->∃o',h'.get? b=some o')
 (tups:∀b xs,H b=some (.tup xs)->H' b=some (.tup xs)) (frzs:∀b o u,H b=some (.frz o u)->H' b=some (.frz o u)) (tbls:∀b ps,H b=some (.tbl ps)->∃more,H' b=some (.tbl (ps++more)))
 (ns:∀m,s.heap.Ns X.env.locals m->h'.Ns X.env.locals m) (hok:Pw X.prog X.w H' h') (hg:AllBare g') :
 Bk X Ac σ H' { s with heap:=h',gens:=g',drawn:=d',toks:=t' }:=by
 have OS:∀b o,X.s₀.heap.get? b=some o->b≠X.env.locals:=fun b o e=>qc4 (qa8 (qa9 e) I.ok.above)
 have LN:∀b o,X.s₀.heap.get? b=some o->b ∉ X.ex->b ∉ ch:=fun b o e hx hb=>by
  rcases (hch b hb).1 with z | z
  . exact hx z
  . exact absurd (qa8 (qa9 e) z) (qk1 _)
 have cellK:∀x c,X.env.cells.lookup x=some c->∀v,s.heap.IsCell c v->h'.IsCell c v:=fun x c e v ⟨o,ho,hd⟩=>by
  have AR:c ∉ ch:=fun z=>(hch c z).2.2.1 x c e rfl;by_cases hc:c∈X.fs
  . obtain⟨sl,q⟩:=slot c o (I.cne x c e) hc AR ho (I.freeC x c e);exact⟨_,q,hd⟩
  . exact⟨o,keep c o (I.cne x c e) hc AR ho (I.freeC x c e),hd⟩
 refine⟨I.ok,I.os,hg,⟨fun b o e n hb hx=>?_,fun b o e n hb hx=>?_,fun b o e n hx=>?_,fun b o e hx=>?_,fun b xs e=>tups b xs (I.base.tups b xs e),fun b o xs e=>frzs b o xs (I.base.frzs b o xs e),fun b ps e=>?_⟩,?_,fun x c e=>?_,?_,fun x c e=>?_,fun p hp=>?_,hok,I.len⟩
 . exact keep b o (OS b o e) hb (LN b o e hx) (I.base.keep b o e n hb hx) (I.base.free b o e n hx)
 . obtain⟨sl,e1⟩:=I.base.slot b o e n hb hx;obtain⟨qN,e2⟩:=slot b _ (OS b o e) hb (LN b o e hx) e1 (I.base.free b o e n hx);exact⟨qN,e2⟩
 . obtain⟨o',e1⟩:=I.base.there b o e hx;exact free b o' (LN b o e hx) e1 (I.base.free b o e n hx)
 . obtain⟨o',e1⟩:=I.base.there b o e hx;exact there b o' (LN b o e hx) e1
 . obtain⟨m1,e1⟩:=I.base.tbls b ps e;obtain⟨m2,e2⟩:=tbls b _ e1;exact⟨m1++m2,by rw[e2,Array.append_assoc]⟩
 . obtain⟨m,hn,hl⟩:=I.loc;refine⟨m,ns m hn,fun i x v e1 e2 e3=>?_⟩;obtain⟨u,r,l⟩:=hl i x v e1 e2 e3;refine⟨u,r,?_⟩;rcases l with l|⟨k,c,e,z⟩
   . exact .inl l
   . exact .inr ⟨k,c,e,cellK x c e _ z⟩
 . obtain⟨v,z⟩:=I.cell x c e;exact⟨v,cellK x c e v z⟩
 . obtain⟨m,⟨o,_,_,ho,_⟩,_⟩:=I.loc;exact free _ o (fun z=>(hch _ z).2.1 rfl) ho I.free
 . obtain⟨v,o,ho,hd⟩:=I.cell x c e;exact free c o (fun z=>(hch c z).2.2.1 x c e rfl) ho (I.freeC x c e)
 . obtain⟨e,n,ne,nf,d⟩:=I.pin p hp;have AR:p.1 ∉ ch:=fun z=>(hch p.1 z).2.2.2 p hp rfl;exact⟨keep p.1 p.2 ne nf AR e n,free p.1 p.2 AR e n,ne,nf,d⟩
theorem Bk.un{t':Nat}(I:Bk X Ac σ H s)(u:Un X.fs [] H H' s.heap h')(hok:Pw X.prog X.w H' h'):Bk X Ac σ H' { s with heap:=h',toks:=t' }:=by
 obtain⟨m,⟨o,es,ep,ho,r⟩,_⟩:=id I.loc;obtain⟨sl,hL⟩:=u.any ho I.free (by simp)
 exact I.step (g':=s.gens) (d':=s.drawn) (ch:=[]) (fun _ z=>nomatch z) (fun b o _ hb _ e n=>u.keep b o e n hb (by simp)) (fun b o _ hb _ e n=>u.slot b o e n hb (by simp)) (fun b o _ e n=>u.free b o e n (by simp)) (fun b o _ e=>u.there b o e (by simp)) u.tups u.frzs u.tbls (fun m' hm=>by
  obtain⟨o',es',nX,ho',r'⟩:=hm;rw[ho]at ho';cases ho';exact⟨_,es',nX,hL,r'⟩) hok I.bare
theorem Bk.call{g':Array GenState}{t':Nat}{d':Drawn}{ch:List Addr}(I:Bk X Ac σ H s)(u:Un (aS X.stack) ch H H' s.heap h')(hok:Pw X.prog X.w H' h')(hg:AllBare g')
 (hch:∀b∈ch,(b∈X.ex\/X.s₀.heap.objs.size<=b)/\b≠X.env.locals/\(∀x c,X.env.cells.lookup x=some c->c≠b)/\∀p∈X.pn++Ac,p.1≠b) :
 Bk X Ac σ H' { s with heap:=h',gens:=g',drawn:=d',toks:=t' }:=by
 obtain⟨m,⟨o,es,ep,ho,r⟩,_⟩:=id I.loc;obtain⟨sl,hL⟩:=u.any ho I.free fun z=>(hch _ z).2.1 rfl
 exact I.step (ch:=ch) hch (fun b o hL hb hc e n=>u.keep b o e n (fun z=>(qc6.mp (I.stkSub b z)).elim hL hb) hc) (fun b o _ _ hc e n=>u.any e n hc) (fun b o hc e n=>u.free b o e n hc) (fun b o hc e=>u.there b o e hc) u.tups u.frzs u.tbls (fun m' hm=>by
  obtain⟨o',es',nX,ho',r'⟩:=hm;rw[ho]at ho';cases ho';exact⟨_,es',nX,hL,r'⟩) hok hg
theorem Bk.turned{t':Nat}{it:Addr}(I:Bk X Ac σ H s)(k:∀b o,b≠it->s.heap.get? b=some o->h'.get? b=some o)(hn:H it=none)(hL:it≠X.env.locals)
 (h1:it∈X.ex\/X.s₀.heap.objs.size<=it) (h2:∀x c,X.env.cells.lookup x=some c->c≠it) (h3:∀p∈X.pn++Ac,p.1≠it):Bk X Ac σ H { s with heap:=h',toks:=t' }:=by
 have oS:∀b u,H b=some u->b≠it:=fun b u e z=>by rw[z,hn]at e;cases e
 refine I.step (g':=s.gens) (d':=s.drawn) (ch:=[it]) (fun b hb=>?_) (fun b o _ _ hc e _=>k b o (fun z=>hc (by simp[z])) e) (fun b o _ _ hc e _=>⟨o.slots,k b o (fun z=>hc (by simp[z])) e⟩) (fun _ _ _ _ n=>n)
  (fun b o hc e=>⟨o,k b o (fun z=>hc (by simp[z])) e⟩) (fun _ _ e=>e) (fun _ _ _ e=>e) (fun b ps e=>⟨#[],by rw[e];simp⟩) (fun m hm=>?_) (fun b u e=>?_) I.bare
 . have e:b=it:=by simpa using hb
   subst e;exact⟨h1,hL,h2,h3⟩
 . obtain⟨o,es,ep,ho,r⟩:=hm;exact⟨o,es,ep,k _ o (Ne.symm hL) ho,r⟩
 . refine(I.hok b u e).stay (fun c v hc q=>k c v ?_ q) (fun _ q=>q) fun _ _ q=>q;rcases hc with z | z
   . rw[z];exact oS b u e
   . exact oS c _ z
theorem Bk.tok(I:Bk X Ac σ H s)(t:Nat):Bk X Ac σ H { s with toks:=t }:=I.un (h':=s.heap) (t':=t) Un.refl I.hok
theorem Bk.kept{t':Nat}(I:Bk X Ac σ H s)(k:∀b u,s.heap.get? b=some u->h'.get? b=some u):Bk X Ac σ H { s with heap:=h',toks:=t' }:=I.un (Un.kept k) (I.hok.kept k)
theorem Bk.laid{a:Addr}{o:HO}{t':Nat}(I:Bk X Ac σ H s)(k:∀b u,s.heap.get? b=some u->h'.get? b=some u)(hp:s.heap.objs.size<=a)(new:G6 X.prog X.w (upd H a o) h' a o) :
 Bk X Ac σ (upd H a o) { s with heap:=h',toks:=t' }:=I.un (Un.laid k hp (I.hok.fresh hp)) (I.hok.laid k hp new)
theorem Bk.write{x e:Addr}{o:HO}{t':Nat}(I:Bk X Ac σ H s)(mu:MC (H x))(he:e=x\/H e=some (.own x))(k:∀b u,b≠e->s.heap.get? b=some u->h'.get? b=some u)(IM:∃u,h'.get? e=some u)
 (new:G6 X.prog X.w (upd H x o) h' x o):Bk X Ac σ (upd H x o) { s with heap:=h',toks:=t' }:=I.un (Un.write mu he k IM) (I.hok.write mu he k IM new)
theorem Bk.pins_of{fH:Bj}(I:Bk X Ac σ H s)(h:∀p∈fH,s.heap.get? p.1=some p.2/\H p.1=none/\p.1≠X.env.locals/\p.1 ∉ X.fs/\∀v,p.2.data≠.cell v):Bk X fH σ H s :=
 ⟨I.ok,I.os,I.bare,I.base,I.loc,I.cell,I.free,I.freeC,fun p hp=>(List.mem_append.mp hp).elim (fun z=>I.pin p (List.mem_append_left _ z)) (h p),I.hok,I.len⟩
theorem W4{N:List Str}(hN:N.Nodup){i j:Nat}{x:Str}(a:N[i]?=some x)(b:N[j]?=some x):i=j:=by
 obtain⟨h1,e1⟩:=qb2.mp a;obtain⟨h2,e2⟩:=qb2.mp b;exact(List.getElem_inj hN).mp (e1.trans e2.symm)
theorem Tb{M:Model}{A:Around}{E:Value->Shared->Prop}{i:Nat}{x:Str}{v:V}{u:Value}{Q:Unit->Shared->Prop}(I:Bk X Ac σ H s)(hN:X.N.Nodup)(hi:X.N[i]?=some x)(hx:iE X.env.scope x)(r:RelV v u)
 (h:∀s',Bk X Ac (σ.set i (some v)) H s'->(∃a,Heap.SameBut a s.heap s'.heap/\(a=X.env.locals\/X.env.cells.lookup x=some a))->Q () s') (hf:X.fn x=true\/X.env.scope.names.lookup x=some .local:=by first | exact .inl rfl | exact .inr rfl | assumption):wpAny M A (storeName X.env x u) Q E s:=by
 obtain⟨m,hn,hl⟩:=id I.loc;have hcls:(X.env.scope.kind==.class || (X.env.scope.kind==.module&&X.env.locals != X.env.globals))=false:=by rw[I.ok.kind];rfl
 have PM:i<σ.length:=by rw[I.len];exact(qb2.mp hi).1
 have cne:=I.cne
 have tracked:∀{a:Addr}{h':Heap},(∃o,s.heap.get? a=some o/\H a=none)->Heap.SameBut a s.heap h'->Pw X.prog X.w H h':=fun {a h'} ha hs b ob e=>by
  obtain⟨_,_,hfree⟩:=ha;refine(I.hok b ob e).stay (fun c w' hc q=>(hs.2 c ?_).trans q) (fun _ q=>q) fun _ _ q=>q;rintro rfl;rcases hc with rfl | hc
  . rw[hfree]at e;cases e
  . rw[hfree]at hc;cases hc
 rcases hx with hk | hk
 . refine wpAny_storeName_local hk hn (fun h' hn' hs=>?_) hcls;obtain⟨oL,_,_,RP,_⟩:=id hn;refine h _ ⟨I.ok,I.os,I.bare,⟨fun b o e n hb hx=>?_,fun b o e n hb hx=>?_,I.base.free,fun b o e hx=>?_,I.base.tups,I.base.frzs,I.base.tbls⟩,⟨_,hn',fun j y v' e1 e2 e3=>?_⟩,fun y c e=>?_,I.free,I.freeC,fun p hp=>?_,tracked ⟨oL,RP,I.free⟩ hs,by simpa using I.len⟩ ⟨_,hs,.inl rfl⟩
   . exact(hs.2 b (qc4 (qa8 (qa9 e) I.ok.above))).trans (I.base.keep b o e n hb hx)
   . obtain⟨sl,e1⟩:=I.base.slot b o e n hb hx;exact⟨sl,(hs.2 b (qc4 (qa8 (qa9 e) I.ok.above))).trans e1⟩
   . obtain⟨o',e1⟩:=I.base.there b o e hx;exact⟨o',(hs.2 b (qc4 (qa8 (qa9 e) I.ok.above))).trans e1⟩
   . by_cases hj:j=i
     . subst hj;rw[hi]at e1;cases e1;rw[List.getElem?_set_self PM]at e2;cases e2;exact⟨u,r,.inl ⟨hk,by simp⟩⟩
     . rw[ql4 (Ne.symm hj)]at e2;obtain⟨u',r',q⟩:=hl j y v' e1 e2 e3;refine⟨u',r',?_⟩;rcases q with⟨k,e⟩|⟨k,c,e,z⟩
       . refine .inl ⟨k,?_⟩;have:y≠x:=fun e=>hj (W4 hN e1 (e▸hi));simp[this,e]
       . exact .inr ⟨k,c,e,z.sameBut hs (cne y c e)⟩
   . obtain⟨w',z⟩:=I.cell y c e;exact⟨w',z.sameBut hs (cne y c e)⟩
   . obtain⟨e,n,ne,nf,d⟩:=I.pin p hp;exact⟨(hs.2 p.1 ne).trans e,n,ne,nf,d⟩
 . have hfn:X.fn x=true:=by
    rcases hf with z | z
    . exact z
    . rw[z]at hk;cases hk
   obtain⟨c,hc⟩:=I.ok.has x (.inl hk);obtain⟨w',z⟩:=I.cell x c hc;refine wpAny_storeName_cell I.ok.kind hk hc z (fun h' hc' hs=>?_);obtain⟨oc,hoc,nG⟩:=id z;refine h { s with heap:=h' } ⟨I.ok,I.os,I.bare,⟨fun b o e n hb hx=>?_,fun b o e n hb hx=>?_,I.base.free,fun b o e hx=>?_,I.base.tups,I.base.frzs,I.base.tbls⟩,⟨m,hn.sameBut hs (Ne.symm (cne x c hc)),fun j y v' e1 e2 e3=>?_⟩,fun y c' e=>?_,I.free,I.freeC,fun p hp=>?_,tracked ⟨oc,hoc,I.freeC x c hc⟩ hs,by simpa using I.len⟩ ⟨c,hs,.inr hc⟩
   . exact(hs.2 b (qc4 (qa8 (qa9 e) (I.ok.cab x c hfn hc)))).trans (I.base.keep b o e n hb hx)
   . obtain⟨sl,e1⟩:=I.base.slot b o e n hb hx;exact⟨sl,(hs.2 b (qc4 (qa8 (qa9 e) (I.ok.cab x c hfn hc)))).trans e1⟩
   . obtain⟨o',e1⟩:=I.base.there b o e hx;exact⟨o',(hs.2 b (qc4 (qa8 (qa9 e) (I.ok.cab x c hfn hc)))).trans e1⟩
   . by_cases hj:j=i
     . subst hj;rw[hi]at e1;cases e1;rw[List.getElem?_set_self PM]at e2;cases e2;exact⟨u,r,.inr ⟨.inl hk,c,hc,hc'⟩⟩
     . rw[ql4 (Ne.symm hj)]at e2;obtain⟨u',r',q⟩:=hl j y v' e1 e2 e3;refine⟨u',r',?_⟩;rcases q with q|⟨k,c',e,z'⟩
       . exact .inl q
       . refine .inr ⟨k,c',e,z'.sameBut hs ?_⟩;rintro rfl;exact hj (W4 hN e1 (I.ok.inj _ _ _ e hc▸hi))
   . by_cases hcc:c'=c
     . subst hcc;exact⟨_,hc'⟩
     . obtain⟨w2,z2⟩:=I.cell y c' e;exact⟨w2,z2.sameBut hs hcc⟩
   . obtain⟨e,n,ne,nf,d⟩:=I.pin p hp;refine⟨(hs.2 p.1 ?_).trans e,n,ne,nf,d⟩;intro q;rw[q,hoc]at e;have q':oc=p.2:=qe6 e;exact d w' (by rw[←q'];exact nG)
theorem We{M:Model}{A:Around}{E:Value->Shared->Prop}{i:Nat}{x:Str}{v:V}{u:Value}{Q:Unit->Shared->Prop}(I:Bk X Ac σ H s)(hN:X.N.Nodup)(hi:X.N[i]?=some x)(hx:iE X.env.scope x)(r:RelV v u)
 (h:∀s',Bk X Ac (σ.set i (some v)) H s'->Q () s') (hf:X.fn x=true\/X.env.scope.names.lookup x=some .local:=by first | exact .inl rfl | exact .inr rfl | assumption):wpAny M A (storeName X.env x u) Q E s :=
 Tb I hN hi hx r (fun s' I' _=>h s' I') hf
theorem Bk.call'{s':Shared}{ch:List Addr}(I:Bk X Ac σ H s)(ho:s'.os=s.os)(u:Un (aS X.stack) ch H H' s.heap s'.heap)(hok:Pw X.prog X.w H' s'.heap)(hg:AllBare s'.gens)
 (hch:∀b∈ch,(b∈X.ex\/X.s₀.heap.objs.size<=b)/\b≠X.env.locals/\(∀x c,X.env.cells.lookup x=some c->c≠b)/\∀p∈X.pn++Ac,p.1≠b):Bk X Ac σ H' s':=by
 obtain⟨h',g',d',t',o'⟩:=s';have e:o'=s.os:=ho;subst e;exact I.call (g':=g') (t':=t') (d':=d') u hok hg hch
end
noncomputable abbrev XK:=Value->OAddr->Hp->Prop
noncomputable abbrev St:=List (Option V)
noncomputable abbrev VK:=V->Hp->Prop
noncomputable abbrev TE:=St->Hp->VK->Prop
noncomputable abbrev TT:=St->Hp->(Bool->Hp->Prop)->Prop
noncomputable abbrev TA:=St->Hp->(List V->Hp->Prop)->Prop
structure Ends where
 nx:St->Hp->Prop
 rt:VK
 bk:St->Hp->Prop:=fun _ _=>False
 ct:St->Hp->Prop:=fun _ _=>False
noncomputable abbrev TS:=Ends->St->Hp->Prop
noncomputable def EP(X:Cx)(Ac:Bj)(σ:St)(Q:VK)(u:Value)(s':Shared):Prop:=∃v H',Bk X Ac σ H' s'/\RelV v u/\Q v H'
noncomputable def TP(X:Cx)(Ac:Bj)(σ:St)(Q:Bool->Hp->Prop)(b:Bool)(s':Shared):Prop:=∃H',Bk X Ac σ H' s'/\Q b H'
noncomputable def AP(X:Cx)(Ac:Bj)(σ:St)(Q:List V->Hp->Prop)(us:List Value)(s':Shared):Prop:=∃vs H',Bk X Ac σ H' s'/\Bt vs us/\Q vs H'
noncomputable def SP(X:Cx)(Ac:Bj)(D:Ends)(f:Flow)(s':Shared):Prop :=
 match f with
 | .next=>∃σ' H',Bk X Ac σ' H' s'/\D.nx σ' H'
 | .brk=>∃σ' H',Bk X Ac σ' H' s'/\D.bk σ' H'
 | .cont=>∃σ' H',Bk X Ac σ' H' s'/\D.ct σ' H'
 | .ret u=>∃v σ' H',Bk X Ac σ' H' s'/\RelV v u/\D.rt v H'
noncomputable def PE(X:Cx)(e:Expr)(t:TE):Prop :=
 ∀(Ac:Bj) (s:Shared) (σ:St) (H:Hp) (Q:VK),Bk X Ac σ H s->t σ H Q->wpAny (model X.prog X.w) X.A (eval e X.env) (EP X Ac σ Q) X.xe s
noncomputable def PT(X:Cx)(e:Expr)(t:TT):Prop :=
 ∀(Ac:Bj) (s:Shared) (σ:St) (H:Hp) (Q:Bool->Hp->Prop),Bk X Ac σ H s->t σ H Q->wpAny (model X.prog X.w) X.A (isTrue e X.env (eval e X.env)) (TP X Ac σ Q) X.xe s
noncomputable def PW(X:Cx)(e:Expr)(t:TT):Prop :=
 ∀(whole:Sem Value) (Ac:Bj) (s:Shared) (σ:St) (H:Hp) (Q:Bool->Hp->Prop),Bk X Ac σ H s->t σ H Q->wpAny (model X.prog X.w) X.A (isTrue e X.env whole) (TP X Ac σ Q) X.xe s
theorem PW.pt{X:Cx}{e:Expr}{t:TT}(h:PW X e t):PT X e t:=h _
noncomputable def PA(X:Cx)(es:List Expr)(t:TA):Prop :=
 ∀(pos:Pos) (Ac:Bj) (s:Shared) (σ:St) (H:Hp) (Q:List V->Hp->Prop),Bk X Ac σ H s->t σ H Q->wpAny (model X.prog X.w) X.A (spliced (backTo pos (starEach es X.env))) (AP X Ac σ Q) X.xe s
noncomputable def PS(X:Cx)(st:Stmt)(t:TS):Prop :=
 ∀(Ac:Bj) (s:Shared) (σ:St) (H:Hp) (D:Ends),Bk X Ac σ H s->t D σ H->wpAny (model X.prog X.w) X.A (exec st X.env) (SP X Ac D) X.xe s
noncomputable def aQ(X:Cx)(st:List Stmt)(t:TS):Prop :=
 ∀(Ac:Bj) (s:Shared) (σ:St) (H:Hp) (D:Ends),Bk X Ac σ H s->t D σ H->wpAny (model X.prog X.w) X.A (execs st X.env) (SP X Ac D) X.xe s
theorem Dn{α:Type}{t:Sem α}{Q Q':α->Shared->Prop}{M:Model}{A:Around}{E:Value->Shared->Prop}{s:Shared}(h:wpAny M A t Q E s)(hQ:∀a s,Q a s->Q' a s):wpAny M A t Q' E s:=qk3 h hQ fun _ _ x=>x
section
variable{X:Cx}
theorem uH{a b:Expr}{ta tb:TE}(ha:PE X a ta)(hb:PE X b tb){Ac:Bj}{s:Shared}{σ:St}{H:Hp}{R:V->V->Hp->Prop}(I:Bk X Ac σ H s)(h:ta σ H fun x H1=>tb σ H1 fun y H2=>R x y H2)
 {α:Type}{Q:α->Shared->Prop}{f:Value->Value->Sem α}
 (hf:∀v u s2 x y H2,Bk X Ac σ H2 s2->RelV x v->RelV y u->R x y H2->wpAny (model X.prog X.w) X.A (f v u) Q X.xe s2) :
 wpAny (model X.prog X.w) X.A (eval a X.env) (fun v s₁=>wpAny (model X.prog X.w) X.A (eval b X.env) (fun u s₂=>wpAny (model X.prog X.w) X.A (f v u) Q X.xe s₂) X.xe s₁) X.xe s:=by
 refine Dn (ha Ac s σ H _ I h) fun v s1 _z=>?_;obtain⟨x,H1,I1,r1,q1⟩:=_z;refine Dn (hb Ac s1 σ H1 _ I1 q1) fun u s2 _z=>?_;obtain⟨y,H2,I2,r2,q2⟩:=_z;exact hf v u s2 x y H2 I2 r1 r2 q2
noncomputable def jC(i:Nat):TE:=fun σ H Q=>∃v,σ[i]?=some (some v)/\Q v H
noncomputable def tC(v:V):TE:=fun _ H Q=>Q v H
theorem gO{i:Nat}{x:Str}{pos:Pos}(hN:X.N[i]?=some x)(hv:MB X.env.scope x)(hd:(x==("__debug__":Str))=false:=by decide)(hcd:(x==("__classdict__":Str))=false:=by decide):PE X (.Name x pos) (jC i):=by
 intro Ac s σ H Q I h;obtain⟨v,e,h⟩:=h;obtain⟨m,hn,hl⟩:=I.loc;obtain⟨u,r,l⟩:=hl i x v hN e hv;have fin:EP X Ac σ Q u s:=⟨v,H,I,r,h⟩
 rcases l with⟨hk,hm⟩|⟨hk,c,hc,hcell⟩
 . exact wpAny_Name (wpAny_loadName_local I.ok.kind hk hn hm fin) hd
 . rcases hk with hk | hk
   . exact wpAny_Name (wpAny_loadName_cell I.ok.kind hk hc hcell fin) hd
   . exact wpAny_Name (wpAny_loadName_free I.ok.kind hk hc hcell fin hcd) hd
theorem An{i j pos}:PE X (.Constant (.int i) j pos) (tC (.int i)):=fun _ _ _ H _ I h=>wpAny_Constant_int ⟨.int i,H,I.tok _,⟨_,rfl⟩,h⟩
theorem Kc{b j pos}:PE X (.Constant (.bool b) j pos) (tC (.bl b)):=fun _ _ _ H _ I h=>Constant_bool ⟨.bl b,H,I,rfl,h⟩
theorem Q0{j pos}:PE X (.Constant .none j pos) (tC .non):=fun _ _ _ H _ I h=>Constant_none ⟨.non,H,I,rfl,h⟩
theorem Eh{x j pos}:PE X (.Constant (.str x) j pos) (tC (.str x)):=fun _ _ _ H _ I h=>Calls.Constant_str ⟨.str x,H,I.tok _,⟨_,rfl⟩,h⟩
noncomputable def Gl(X:Cx)(x:Str):Prop:=X.env.kindOf x=some .globalImplicit
theorem Pz{E:Value->Shared->Prop}{Ac:Bj}{s:Shared}{σ:St}{H:Hp}{x:Str}{u:Value}{pos:Pos}{Q:Value->Shared->Prop}(I:Bk X Ac σ H s)(hg:Gl X x)(hm:X.mg x=some u)(h:Q u s)
 (hd:(x==("__debug__":Str))=false:=by decide):wpAny (model X.prog X.w) X.A (eval (.Name x pos) X.env) Q E s :=
 Calls.Name_function_global I.ok.kind hg (Calls.loadGlobal_global (by rw[I.ok.glob];exact I.mod.glob.keeps I.bk) hm h) hd
theorem Jd{E:Value->Shared->Prop}{Ac:Bj}{s:Shared}{σ:St}{H:Hp}{x:Str}{u:Value}{pos:Pos}{Q:Value->Shared->Prop}(I:Bk X Ac σ H s)(hg:Gl X x)(hm:X.mg x=none)(hv:bootBuiltins x=some u)(h:Q u s)
 (hn:x≠"__name__":=by decide) (hd:(x==("__debug__":Str))=false:=by decide):wpAny (model X.prog X.w) X.A (eval (.Name x pos) X.env) Q E s:=by
 obtain⟨mb,h1,h2⟩:=I.mod.blt;exact Calls.Name_function_global I.ok.kind hg (Calls.loadGlobal_builtin (by rw[I.ok.glob];exact I.mod.glob.keeps I.bk) hm (by rw[I.ok.blt];exact h1.keeps I.bk) ((h2 x hn).trans hv) h) hd
theorem Z2{x:Str}{v:V}{u:Value}{pos:Pos}(hg:Gl X x)(hm:X.mg x=some u)(r:RelV v u)(hd:(x==("__debug__":Str))=false:=by decide):PE X (.Name x pos) (tC v) :=
 fun _ _ _ H _ I h=>Pz I hg hm ⟨v,H,I,r,h⟩ hd
theorem Hd{x:Str}{v:V}{u:Value}{pos:Pos}(hg:Gl X x)(hm:X.mg x=none)(hv:bootBuiltins x=some u)(r:RelV v u)(hn:x≠"__name__":=by decide)(hd:(x==("__debug__":Str))=false:=by decide):PE X (.Name x pos) (tC v) :=
 fun _ _ _ H _ I h=>Jd I hg hm hv ⟨v,H,I,r,h⟩ hn hd
variable{a b:Expr}{ta tb:TE}{pos:Pos}
noncomputable def PC(X:Cx)(op:CmpOp)(a b:Expr)(t:TE):Prop :=
 ∀(Ac:Bj) (s:Shared) (σ:St) (H:Hp) (Q:VK),Bk X Ac σ H s->t σ H Q →
   wpAny (model X.prog X.w) X.A (eval a X.env) (fun v s₁=>wpAny (model X.prog X.w) X.A (eval b X.env) (fun u s₂=>wpAny (model X.prog X.w) X.A (compareOp op v u) (EP X Ac σ Q) X.xe s₂) X.xe s₁) X.xe s
theorem BP(b:Expr){op:CmpOp}(h:op≠.In)(h2:op≠.NotIn):behindInMarks op b=false:=by
 have e1:(op==CmpOp.In)=false:=by cases op<;>first | rfl | exact absurd rfl h
 have e2:(op==CmpOp.NotIn)=false:=by cases op<;>first | rfl | exact absurd rfl h2
 cases b<;>simp[behindInMarks,e1,e2]
noncomputable def tB(t:TE):TT:=fun σ H Q=>t σ H fun x H1=>∃c,x=.bl c/\Q c H1
theorem MN{op:CmpOp}{t:TE}(h:PC X op a b t)(h1:behindInMarks op b=false:=by first | exact BP _ (by decide) (by decide) | rfl):PT X (.Compare a [op] [b] pos) (tB t):=by
 intro Ac s σ H Q I hw;refine wpAny_isTrue_Compare1 (Dn (h Ac s σ H _ I hw) fun v s1 h1=>Dn h1 fun u s2 h2=>Dn h2 fun c s3 _z=>?_) h1;obtain⟨x,H1,I1,r1,q1⟩:=_z;obtain⟨d,rfl,q⟩:=q1;cases r1;exact qi2 ⟨H1,I1,q⟩
theorem Fk{e:Expr}{t:TE}(h:PE X e t)(he:∀whole,isTrue e X.env whole=(do let v ←whole;standAt e.pos;holding [v] (truthy v)):=by intro _;rfl):PT X e (tB t):=by
 intro Ac s σ H Q I hw;refine isTrue_plain (Dn (h Ac s σ H _ I hw) fun v s1 _z=>?_) (he _);obtain⟨x,H1,I1,r1,q1⟩:=_z;obtain⟨d,rfl,q⟩:=q1;cases r1;exact qi2 ⟨H1,I1,q⟩
variable{tA lG:TT}{rest:List Expr}
noncomputable def MH(t u:TT):TT:=fun σ H Q=>t σ H fun c H1=>if c=true then u σ H1 Q else Q false H1
noncomputable def qK(t u:TT):TT:=fun σ H Q=>t σ H fun c H1=>if c=true then Q true H1 else u σ H1 Q
noncomputable def MG(t:TT):TT:=fun σ H Q=>t σ H fun c H1=>Q (!c) H1
theorem DN(ha:PT X a tA):PW X (.BoolOp .And [a] pos) tA:=by
 intro wh Ac s σ H Q I h;refine isTrue_and (Dn (ha Ac s σ H Q I h) fun c s1 e=>?_);cases c with
 | true=>exact isTrue_and_nil e
 | false=>exact e
theorem Ny(ha:PT X a tA):PW X (.BoolOp .Or [a] pos) tA:=by
 intro wh Ac s σ H Q I h;refine isTrue_or (Dn (ha Ac s σ H Q I h) fun c s1 e=>?_);cases c with
 | false=>exact isTrue_or_nil e
 | true=>exact e
theorem gK(ha:PT X a tA)(hb:PW X (.BoolOp .And (b::rest) pos) lG):PW X (.BoolOp .And (a::b::rest) pos) (MH tA lG):=by
 intro wh Ac s σ H Q I h;refine isTrue_and (Dn (ha Ac s σ H _ I h) fun c s1 _z=>?_);obtain⟨H1,I1,q1⟩:=_z;cases c with
 | true=>exact hb wh Ac s1 σ H1 Q I1 q1
 | false=>exact⟨H1,I1,q1⟩
theorem Tj(ha:PT X a tA)(hb:PW X (.BoolOp .Or (b::rest) pos) lG):PW X (.BoolOp .Or (a::b::rest) pos) (qK tA lG):=by
 intro wh Ac s σ H Q I h;refine isTrue_or (Dn (ha Ac s σ H _ I h) fun c s1 _z=>?_);obtain⟨H1,I1,q1⟩:=_z;cases c with
 | true=>exact⟨H1,I1,q1⟩
 | false=>exact hb wh Ac s1 σ H1 Q I1 q1
theorem Gw(ha:PT X a tA):PT X (.UnaryOp .Not a pos) (MG tA):=by
 intro Ac s σ H Q I h;exact isTrue_not (ha Ac s σ H (fun c H1=>Q (!c) H1) I h)
noncomputable def jG(ta tb:TE):TE:=fun σ H Q=>ta σ H fun x H1=>∃c,x=.bl c/\if c=true then tb σ H1 Q else Q (.bl false) H1
noncomputable def JD(ta:TE):TE:=fun σ H Q=>ta σ H fun x H1=>∃c,x=.bl c/\Q (.bl (!c)) H1
theorem Uw{op}{t:TE}(h:PE X a t):PE X (.BoolOp op [a] pos) t:=fun Ac s σ H Q I hw=>BoolOp_one (h Ac s σ H Q I hw)
theorem Q2(ha:PE X a ta)(hb:PE X (.BoolOp .And (b::rest) pos) tb):PE X (.BoolOp .And (a::b::rest) pos) (jG ta tb):=by
 intro Ac s σ H Q I h;refine BoolOp_and (Dn (ha Ac s σ H _ I h) fun v s1 _z=>?_);obtain⟨x,H1,I1,r1,q1⟩:=_z;obtain⟨c,rfl,q1⟩:=q1;cases r1;refine qi2 ?_;cases c with
 | true=>exact hb Ac s1 σ H1 Q I1 q1
 | false=>exact⟨.bl false,H1,I1,rfl,q1⟩
theorem BK(ha:PE X a ta):PE X (.UnaryOp .Not a pos) (JD ta):=by
 intro Ac s σ H Q I h;refine UnaryOp_ (Dn (ha Ac s σ H _ I h) fun v s1 _z=>?_);obtain⟨x,H1,I1,r1,q1⟩:=_z;obtain⟨c,rfl,q1⟩:=q1;cases r1;exact not_of (qi2 ⟨.bl (!c),H1,I1,rfl,q1⟩)
noncomputable def QK(t:TT)(ta tb:TE):TE:=fun σ H Q=>t σ H fun c H1=>if c=true then ta σ H1 Q else tb σ H1 Q
theorem Q1{c:Expr}(hc:PT X c tA)(ha:PE X a ta)(hb:PE X b tb):PE X (.IfExp c a b pos) (QK tA ta tb):=by
 intro Ac s σ H Q I h;refine wpAny_IfExp (Dn (hc Ac s σ H _ I h) fun d s1 _z=>?_);obtain⟨H1,I1,q1⟩:=_z;cases d with
 | true=>exact ha Ac s1 σ H1 Q I1 q1
 | false=>exact hb Ac s1 σ H1 Q I1 q1
end
noncomputable def SqL(K:W.Frag)(H:Hp)(a:Addr)(xs:List V):Prop :=
 Rd H a (.lst xs) ∨
  ∃(o:Obj) (its:Array Value) (n:Nat),K.lookup a=some o/\o.cls=.type "list"/\o.dict=none/\o.data=.seq its n/\its.size<=sizeLine/\Bt xs its.toList
noncomputable def Du(K:W.Frag)(H:Hp)(a:Addr)(xs:List V):Prop :=
 Rd H a (.tup xs) ∨
  ∃(o:Obj) (its:Array Value) (n:Nat),K.lookup a=some o/\o.cls=.type "tuple"/\o.dict=none/\o.data=.seq its n/\its.size<=sizeLine/\Bt xs its.toList
noncomputable def NZ:Value->Option V
 | .none=>some .non
 | .bool b=>some (.bl b)
 | .int i _=>some (.int i)
 | .str x _=>some (.str x)
 | .bytes b _=>some (.byt b)
 | .float b _=>some (.flt b)
 | .ref a=>some (.ref a)
 | .type n=>some (.ty n)
 | _=>none
theorem RelV.abs{x:V}{u:Value}(r:RelV x u):NZ u=some x:=by
 cases x with
 | non=>cases r;rfl
 | bl _=>cases r;rfl
 | int _=>obtain⟨t,rfl⟩:=r;rfl
 | str _=>obtain⟨t,rfl⟩:=r;rfl
 | byt _=>obtain⟨t,rfl⟩:=r;rfl
 | flt _=>obtain⟨t,rfl⟩:=r;rfl
 | ref _=>cases r;rfl
 | ty _=>cases r;rfl
theorem RelV.inj{x y:V}{u:Value}(r:RelV x u)(q:RelV y u):x=y:=qe6 (r.abs.symm.trans q.abs)
theorem Bt.inj:∀{xs ys:List V}{us:List Value},Bt xs us->Bt ys us->xs=ys
 | _,_,_,.nil,.nil=>rfl
 | _,_,_,.cons r t,.cons r' t'=>by rw[r.inj r',Bt.inj t t']
section
variable{X:Cx}{Ac:Bj}{σ:St}{H:Hp}{s:Shared}{a:Addr}{xs ys:List V}
theorem SqL.of{K:W.Frag}(h:H a=some (.lst xs)):SqL K H a xs:=.inl (.inl h)
theorem Du.of{K:W.Frag}(h:H a=some (.tup xs)):Du K H a xs:=.inl (.inl h)
theorem Bk.list(I:Bk X Ac σ H s)(h:SqL X.K H a xs):∃its:List Value,Bt xs its/\PlainL s.heap a its.toArray/\xs.length<=sizeLine:=by
 rcases h with h|⟨o,its,n,hk,hc,hd,hs,hz,r⟩
 . obtain⟨z,its,n,r,e⟩:=h.ok I.hok;exact⟨its,r,⟨_,n,e,rfl,rfl,rfl⟩,z⟩
 . refine⟨its.toList,r,⟨o,n,I.kIn a o hk,hc,hd,by simpa using hs⟩,?_⟩;have e:=r.length;simp only[Array.length_toList]at e;omega
theorem Bk.tuple(I:Bk X Ac σ H s)(h:Du X.K H a xs):∃its:List Value,Bt xs its/\IsTup s.heap a its.toArray/\xs.length<=sizeLine:=by
 rcases h with h|⟨o,its,n,hk,hc,_,hs,hz,r⟩
 . obtain⟨z,its,r,p⟩:=h.ok I.hok;exact⟨its,r,p.tup,z⟩
 . refine⟨its.toList,r,⟨o,I.kIn a o hk,hc,n,by simpa using hs⟩,?_⟩;have e:=r.length;simp only[Array.length_toList]at e;omega
theorem Bk.list_inj(I:Bk X Ac σ H s)(h:SqL X.K H a xs)(h':SqL X.K H a ys):xs=ys:=by
 obtain⟨its,r,⟨o,n,e,_,_,d⟩,_⟩:=I.list h;obtain⟨its',r',⟨o',n',e',_,_,d'⟩,_⟩:=I.list h';rw[e]at e';cases e';rw[d]at d';injection d' with d1 _;have:its=its':=by simpa using congrArg Array.toList d1
 subst this;exact r.inj r'
theorem Bk.tuple_inj(I:Bk X Ac σ H s)(h:Du X.K H a xs)(h':Du X.K H a ys):xs=ys:=by
 obtain⟨its,r,⟨o,e,_,n,d⟩,_⟩:=I.tuple h;obtain⟨its',r',⟨o',e',_,n',d'⟩,_⟩:=I.tuple h';rw[e]at e';cases e';rw[d]at d';injection d' with d1 _;have:its=its':=by simpa using congrArg Array.toList d1
 subst this;exact r.inj r'
end
noncomputable abbrev Cx.wish(X:Cx)(E:Value->Shared->Prop):Cx:={ X with xe:=E }
noncomputable abbrev Cx.nox(X:Cx):Cx:=X.wish fun _ _=>False
theorem Cx.Ok.wish{X:Cx}(ok:X.Ok)(E:Value->Shared->Prop):(X.wish E).Ok :=
 ⟨ok.mod,ok.kind,ok.glob,ok.blt,ok.above,ok.inj,ok.has,ok.cab,ok.hd,ok.frames,ok.stk,ok.exf,ok.bs,ok.bsz,ok.noex,ok.exfs,ok.funs,ok.frf⟩
theorem Cx.Ok.unwish{X:Cx}{E:Value->Shared->Prop}(ok:(X.wish E).Ok):X.Ok :=
 ⟨ok.mod,ok.kind,ok.glob,ok.blt,ok.above,ok.inj,ok.has,ok.cab,ok.hd,ok.frames,ok.stk,ok.exf,ok.bs,ok.bsz,ok.noex,ok.exfs,ok.funs,ok.frf⟩
section
variable{X:Cx}{Ac:Bj}{σ:St}{H:Hp}{s:Shared}{E:Value->Shared->Prop}
theorem Bk.wish(I:Bk X Ac σ H s)(E:Value->Shared->Prop):Bk (X.wish E) Ac σ H s:=⟨I.ok.wish E,I.os,I.bare,I.base,I.loc,I.cell,I.free,I.freeC,I.pin,I.hok,I.len⟩
theorem Bk.unwish(I:Bk (X.wish E) Ac σ H s):Bk X Ac σ H s:=⟨I.ok.unwish,I.os,I.bare,I.base,I.loc,I.cell,I.free,I.freeC,I.pin,I.hok,I.len⟩
theorem SP.unwish{D:Ends}{f:Flow}{s':Shared}(h:SP (X.wish E) Ac D f s'):SP X Ac D f s':=by
 cases f with
 | next=>obtain⟨σ',H',I,q⟩:=h;exact⟨σ',H',I.unwish,q⟩
 | brk=>obtain⟨σ',H',I,q⟩:=h;exact⟨σ',H',I.unwish,q⟩
 | cont=>obtain⟨σ',H',I,q⟩:=h;exact⟨σ',H',I.unwish,q⟩
 | ret u=>obtain⟨v,σ',H',I,r,q⟩:=h;exact⟨v,σ',H',I.unwish,r,q⟩
theorem aQ.nox{st:List Stmt}{t:TS}(h:aQ X.nox st t):aQ X st t:=fun Ac s σ H D I hw =>
 qk3 (h Ac s σ H D (I.wish _) hw) (fun _ _ q=>q.unwish) fun _ _ z=>False.elim z
end
section
variable{X:Cx}{st:Stmt}{rest:List Stmt}{t u:TS}{e:Expr}{te:TE}{pos:Pos}
noncomputable def jE:TS:=fun D σ H=>D.nx σ H
noncomputable def bC(t u:TS):TS:=fun D σ H=>t { D with nx:=u D } σ H
theorem Br:aQ X [] jE:=fun _ _ σ H _ I h=>qo7 ⟨σ,H,I,h⟩
theorem Af(h1:PS X st t)(h2:aQ X rest u):aQ X (st::rest) (bC t u):=by
 intro Ac s σ H D I h;refine wpAny_execs_cons (Dn (h1 Ac s σ H { D with nx:=u D } I h) fun f s1 q=>?_);cases f with
 | next =>
   obtain⟨σ',H',I',q⟩:=q;exact h2 Ac s1 σ' H' D I' q
 | ret v=>exact q
 | brk=>exact q
 | cont=>exact q
theorem Ak(h1:PS X st t):aQ X [st] t:=by
 intro Ac s σ H D I h;refine wpAny_execs_cons (Dn (h1 Ac s σ H D I h) fun f s1 q=>?_);cases f with
 | next=>exact qo7 q
 | ret v=>exact q
 | brk=>exact q
 | cont=>exact q
theorem Bk.quiet{Ac:Bj}{σ:St}{H:Hp}{s:Shared}(I:Bk X Ac σ H s):interactive X.env=false:=by simp[interactive,I.ok.kind]
noncomputable def JE(te:TE):TS:=fun D σ H=>te σ H fun _ H1=>D.nx σ H1
theorem Bw(he:PE X e te)(hs:swapsWith e none pos.line X.env=pure false:=by rfl):PS X (.Expr e pos) (JE te):=by
 intro Ac s σ H D I h;exact wpAny_Expr_any (Dn (he Ac s σ H _ I h) fun v s1 ⟨x,H1,I1,r1,q1⟩=>⟨σ,H1,I1,q1⟩) I.quiet hs
noncomputable def mG(te:TE):TS:=fun D σ H=>te σ H D.rt
theorem Bh(he:PE X e te):PS X (.Return (some e) pos) (mG te):=by
 intro Ac s σ H D I h;exact wpAny_Return_some (Dn (he Ac s σ H _ I h) fun v s1 ⟨x,H1,I1,r1,q1⟩=>⟨x,σ,H1,I1,r1,q1⟩)
noncomputable def P6(c:TT)(t u:TS):TS:=fun D σ H=>c σ H fun b H1=>if b=true then t D σ H1 else u D σ H1
theorem Ci{c:Expr}{a b:List Stmt}{tc:TT}(hc:PT X c tc)(ha:aQ X a t)(hb:aQ X b u):PS X (.If c a b pos) (P6 tc t u):=by
 intro Ac s σ H D I h;refine wpAny_If (Dn (hc Ac s σ H _ I h) fun d s1 _z=>?_);obtain⟨H1,I1,q1⟩:=_z;cases d with
 | true=>exact ha Ac s1 σ H1 D I1 q1
 | false=>exact hb Ac s1 σ H1 D I1 q1
noncomputable def gG:TS:=fun _ _ _=>False
theorem Ws:PS X st gG:=fun _ _ _ _ _ _ h=>h.elim
end
noncomputable abbrev TG:=V->St->Hp->(St->Hp->Prop)->Prop
noncomputable abbrev fZ:=List V->St->Hp->(St->Hp->Prop)->Prop
noncomputable def PG(X:Cx)(target:Expr)(t:TG):Prop :=
 ∀(Ac:Bj) (s:Shared) (σ:St) (H:Hp) (v:V) (u:Value) (Q:St->Hp->Prop),Bk X Ac σ H s->RelV v u->t v σ H Q →
   wpAny (model X.prog X.w) X.A (assign target X.env u) (fun _ s'=>∃σ' H',Bk X Ac σ' H' s'/\Q σ' H') X.xe s
noncomputable def kX(X:Cx)(ts:List Expr)(t:fZ):Prop :=
 ∀(Ac:Bj) (s:Shared) (σ:St) (H:Hp) (vs:List V) (us:List Value) (Q:St->Hp->Prop),Bk X Ac σ H s->Bt vs us->t vs σ H Q →
   wpAny (model X.prog X.w) X.A (assignInOrder ((assignEach ts X.env).map (·.2)) us) (fun _ s'=>∃σ' H',Bk X Ac σ' H' s'/\Q σ' H') X.xe s
noncomputable abbrev iC:=V->V->V->Hp->(Hp->Prop)->Prop
noncomputable def KW(X:Cx)(t:iC):Prop :=
 ∀(Ac:Bj) (s:Shared) (σ:St) (H:Hp) (o i v:V) (ov iv u:Value) (Q:Hp->Prop),Bk X Ac σ H s->RelV o ov->RelV i iv->RelV v u->t o i v H Q →
   wpAny (model X.prog X.w) X.A (setItem ov iv u) (fun _ s'=>∃H',Bk X Ac σ H' s'/\Q H') X.xe s
section
variable{X:Cx}{pos:Pos}
noncomputable def Rp(i:Nat):TG:=fun v σ H Q=>Q (σ.set i (some v)) H
theorem DR{i:Nat}{x:Str}(hN:X.N.Nodup)(hi:X.N[i]?=some x)(hx:iE X.env.scope x)(hf:X.fn x=true\/X.env.scope.names.lookup x=some .local:=by first | exact .inl rfl | exact .inr rfl | assumption):PG X (.Name x pos) (Rp i):=by
 intro Ac s σ H v u Q I r h;exact wpAny_assign_Name (We I hN hi hx r (fun s' I'=>⟨_,H,I',h⟩) hf)
theorem Ax{i:Nat}{x:Str}(hN:X.N.Nodup)(hi:X.N[i]?=some x:=by rfl)(hx:iE X.env.scope x:=by first | exact Or.inl rfl | exact Or.inr rfl)(hf:X.fn x=true\/X.env.scope.names.lookup x=some .local:=by first | exact .inl rfl | exact .inr rfl | assumption):PG X (.Name x pos) (Rp i):=DR hN hi hx hf
noncomputable def nW:fZ:=fun vs σ H Q=>vs=[]/\Q σ H
noncomputable def KL(t:TG)(u:fZ):fZ:=fun vs σ H Q=>∃v r,vs=v::r/\t v σ H fun σ' H'=>u r σ' H' Q
theorem Fq:kX X [] nW:=by
 intro Ac s σ H vs us Q I r h;obtain⟨e,h⟩:=h;subst e;cases r;exact assignInOrder_nil ⟨σ,H,I,h⟩
theorem Cc{e:Expr}{es:List Expr}{t:TG}{u:fZ}(h1:PG X e t)(h2:kX X es u)
 (hs:(assignEach (e::es) X.env).map (·.2)=assign e X.env::(assignEach es X.env).map (·.2):=by rfl):kX X (e::es) (KL t u):=by
 intro Ac s σ H vs us Q I r h;obtain⟨v,vr,e1,h⟩:=h;subst e1;cases r with
 | cons r rr =>
   rw[hs];refine assignInOrder_cons (Dn (h1 Ac s σ H _ _ _ I r h) fun _ s1 _z=>?_);obtain⟨σ1,H1,I1,q1⟩:=_z;exact h2 Ac s1 σ1 H1 _ _ Q I1 rr q1
noncomputable def kL(K:W.Frag)(n:Nat)(t:fZ):TG:=fun v σ H Q=>∃a xs,v=.ref a/\Du K H a xs/\xs.length=n/\t xs σ H Q
theorem GN{es:List Expr}{k:Nat}{t:fZ}{n:Nat}(hc:X.calm=true)(h:kX X es t)
 (hn:(assignEach es X.env).length=n:=by rfl) (hst:(assignEach es X.env).findIdx? (·.1)=none:=by rfl):PG X (.Tuple es k pos) (kL X.K n t):=by
 intro Ac s σ H v u Q I r hw;obtain⟨a,xs,e1,hq,hl,hw⟩:=hw;subst e1;cases r;obtain⟨its,rv,ht,hz⟩:=I.tuple hq;refine assign_Tuple_tuple (I.ok.hd hc) ht (by simp[hn,←hl,rv.length]) hst fun h' hx=>?_;have I1:Bk X Ac σ H { s with heap:=h' }:=I.kept (t':=s.toks) fun b o e=>hx b o (qc4 (qa9 e)) e;exact h Ac _ σ H xs _ Q I1 (by simpa using rv) hw
noncomputable def NV(to ti:TE)(t:iC):TG:=fun v σ H Q=>to σ H fun o H1=>ti σ H1 fun i H2=>t o i v H2 fun H3=>Q σ H3
theorem De{o i:Expr}{to ti:TE}{t:iC}(ho:PE X o to)(hi:PE X i ti)(hs:KW X t)
 (ha:∀v,assign (.Subscript o i pos) X.env v=(do
   let ov ←holding [v] (eval o X.env)
   let iv ←holding [v,ov] (eval i X.env)
   standAt pos
   holding [v,ov,iv] (setItem ov iv v)
   release [v,ov,iv] []):=by intro _;rfl):PG X (.Subscript o i pos) (NV to ti t):=by
 intro Ac s σ H v u Q I r h;rw[ha];refine qa6 (wpAny_holding (Dn (ho Ac s σ H _ I h) fun ov s1 _z=>?_));obtain⟨x,H1,I1,r1,q1⟩:=_z;refine qa6 (wpAny_holding (Dn (hi Ac s1 σ H1 _ I1 q1) fun iv s2 _z=>?_));obtain⟨y,H2,I2,r2,q2⟩:=_z;refine qa6 (wpAny_standAt (qa6 (wpAny_holding (Dn (hs Ac s2 σ H2 x y v ov iv u _ I2 r1 r2 r q2) fun _ s3 _z=>?_))));obtain⟨H3,I3,q3⟩:=_z;exact wpAny_release ⟨σ,H3,I3,q3⟩
noncomputable def dH(te:TE)(g:TG):TS:=fun D σ H=>te σ H fun x H1=>g x σ H1 D.nx
theorem C8{tg e:Expr}{te:TE}{g:TG}(he:PE X e te)(hg:PG X tg g)(hs:swapsWithSole [tg] e pos.line X.env=pure false:=by rfl)(hw:swappedStores [tg] e X.env=pure none:=by rfl)
 (h1:(assignEach [tg] X.env).map (·.2)=[assign tg X.env]:=by rfl):PS X (.Assign [tg] e pos) (dH te g):=by
 intro Ac s σ H D I h;refine wpAny_Assign_stores (Dn (he Ac s σ H _ I h) fun v s1 _z=>?_) hs hw;obtain⟨x,H1,I1,r1,q1⟩:=_z;rw[h1];exact Dn (hg Ac s1 σ H1 x v _ I1 r1 q1) fun _ s2 q=>q
theorem GK{i:Nat}{x:Str}{e:Expr}{te:TE}{pos':Pos}(hN:X.N.Nodup)(hi:X.N[i]?=some x)(hx:iE X.env.scope x)(he:PE X e te)(hs:swapsWith e (some (.Name x pos')) pos.line X.env=pure false:=by rfl)(hf:X.fn x=true\/X.env.scope.names.lookup x=some .local:=by first | exact .inl rfl | exact .inr rfl | assumption) :
 PS X (.Assign [.Name x pos'] e pos) (dH te (Rp i)):=by
 intro Ac s σ H D I h;refine wpAny_Assign_Name (Dn (he Ac s σ H _ I h) fun v s1 _z=>?_) hs;obtain⟨y,H1,I1,r1,q1⟩:=_z;exact We I1 hN hi hx r1 (fun s2 I2=>⟨_,H1,I2,q1⟩) hf
theorem Au{i:Nat}{x:Str}{e:Expr}{te:TE}{pos':Pos}(hN:X.N.Nodup)(he:PE X e te)(hi:X.N[i]?=some x:=by rfl)(hx:iE X.env.scope x:=by first | exact Or.inl rfl | exact Or.inr rfl)(hs:swapsWith e (some (.Name x pos')) pos.line X.env=pure false:=by rfl)(hf:X.fn x=true\/X.env.scope.names.lookup x=some .local:=by first | exact .inl rfl | exact .inr rfl | assumption):PS X (.Assign [.Name x pos'] e pos) (dH te (Rp i)):=GK hN hi hx he hs hf
end
section
variable{X:Cx}{pos:Pos}
noncomputable def gF(c:TT)(tb:TS):TS:=fun D σ H=>∃W:Nat->St->Hp->Prop,(∃m,W m σ H)/\∀m σ H,W m σ H →
 c σ H fun b H1=>if b=true then ∃N:St->Hp->Prop,(∀σ' H',N σ' H'->∃m',m'<m/\W m' σ' H')/\tb { D with nx:=N,ct:=N,bk:=D.nx } σ H1 else D.nx σ H1
theorem Ms{c:Expr}{body:List Stmt}{tc:TT}{tb:TS}(hp:PassesOwn (model X.prog X.w) X.A X.env X.xe)(hc:PT X c tc)(hb:aQ X body tb):PS X (.While c body [] pos) (gF tc tb):=by
 intro Ac s σ H D I h;obtain⟨W,⟨m0,w0⟩,turn⟩:=h;refine wpAny_While (codeAny_whileLoop (fun n s'=>∃σ' H',Bk X Ac σ' H' s'/\W n σ' H') ?_ m0 ⟨σ,H,I,w0⟩);rintro n s1 ⟨σ1,H1,I1,w1⟩;refine qj1 hp (Dn (hc Ac s1 σ1 H1 _ I1 (turn n σ1 H1 w1)) fun b s2 _z=>?_);obtain⟨H2,I2,q2⟩:=_z;cases b with
 | true =>
   obtain⟨N,hN,q2⟩:=q2;rw[if_pos rfl];refine qj1 hp (Dn (hb Ac s2 σ1 H2 _ I2 q2) fun f s3 q3=>?_);cases f with
   | next =>
     obtain⟨σ3,H3,I3,n3⟩:=q3;obtain⟨m',hm,w3⟩:=hN σ3 H3 n3;exact⟨m',hm,σ3,H3,I3,w3⟩
   | cont =>
     obtain⟨σ3,H3,I3,n3⟩:=q3;obtain⟨m',hm,w3⟩:=hN σ3 H3 n3;exact⟨m',hm,σ3,H3,I3,w3⟩
   | brk=>exact q3
   | ret v=>exact q3
 | false =>
   rw[if_neg qc0];exact qo7 ⟨σ1,H2,I2,q2⟩
end
structure It where
 go:Nat->Hp->Prop
 yld:Nat->Hp->V->Hp->Prop
 stop:Nat->Hp->Prop
noncomputable def Lg(X:Cx)(Ac:Bj)(H:Hp)(b:Addr):Prop :=
 H b=none/\b≠X.env.locals/\b ∉ X.fs/\(b∈X.ex\/X.s₀.heap.objs.size<=b)/\(∀x c,X.env.cells.lookup x=some c->c≠b)/\∀p∈X.pn++Ac,p.1≠b
theorem Bk.fpOk{X:Cx}{Ac:Bj}{σ:St}{H H':Hp}{s:Shared}{b:Addr}(I:Bk X Ac σ H s)(hb:s.heap.objs.size<=b)(hn:H' b=none):Lg X Ac H' b:=by
 refine⟨hn,qm4 (qa8 I.lt hb),I.nofs hb,.inr (qa1 I.sz hb),fun x c e z=>?_,fun p hp z=>?_⟩
 . obtain⟨v,q⟩:=I.cell x c e;exact absurd (qa8 q.lt (by rw[z];exact hb)) (qk1 _)
 . exact absurd (qa8 (qa9 (I.pin p hp).1) (by rw[z];exact hb)) (qk1 _)
structure S3(P:Program)(w:World)(K:W.Frag)(tg:Expr)(J:It)(fp:List Addr)(it:Addr)(tn:Nat->Heap->Prop):Prop where
 mem:it∈fp
 obj:∀i h,tn i h->∀b∈fp,∃o,h.get? b=some o/\∀v,o.data≠.cell v
 keep:∀i h h',tn i h->(∀b∈fp,∀o,h.get? b=some o->h'.get? b=some o)->tn i h'
 item:∀(X:Cx),X.prog=P->X.w=w->X.K=K->X.calm=true->∀(i:Nat) (Ac:Bj) (s:Shared) (σ:St) (H:Hp) (E:Value->Shared->Prop),Bk X Ac σ H s->(∀b∈fp,Lg X Ac H b)->tn i s.heap->J.go i H →
  wpAny (model P w) X.A (pyNext (.ref it)) (fun r s1=>∃u,r=some u ∧
   wpAny (model P w) X.A (letOwnedTupleGo tg (.ref it) u) (fun _ s2=>∃x H',Bk X Ac σ H' s2/\RelV x u/\J.yld i H x H'/\tn (i+1) s2.heap/\∀b∈fp,H' b=none) E s1) E s
 done:∀(X:Cx),X.prog=P->X.w=w->X.K=K->X.calm=true->∀(i:Nat) (Ac:Bj) (s:Shared) (σ:St) (H:Hp) (E:Value->Shared->Prop),Bk X Ac σ H s->(∀b∈fp,Lg X Ac H b)->tn i s.heap->J.stop i H →
  wpAny (model P w) X.A (pyNext (.ref it)) (fun r s1=>r=none/\Bk X Ac σ H s1) E s
 self:∀(A:Around) (i:Nat) (s:Shared) (Q:Value->Shared->Prop) (E:Value->Shared->Prop),tn i s.heap->Q (.ref it) s->wpAny (model P w) A (pyIter (.ref it)) Q E s
noncomputable abbrev TI:=St->Hp->(It->Hp->Prop)->Prop
noncomputable def qD(X:Cx)(Ac:Bj)(σ:St)(tg:Expr)(R:It->Hp->Prop)(itv:Value)(s2:Shared):Prop :=
 ∃(it:Addr) (fp:List Addr) (tn:Nat->Heap->Prop) (J:It) (H':Hp),itv=.ref it/\Bk X Ac σ H' s2/\S3 X.prog X.w X.K tg J fp it tn/\tn 0 s2.heap/\(∀b∈fp,Lg X Ac H' b)/\R J H'
noncomputable def PI(X:Cx)(tg iter:Expr)(wi:TI):Prop :=
 ∀(Ac:Bj) (s:Shared) (σ:St) (H:Hp) (R:It->Hp->Prop),Bk X Ac σ H s->wi σ H R →
   wpAny (model X.prog X.w) X.A (eval iter X.env) (fun v s1=>wpAny (model X.prog X.w) X.A (pyIter v) (qD X Ac σ tg R) X.xe s1) X.xe s
theorem b8{M:Model}{A:Around}{E:Value->Shared->Prop}{s:Shared}{tg:Expr}{it:Addr}{u:Value}{o:Obj}{n:String}{vs:Array Value}{Q:Unit->Shared->Prop}(ho:s.heap.get? it=some o)(hc:o.cls=.type n)(hd:o.data=.fields vs)
 (hn:["enumerate","zip","dict_itemiterator","dict_reverseitemiterator","odict_iterator","itertools.zip_longest","itertools.pairwise"].contains n=false) (hQ:Q () s):wpAny M A (letOwnedTupleGo tg (.ref it) u) Q E s:=by
 unfold letOwnedTupleGo
 cases tg<;>first
  | exact qd8 hQ
  | (cases u<;>first
      | exact qd8 hQ
      | (refine qa6 (wpAny_load ho ?_)
         rw[hc,hd];show wpAny M A (if (["enumerate","zip","dict_itemiterator","dict_reverseitemiterator","odict_iterator","itertools.zip_longest","itertools.pairwise"].contains n&&vs[0]?==some (rawInt _))=true then _ else _) Q E s;rw[if_neg (by intro h;rw[hn,Bool.false_and]at h;cases h)];exact qd8 hQ))
noncomputable def IF(K:W.Frag)(a:Addr):It :=
 ⟨fun i H=>∃xs x,SqL K H a xs/\xs[i]?=some x,fun i H x H'=>H'=H/\∀xs,SqL K H a xs->xs[i]?=some x,fun i H=>∃xs,SqL K H a xs/\xs.length<=i⟩
noncomputable def iF(K:W.Frag)(a:Addr):It :=
 ⟨fun i H=>∃xs x,Du K H a xs/\xs[i]?=some x,fun i H x H'=>H'=H/\∀xs,Du K H a xs->xs[i]?=some x,fun i H=>∃xs,Du K H a xs/\xs.length<=i⟩
noncomputable def EY(lo:Int)(n:Nat):It:=⟨fun i _=>i<n,fun i H x H'=>H'=H/\x=.int (lo+i),fun i _=>n<=i⟩
theorem i7{P:Program}{w:World}{K:W.Frag}{tg:Expr}(a it:Addr):S3 P w K tg (IF K a) [it] it (fun i h=>h.IsListIter it a i) where
 mem:=by simp
 obj:=fun i h st b hb=>by
  have e:b=it:=by simpa using hb
  subst e;obtain⟨o,e,c,d⟩:=st;exact⟨o,e,fun v z=>by rw[d]at z;cases z⟩
 keep:=fun i h h' st k=>st.at fun o e=>k it (by simp) o e
 item:=by
  intro X hP hw hK hc i Ac s σ H E I hf st hg;subst hP hw hK;obtain⟨xs,x,hq,hx⟩:=hg;obtain⟨its,rv,p,hz⟩:=I.list hq;obtain⟨u,hu,ru⟩:=rv.get hx;obtain⟨f0,f1,f2,f3,f4,f5⟩:=hf it (by simp);refine wpAny_pyNext_list_item st p.isList (x:=u) (by simpa using hu) fun h' st' sb=>?_;have I1:Bk X Ac σ H { s with heap:=h' }:=I.turned (t':=s.toks) (fun b o hb e=>(sb.2 b hb).trans e) f0 f1 f3 f4 f5;obtain⟨o,e,c,d⟩:=id st';exact⟨u,rfl,b8 (s:={ s with heap:=h' }) e c d (by decide) ⟨x,H,I1,ru,⟨rfl,fun ys hy=>by rw[I.list_inj hy hq];exact hx⟩,st',fun b hb=>(hf b hb).1⟩⟩
 done:=by
  intro X hP hw hK hc i Ac s σ H E I hf st hg;subst hP hw hK;obtain⟨xs,hq,hx⟩:=hg;obtain⟨its,rv,p,hz⟩:=I.list hq;obtain⟨f0,f1,f2,f3,f4,f5⟩:=hf it (by simp);have hl:=rv.length;exact wpAny_pyNext_list_end (I.ok.hd hc) st p.isList (by simp;omega) fun h' eb=>⟨rfl,I.turned (t':=s.toks) (fun b o hb e=>eb b o hb e) f0 f1 f3 f4 f5⟩
 self:=fun _ _ _ _ _ st h=>wpAny_pyIter_listiter st h
theorem X0{P:Program}{w:World}{K:W.Frag}{tg:Expr}(a it:Addr):S3 P w K tg (iF K a) [it] it (fun i h=>h.IsTupleIter it a i) where
 mem:=by simp
 obj:=fun i h st b hb=>by
  have e:b=it:=by simpa using hb
  subst e;obtain⟨o,e,c,d⟩:=st;exact⟨o,e,fun v z=>by rw[d]at z;cases z⟩
 keep:=fun i h h' st k=>st.at fun o e=>k it (by simp) o e
 item:=by
  intro X hP hw hK hc i Ac s σ H E I hf st hg;subst hP hw hK;obtain⟨xs,x,hq,hx⟩:=hg;obtain⟨its,rv,p,hz⟩:=I.tuple hq;obtain⟨u,hu,ru⟩:=rv.get hx;obtain⟨f0,f1,f2,f3,f4,f5⟩:=hf it (by simp);refine wpAny_pyNext_tuple_item st (show s.heap.IsTuple a its.toArray from p) (x:=u) (by simpa using hu) fun h' st' sb=>?_;have I1:Bk X Ac σ H { s with heap:=h' }:=I.turned (t':=s.toks) (fun b o hb e=>(sb.2 b hb).trans e) f0 f1 f3 f4 f5;obtain⟨o,e,c,d⟩:=id st';exact⟨u,rfl,b8 (s:={ s with heap:=h' }) e c d (by decide) ⟨x,H,I1,ru,⟨rfl,fun ys hy=>by rw[I.tuple_inj hy hq];exact hx⟩,st',fun b hb=>(hf b hb).1⟩⟩
 done:=by
  intro X hP hw hK hc i Ac s σ H E I hf st hg;subst hP hw hK;obtain⟨xs,hq,hx⟩:=hg;obtain⟨its,rv,p,hz⟩:=I.tuple hq;obtain⟨f0,f1,f2,f3,f4,f5⟩:=hf it (by simp);have hl:=rv.length;exact wpAny_pyNext_tuple_end (I.ok.hd hc) st (show s.heap.IsTuple a its.toArray from p) (by simp;omega) fun h' eb=>⟨rfl,I.turned (t':=s.toks) (fun b o hb e=>eb b o hb e) f0 f1 f3 f4 f5⟩
 self:=fun _ _ _ _ _ st h=>wpAny_pyIter_tupleiter st h
theorem X1{P:Program}{w:World}{K:W.Frag}{tg:Expr}(it:Addr)(lo:Int)(n:Nat):S3 P w K tg (EY lo n) [it] it (fun i h=>IsRangeIter h it (lo+(i:Nat)*1) ((n:Int)-(i:Nat)) 1) where
 mem:=by simp
 obj:=fun i h st b hb=>by
  have e:b=it:=by simpa using hb
  subst e
  exact⟨_,st,fun v z=>by
   have z':Data.fields _=Data.cell v:=z;cases z'⟩
 keep:=fun i h h' st k=>k it (by simp) _ st
 item:=by
  intro X hP hw hK hc i Ac s σ H E I hf st hg;subst hP hw hK;obtain⟨f0,f1,f2,f3,f4,f5⟩:=hf it (by simp);have W:=Walks.range (prog:=X.prog) (w:=X.w) (I.ok.hd hc) it lo 1 n;refine W.item i s _ _ hg st fun v h' tk hv st' kk=>?_;obtain⟨t,rfl⟩:=hv;have I1:Bk X Ac σ H { s with heap:=h',toks:=tk }:=I.turned (fun b o hb e=>kk b o (by simpa using hb) e) f0 f1 f3 f4 f5;refine⟨_,rfl,b8 (s:={ s with heap:=h',toks:=tk }) (n:="range_iterator") st' rfl rfl (by decide) ⟨.int (lo+i),H,I1,⟨t,?_⟩,⟨rfl,rfl⟩,st',fun b hb=>(hf b hb).1⟩⟩;rw[ql8]
 done:=by
  intro X hP hw hK hc i Ac s σ H E I hf st hg;subst hP hw hK;obtain⟨f0,f1,f2,f3,f4,f5⟩:=hf it (by simp);exact wpAny_pyNext_range_end (I.ok.hd hc) st (by have:n<=i:=hg;omega) fun h' eb=>⟨rfl,I.turned (t':=s.toks) (fun b o hb e=>eb b o hb e) f0 f1 f3 f4 f5⟩
 self:=fun _ _ _ _ _ st h=>wpAny_pyIter_rangeiter st h
section
variable{X:Cx}{tg:Expr}
noncomputable def FO(K:W.Frag)(tl:TE):TI:=fun σ H R=>tl σ H fun x H1=>∃a,x=.ref a/\(∃xs,SqL K H1 a xs)/\R (IF K a) H1
noncomputable def kC(K:W.Frag)(tl:TE):TI:=fun σ H R=>tl σ H fun x H1=>∃a,x=.ref a/\(∃xs,Du K H1 a xs)/\R (iF K a) H1
theorem DQ{l:Expr}{tl:TE}(hl:PE X l tl):PI X tg l (FO X.K tl):=by
 intro Ac s σ H R I h;refine Dn (hl Ac s σ H _ I h) fun v s1 _z=>?_;obtain⟨x,H1,I1,r1,q1⟩:=_z;obtain⟨a,e,⟨xs,hq⟩,q⟩:=q1;subst e;cases r1;obtain⟨its,rv,p,hz⟩:=I1.list hq;refine qn5 p.isList ?_;refine⟨s1.heap.objs.size,[s1.heap.objs.size],_,_,H1,rfl,I1.kept (t':=s1.toks) fun b o e=>qa2 _ e,i7 a _,⟨_,qb5 _ rfl,rfl,rfl⟩,fun b hb=>?_,q⟩;have e:b=s1.heap.objs.size:=by simpa using hb
 subst e;exact I1.fpOk (qa0 _) (I1.hok.fresh (qa0 _))
theorem gM{l:Expr}{tl:TE}(hl:PE X l tl):PI X tg l (kC X.K tl):=by
 intro Ac s σ H R I h;refine Dn (hl Ac s σ H _ I h) fun v s1 _z=>?_;obtain⟨x,H1,I1,r1,q1⟩:=_z;obtain⟨a,e,⟨xs,hq⟩,q⟩:=q1;subst e;cases r1;obtain⟨its,rv,p,hz⟩:=I1.tuple hq;refine wpAny_pyIter_tuple (show s1.heap.IsTuple a its.toArray from p) ?_;refine⟨s1.heap.objs.size,[s1.heap.objs.size],_,_,H1,rfl,I1.kept (t':=s1.toks) fun b o e=>qa2 _ e,X0 a _,⟨_,qb5 _ rfl,rfl,rfl⟩,fun b hb=>?_,q⟩;have e:b=s1.heap.objs.size:=by simpa using hb
 subst e;exact I1.fpOk (qa0 _) (I1.hok.fresh (qa0 _))
theorem Wr{Ac:Bj}{σ:St}{H:Hp}{s:Shared}{R:It->Hp->Prop}{E:Value->Shared->Prop}{lo hi:Int}{t u v:Tok}{tk:Nat}(I:Bk X Ac σ H s)(h1:-(2 ^ 62)<=lo)(h2:lo<2 ^ 62)(h3:-(2 ^ 62)<=hi)(h4:hi<2 ^ 62)
 (q:R (EY lo (hi-lo).toNat) H):wpAny (model X.prog X.w) X.A (pyIter (.ref s.heap.objs.size)) (qD X Ac σ tg R) E { s with heap:=s.heap.push { cls:=.type "range",data:=.fields #[.int lo t,.int hi u,.int 1 v] },toks:=tk }:=by
 refine wpAny_pyIter_range (IsRange.new ..) (small_one h1 h2 h3 h4) ?_;have I1:Bk X Ac σ H { s with heap:=s.heap.push { cls:=.type "range",data:=.fields #[.int lo t,.int hi u,.int 1 v] },toks:=tk }:=I.kept fun b o e=>qa2 _ e
 refine⟨(s.heap.push { cls:=.type "range",data:=.fields #[.int lo t,.int hi u,.int 1 v] }).objs.size,[(s.heap.push { cls:=.type "range",data:=.fields #[.int lo t,.int hi u,.int 1 v] }).objs.size],_,_,H,rfl,
  I1.kept (t':=tk) fun b o e=>qa2 _ e,X1 _ lo (hi-lo).toNat,?_,fun b hb=>?_,q⟩
 . have e1:lo+((0:Nat):Int)*1=lo:=by simp
   have e2:(((hi-lo).toNat:Nat):Int)-((0:Nat):Int)=Builtin.Range.rangeSize lo hi 1:=by rw[rangeSize_one];split<;>omega
   show IsRangeIter _ _ (lo+((0:Nat):Int)*1) ((((hi-lo).toNat:Nat):Int)-((0:Nat):Int)) 1;rw[e1,e2];exact qb5 _ rfl
 . have e:b=(s.heap.push { cls:=.type "range",data:=.fields #[.int lo t,.int hi u,.int 1 v] }).objs.size:=by simpa using hb
   subst e;exact I1.fpOk (qa0 _) (I1.hok.fresh (qa0 _))
noncomputable def kD(ta:TA):TI:=fun σ H R=>ta σ H fun vs H1=>∃j:Int,vs=[.int j]/\-(2 ^ 62)<=j/\j<2 ^ 62/\R (EY 0 j.toNat) H1
noncomputable def KC(ta:TA):TI:=fun σ H R=>ta σ H fun vs H1=>∃i j:Int,vs=[.int i,.int j]/\(-(2 ^ 62)<=i/\i<2 ^ 62/\-(2 ^ 62)<=j/\j<2 ^ 62)/\R (EY i (j-i).toNat) H1
theorem Dl{a:Expr}{ta:TA}{p pos:Pos}(hg:Gl X "range")(hm:X.mg "range"=none)(ha:PA X [a] ta)(hs:starEach [a] X.env=[(false,eval a X.env)]:=by rfl):PI X tg (.Call (.Name "range" p) [a] [] pos) (kD ta):=by
 intro Ac s σ H R I h;refine Call_ (Jd I hg hm boot_range (qf0 (Dn (ha pos Ac s σ H _ I h) fun us s1 _z=>?_) hs rfl));obtain⟨vs,H1,I1,r1,q1⟩:=_z;obtain⟨j,e,q1,q2,q⟩:=q1;subst e;cases r1 with
 | cons r rr =>
   cases rr;obtain⟨t,rfl⟩:=r;exact call_range_1 (Wr I1 O9m O9m q1 q2 (by simpa using q))
theorem Nz{a b:Expr}{ta:TA}{p pos:Pos}(hg:Gl X "range")(hm:X.mg "range"=none)(ha:PA X [a,b] ta)(hs:starEach [a,b] X.env=[(false,eval a X.env),(false,eval b X.env)]:=by rfl)(hs2:starEach [b] X.env=[(false,eval b X.env)]:=by rfl) :
 PI X tg (.Call (.Name "range" p) [a,b] [] pos) (KC ta):=by
 intro Ac s σ H R I h;refine Call_ (Jd I hg hm boot_range (qf0 (Dn (ha pos Ac s σ H _ I h) fun us s1 ⟨vs,H1,I1,r1,q1⟩=>?_) (by rw[hs,hs2]) (by rw[hs2];rfl)));obtain⟨i,j,e,⟨q1,q2,q3,q4⟩,q⟩:=q1;subst e;cases r1 with
 | cons r rr =>
   cases rr with
   | cons r' rr =>
     cases rr;obtain⟨t,rfl⟩:=r;obtain⟨t',rfl⟩:=r';exact call_range_2 (Wr I1 q1 q2 q3 q4 q)
noncomputable def Wc(wi:TI)(g:TG)(tb:TS):TS:=fun D σ H=>wi σ H fun J H1=>∃W:Nat->Nat->St->Hp->Prop,(∃m,W 0 m σ H1)/\∀i m σ H,W i m σ H →
 (J.stop i H/\D.nx σ H)\/(J.go i H/\∃N:St->Hp->Prop,(∀σ' H',N σ' H'->∃m',m'<m/\W (i+1) m' σ' H')/\∀x H',J.yld i H x H'->g x σ H' fun σ2 H2=>tb { D with nx:=N,ct:=N,bk:=D.nx } σ2 H2)
noncomputable def Qx(fp:List Addr)(h:Heap):Bj:=fp.filterMap fun b=>(h.get? b).map fun o=>(b,o)
theorem Jc{fp:List Addr}{h:Heap}{b:Addr}{o:Obj}(hb:b∈fp)(e:h.get? b=some o):(b,o)∈Qx fp h:=List.mem_filterMap.mpr ⟨b,hb,by rw[e];rfl⟩
theorem t8{fp:List Addr}{h:Heap}{p:Addr × Obj}(hp:p∈Qx fp h):p.1∈fp/\h.get? p.1=some p.2:=by
 obtain⟨b,hb,e⟩:=List.mem_filterMap.mp hp;cases q:h.get? b with
 | none=>rw[q]at e;cases e
 | some o =>
   rw[q]at e;have e':(b,o)=p:=qe6 e;subst e';exact⟨hb,q⟩
theorem Bk.pinned{Ac:Bj}{σ:St}{H:Hp}{s:Shared}{fp:List Addr}(I:Bk X Ac σ H s)(hf:∀b∈fp,Lg X Ac H b)(ho:∀b∈fp,∃o,s.heap.get? b=some o/\∀v,o.data≠.cell v):Bk X (Ac++Qx fp s.heap) σ H s :=
 I.pins_of fun p hp=>(List.mem_append.mp hp).elim (fun z=>I.pin p (qe8 _ z)) fun z=>by
  obtain⟨hb,e⟩:=t8 z;obtain⟨f0,f1,f2,_⟩:=hf p.1 hb;obtain⟨o,e',d⟩:=ho p.1 hb;rw[e]at e';cases e';exact⟨e,f0,f1,f2,d⟩
theorem Bk.unpinned{Ac pl:Bj}{σ:St}{H:Hp}{s:Shared}(I:Bk X (Ac++pl) σ H s):Bk X Ac σ H s:=I.pins_of fun p hp=>I.pin p (qe8 _ (List.mem_append_left _ hp))
theorem Dg{iter:Expr}{body:List Stmt}{wi:TI}{g:TG}{tb:TS}{pos:Pos}(hp:PassesOwn (model X.prog X.w) X.A X.env X.xe)(hc:X.calm=true)(hi:PI X tg iter wi)(hg:PG X tg g)(hb:aQ X body tb)
 (hs:∀x,foldedSetIterable iter X.env x=pure x:=by intro _;rfl):PS X (.For tg iter body [] pos) (Wc wi g tb):=by
 intro Ac s σ H D I h;refine wpAny_For (Dn (hi Ac s σ H _ I h) fun v s1 h1=>Dn h1 fun itv s2 h2=>?_) hs;obtain⟨it,fp,tn,J,H2,e,I2,T,st2,f2,W,⟨m0,w0⟩,turn⟩:=h2;subst e;have X2:∀{H':Hp},(∀b∈fp,H' b=none)->∀b∈fp,Lg X Ac H' b:=fun hn b hb=>⟨hn b hb,(f2 b hb).2⟩
 refine codeAny_forLoop_any (fun n s'=>∃i σ' H',Bk X Ac σ' H' s'/\tn i s'.heap/\(∀b∈fp,H' b=none)/\W i n σ' H') ?_ m0 ⟨0,σ,H2,I2,st2,fun b hb=>(f2 b hb).1,w0⟩;rintro n s3 ⟨i,σ3,H3,I3,st3,CZ,w3⟩;rcases turn i n σ3 H3 w3 with⟨stop,qn⟩|⟨go,N,hN,step⟩
 . refine qj1 hp (Dn (T.done X rfl rfl rfl hc i Ac s3 σ3 H3 X.xe I3 (X2 CZ) st3 stop) fun r s4 _z=>?_);obtain⟨hr,I4⟩:=_z;subst hr;exact qo7 ⟨σ3,H3,I4,qn⟩
 . refine qj1 hp (Dn (T.item X rfl rfl rfl hc i Ac s3 σ3 H3 X.xe I3 (X2 CZ) st3 go) fun r s4 _z=>?_);obtain⟨u,hr,h4⟩:=_z;subst hr;refine qj1 hp (Dn h4 fun _ s5 _z=>?_);obtain⟨x,H5,I5,r5,y5,GH,HS⟩:=_z;have oF:=I5.pinned (X2 HS) (T.obj _ _ GH);refine qj1 hp (Dn (hg _ s5 σ3 H5 x u _ oF r5 (step x H5 y5)) fun _ s6 _z=>?_);obtain⟨σ6,H6,I6,q6⟩:=_z;refine qj1 hp (Dn (hb _ s6 σ6 H6 _ I6 q6) fun f s7 q7=>?_)
   have again:∀{σ7:St}{H7:Hp},Bk X (Ac++Qx fp s5.heap) σ7 H7 s7->N σ7 H7->∃m,m<n/\∃i σ' H',Bk X Ac σ' H' s7/\tn i s7.heap/\(∀b∈fp,H' b=none)/\W i m σ' H':=fun {σ7 H7} I7 n7=>by
    obtain⟨m',hm,w7⟩:=hN σ7 H7 n7;refine⟨m',hm,i+1,σ7,H7,I7.unpinned,T.keep _ _ _ GH fun b hb o e=>(I7.pin (b,o) (qe8 _ (qe8 _ (Jc hb e)))).1,fun b hb=>?_,w7⟩;obtain⟨o,e,d⟩:=T.obj _ _ GH b hb;exact(I7.pin (b,o) (qe8 _ (qe8 _ (Jc hb e)))).2.1
   cases f with
   | next=>obtain⟨σ7,H7,I7,n7⟩:=q7;exact again I7 n7
   | cont=>obtain⟨σ7,H7,I7,n7⟩:=q7;exact again I7 n7
   | brk=>obtain⟨σ7,H7,I7,q7⟩:=q7;exact⟨σ7,H7,I7.unpinned,q7⟩
   | ret v=>obtain⟨x7,σ7,H7,I7,r7,q7⟩:=q7;exact⟨x7,σ7,H7,I7.unpinned,r7,q7⟩
end
theorem for_list{K:W.Frag}{a:Addr}{xs:List V}{g:TG}{tb:TS}{D:Ends}{σ:St}{H:Hp}(Pv:Nat->St->Hp->Prop)(h0:Pv 0 σ H)(hl:∀i σ H,i<=xs.length->Pv i σ H->SqL K H a xs)
 (hs:∀i x σ H,xs[i]?=some x->Pv i σ H->g x σ H fun σ2 H2=>tb { D with nx:=Pv (i+1),ct:=Pv (i+1),bk:=D.nx } σ2 H2) (hd:∀σ H,Pv xs.length σ H->D.nx σ H) :
 ∃W:Nat->Nat->St->Hp->Prop,(∃m,W 0 m σ H)/\∀i m σ H,W i m σ H →
   ((IF K a).stop i H/\D.nx σ H)\/((IF K a).go i H/\∃N:St->Hp->Prop,(∀σ' H',N σ' H'->∃m',m'<m/\W (i+1) m' σ' H')/\∀x H',(IF K a).yld i H x H'->g x σ H' fun σ2 H2=>tb { D with nx:=N,ct:=N,bk:=D.nx } σ2 H2):=by
 refine⟨fun i m σ H=>m=xs.length-i/\i<=xs.length/\Pv i σ H,⟨xs.length,by simp,qa5 _,h0⟩,?_⟩;rintro i m σ H ⟨rfl,hi,p⟩;have q:=hl i σ H hi p;by_cases hlt:i<xs.length
 . refine .inr ⟨⟨xs,xs[i],q,by simp[hlt]⟩,Pv (i+1),fun σ' H' p'=>⟨xs.length-(i+1),O9m,rfl,hlt,p'⟩,fun x H' y=>?_⟩;obtain⟨e,y⟩:=y;subst e;exact hs i x σ _ (y xs q) p
 . have e:i=xs.length:=O9m
   subst e;exact .inl ⟨⟨xs,q,qa0 _⟩,hd σ H p⟩
theorem EN{K:W.Frag}{a:Addr}{xs:List V}{g:TG}{tb:TS}{D:Ends}{σ:St}{H:Hp}(Pv:Nat->St->Hp->Prop)(h0:Pv 0 σ H)(hl:∀i σ H,i<=xs.length->Pv i σ H->Du K H a xs)
 (hs:∀i x σ H,xs[i]?=some x->Pv i σ H->g x σ H fun σ2 H2=>tb { D with nx:=Pv (i+1),ct:=Pv (i+1),bk:=D.nx } σ2 H2) (hd:∀σ H,Pv xs.length σ H->D.nx σ H) :
 ∃W:Nat->Nat->St->Hp->Prop,(∃m,W 0 m σ H)/\∀i m σ H,W i m σ H →
   ((iF K a).stop i H/\D.nx σ H)\/((iF K a).go i H/\∃N:St->Hp->Prop,(∀σ' H',N σ' H'->∃m',m'<m/\W (i+1) m' σ' H')/\∀x H',(iF K a).yld i H x H'->g x σ H' fun σ2 H2=>tb { D with nx:=N,ct:=N,bk:=D.nx } σ2 H2):=by
 refine⟨fun i m σ H=>m=xs.length-i/\i<=xs.length/\Pv i σ H,⟨xs.length,by simp,qa5 _,h0⟩,?_⟩;rintro i m σ H ⟨rfl,hi,p⟩;have q:=hl i σ H hi p;by_cases hlt:i<xs.length
 . refine .inr ⟨⟨xs,xs[i],q,by simp[hlt]⟩,Pv (i+1),fun σ' H' p'=>⟨xs.length-(i+1),O9m,rfl,hlt,p'⟩,fun x H' y=>?_⟩;obtain⟨e,y⟩:=y;subst e;exact hs i x σ _ (y xs q) p
 . have e:i=xs.length:=O9m
   subst e;exact .inl ⟨⟨xs,q,qa0 _⟩,hd σ H p⟩
theorem Dm{lo:Int}{n:Nat}{g:TG}{tb:TS}{D:Ends}{σ:St}{H:Hp}(Pv:Nat->St->Hp->Prop)(h0:Pv 0 σ H)
 (hs:∀i σ H,i<n->Pv i σ H->g (.int (lo+i)) σ H fun σ2 H2=>tb { D with nx:=Pv (i+1),ct:=Pv (i+1),bk:=D.nx } σ2 H2) (hd:∀σ H,Pv n σ H->D.nx σ H) :
 ∃W:Nat->Nat->St->Hp->Prop,(∃m,W 0 m σ H)/\∀i m σ H,W i m σ H →
   ((EY lo n).stop i H/\D.nx σ H)\/((EY lo n).go i H/\∃N:St->Hp->Prop,(∀σ' H',N σ' H'->∃m',m'<m/\W (i+1) m' σ' H')/\∀x H',(EY lo n).yld i H x H'->g x σ H' fun σ2 H2=>tb { D with nx:=N,ct:=N,bk:=D.nx } σ2 H2):=by
 refine⟨fun i m σ H=>m=n-i/\i<=n/\Pv i σ H,⟨n,by simp,qa5 _,h0⟩,?_⟩;rintro i m σ H ⟨rfl,hi,p⟩;by_cases hlt:i<n
 . refine .inr ⟨hlt,Pv (i+1),fun σ' H' p'=>⟨n-(i+1),O9m,rfl,hlt,p'⟩,fun x H' y=>?_⟩;obtain⟨e,y⟩:=y;subst e y;exact hs i σ _ hlt p
 . have e:i=n:=O9m
   subst e;exact .inl ⟨qa0 _,hd σ H p⟩
noncomputable abbrev R2:=V->V->Hp->VK->Prop
noncomputable def Ps(X:Cx)(f:Value->Value->Sem Value)(r:R2):Prop :=
 ∀(Ac:Bj) (s:Shared) (σ:St) (H:Hp) (x y:V) (v u:Value) (Q:VK),Bk X Ac σ H s->RelV x v->RelV y u->r x y H Q →
   wpAny (model X.prog X.w) X.A (f v u) (EP X Ac σ Q) X.xe s
noncomputable def OA(X:Cx)(f:Value->Sem Value)(r:V->Hp->VK->Prop):Prop :=
 ∀(Ac:Bj) (s:Shared) (σ:St) (H:Hp) (x:V) (v:Value) (Q:VK),Bk X Ac σ H s->RelV x v->r x H Q →
   wpAny (model X.prog X.w) X.A (f v) (EP X Ac σ Q) X.xe s
noncomputable def Fd(X:Cx)(f:Value)(r:List V->Hp->VK->Prop):Prop :=
 ∀(Ac:Bj) (s:Shared) (σ:St) (H:Hp) (xs:List V) (us:List Value) (Q:VK),Bk X Ac σ H s->Bt xs us->r xs H Q →
   wpAny (model X.prog X.w) X.A (call f us) (EP X Ac σ Q) X.xe s
noncomputable def LF(r:R2)(ta tb:TE):TE:=fun σ H Q=>ta σ H fun x H1=>tb σ H1 fun y H2=>r x y H2 Q
noncomputable def qJ(r:V->Hp->VK->Prop)(ta:TE):TE:=fun σ H Q=>ta σ H fun x H1=>r x H1 Q
noncomputable def rI(C:Int->Int->Prop)(g:Int->Int->V):R2:=fun x y H Q=>∃i j,x=.int i/\y=.int j/\C i j/\Q (g i j) H
noncomputable def GJ(g:Int->Int->V):R2:=fun x y H Q=>∃i j,x=.int i/\y=.int j/\Q (g i j) H
noncomputable def rU(g:Int->V):V->Hp->VK->Prop:=fun x H Q=>∃i,x=.int i/\Q (g i) H
section
variable{X:Cx}{a b c:Expr}{ta tb tc:TE}{pos:Pos}
theorem iB(ha:PE X a ta)(hb:PE X b tb){Ac:Bj}{s:Shared}{σ:St}{H:Hp}{R:V->V->Hp->Prop}(I:Bk X Ac σ H s)
 (h:ta σ H fun x H1=>tb σ H1 fun y H2=>R x y H2) {Q:Value->Shared->Prop}{f:Value->Value->Sem Value}
 (hf:∀v u s2 x y H2,Bk X Ac σ H2 s2->RelV x v->RelV y u->R x y H2->wpAny (model X.prog X.w) X.A (f v u) Q X.xe s2) :
 wpAny (model X.prog X.w) X.A (eval a X.env) (fun v s₁=>wpAny (model X.prog X.w) X.A (eval b X.env) (fun u s₂=>wpAny (model X.prog X.w) X.A (f v u) Q X.xe s₂) X.xe s₁) X.xe s:=by
 refine Dn (ha Ac s σ H _ I h) fun v s1 _z=>?_;obtain⟨x,H1,I1,r1,q1⟩:=_z;refine Dn (hb Ac s1 σ H1 _ I1 q1) fun u s2 _z=>?_;obtain⟨y,H2,I2,r2,q2⟩:=_z;exact hf v u s2 x y H2 I2 r1 r2 q2
theorem Bg{op:Operator}{r:R2}(ho:Ps X (binaryOp op) r)(ha:PE X a ta)(hb:PE X b tb):PE X (.BinOp a op b pos) (LF r ta tb):=by
 intro Ac s σ H Q I h;exact wpAny_BinOp (iB ha hb I h fun v u s2 x y H2 I2 rx ry q=>ho Ac s2 σ H2 x y v u Q I2 rx ry q)
theorem Jo{op:UnaryOp}{r:V->Hp->VK->Prop}(ho:OA X (unaryOp op) r)(ha:PE X a ta):PE X (.UnaryOp op a pos) (qJ r ta):=by
 intro Ac s σ H Q I h;exact UnaryOp_ (Dn (ha Ac s σ H _ I h) fun v s1 ⟨x,H1,I1,r1,q1⟩=>ho Ac s1 σ H1 x v Q I1 r1 q1)
theorem LJ{f:Value->Value->Sem Value}{C:Int->Int->Prop}{g:Int->Int->Int}
 (rule:∀(i j:Int) (t u:Tok) (s:Shared) (Q:Value->Shared->Prop) (E:Value->Shared->Prop),C i j->Q (.int (g i j) s.toks) { s with toks:=s.toks+1 }->wpAny (model X.prog X.w) X.A (f (.int i t) (.int j u)) Q E s) :
 Ps X f (rI C fun i j=>.int (g i j)):=by
 intro Ac s σ H x y v u Q I rx ry h;obtain⟨i,j,rfl,rfl,hc,q⟩:=h;obtain⟨t,rfl⟩:=rx;obtain⟨t',rfl⟩:=ry;exact rule i j t t' s _ _ hc ⟨.int (g i j),H,I.tok _,⟨_,rfl⟩,q⟩
theorem jR{f:Value->Value->Sem Value}{g:Int->Int->Int}
 (rule:∀(i j:Int) (t u:Tok) (s:Shared) (Q:Value->Shared->Prop) (E:Value->Shared->Prop),Q (.int (g i j) s.toks) { s with toks:=s.toks+1 }->wpAny (model X.prog X.w) X.A (f (.int i t) (.int j u)) Q E s) :
 Ps X f (GJ fun i j=>.int (g i j)):=by
 intro Ac s σ H x y v u Q I rx ry h;obtain⟨i,j,rfl,rfl,q⟩:=h;obtain⟨t,rfl⟩:=rx;obtain⟨t',rfl⟩:=ry;exact rule i j t t' s _ _ ⟨.int (g i j),H,I.tok _,⟨_,rfl⟩,q⟩
theorem GQ{f:Value->Value->Sem Value}{g:Int->Int->Bool}
 (rule:∀(i j:Int) (t u:Tok) (s:Shared) (Q:Value->Shared->Prop) (E:Value->Shared->Prop),Q (.bool (g i j)) s->wpAny (model X.prog X.w) X.A (f (.int i t) (.int j u)) Q E s) :
 Ps X f (GJ fun i j=>.bl (g i j)):=by
 intro Ac s σ H x y v u Q I rx ry h;obtain⟨i,j,rfl,rfl,q⟩:=h;obtain⟨t,rfl⟩:=rx;obtain⟨t',rfl⟩:=ry;exact rule i j t t' s _ _ ⟨.bl (g i j),H,I,rfl,q⟩
noncomputable def oH(i j:Int):Prop:=0<j/\j<1073741824
noncomputable def FA(i j:Int):Prop:=(-(2 ^ 64)<i/\i<2 ^ 64)\/(-(2 ^ 64)<j/\j<2 ^ 64)
theorem FA.ok{i j:Int}(h:FA i j):IntMulOk i j:=by
 rcases h with⟨h1,h2⟩|⟨h1,h2⟩
 . exact .of_left (intBits_le_64 h1 h2)
 . exact .of_right (intBits_le_64 h1 h2)
theorem Do:Ps X (binaryOp .Add) (GJ fun i j=>.int (i+j)):=jR fun _ _ _ _ _ _ _ q=>add_int q
theorem Ho:Ps X (binaryOp .Sub) (GJ fun i j=>.int (i-j)):=jR fun _ _ _ _ _ _ _ q=>sub_int q
theorem Py:Ps X (binaryOp .FloorDiv) (rI oH fun i j=>.int (i / j)):=LJ fun i j _ _ _ _ _ hc q=>by
 have h1:(0:Int)<j:=hc.1;have h2:j<1073741824:=hc.2;exact floordiv_int O9m (by rw[qd7 i (by omega)];exact q) (.inl (PyProof.noPylong_small O9m))
theorem Di:Ps X (binaryOp .Mod) (rI (fun _ j=>0<j) fun i j=>.int (i%j)):=LJ fun i j _ _ _ _ _ hc q=>by
 have h1:(0:Int)<j:=hc;exact mod_int' O9m (by rw[Int.fmod_eq_emod_of_nonneg i (by omega)];exact q)
theorem QH{f:Value->Sem Value}{g:Int->Int}
 (rule:∀(i:Int) (t:Tok) (s:Shared) (Q:Value->Shared->Prop) (E:Value->Shared->Prop),Q (.int (g i) s.toks) { s with toks:=s.toks+1 }->wpAny (model X.prog X.w) X.A (f (.int i t)) Q E s) :
 OA X f (rU fun i=>.int (g i)):=by
 intro Ac s σ H x v Q I rx h;obtain⟨i,rfl,q⟩:=h;obtain⟨t,rfl⟩:=rx;exact rule i t s _ _ ⟨.int (g i),H,I.tok _,⟨_,rfl⟩,q⟩
theorem F0:OA X (unaryOp .USub) (rU fun i=>.int (-i)):=QH fun _ _ _ _ _ q=>neg_int q
end
noncomputable def scal:V->V->Bool
 | .non,.non=>true | .non,.int _=>true | .int _,.non=>true | .non,.bl _=>true | .bl _,.non=>true | .non,.str _=>true | .str _,.non=>true
 | .int _,.int _=>true | .bl _,.bl _=>true | .str _,.str _=>true | .byt _,.byt _=>true
 | .int _,.str _=>true | .str _,.int _=>true | .bl _,.str _=>true | .str _,.bl _=>true
 | _,_=>false
noncomputable def qU:R2:=fun x y H Q=>scal x y=true/\Q (.bl (decide (x=y))) H
noncomputable def QT:R2:=fun x y H Q=>scal x y=true/\Q (.bl (!decide (x=y))) H
theorem d6{i j:Int}:decide (V.int i=V.int j)=(i==j):=by
 rw[qk2];simp
theorem CG{i j:Bool}:decide (V.bl i=V.bl j)=(i==j):=by
 rw[qk2];simp
theorem c9{i j:Str}:decide (V.str i=V.str j)=(i==j):=by
 rw[qk2];simp
theorem d8{i j:Array UInt8}:decide (V.byt i=V.byt j)=(i.toList==j.toList):=by
 rw[qk2];cases i;cases j;simp
section
variable{X:Cx}{a b c:Expr}{ta tb tc:TE}{pos:Pos}
theorem B8{Ac:Bj}{σ:St}{H:Hp}{s:Shared}{Q:VK}{k k':Bool}(I:Bk X Ac σ H s)(q:Q (.bl k) H)(e:k=k'):EP X Ac σ Q (.bool k') s:=by
 subst e;exact⟨.bl k,H,I,rfl,q⟩
theorem Ec:Ps X (compareOp .Eq) qU:=by
 intro Ac s σ H x y v u Q I rx ry h;obtain⟨hs,q⟩:=h;cases x with
 | non =>
   cases rx;cases y with
   | non=>cases ry;exact PySem.EqNone.eq_none_none (B8 I q (by simp))
   | bl j=>cases ry;exact PySem.EqNone.eq_none_bool (B8 I q (by simp))
   | int j=>obtain⟨t',rfl⟩:=ry;exact PySem.EqNone.eq_none_int (B8 I q (by simp))
   | str j=>obtain⟨t',rfl⟩:=ry;exact PySem.EqNone.eq_none_str (B8 I q (by simp))
   | _=>exact absurd (show false=true from hs) qc0
 | bl i =>
   cases rx;cases y with
   | non=>cases ry;exact PySem.EqNone.eq_bool_none (B8 I q (by simp))
   | bl j=>cases ry;exact eq_bool (B8 I q CG)
   | str j=>obtain⟨t',rfl⟩:=ry;exact PySem.EqMixed.eq_bool_str (B8 I q (by simp))
   | _=>exact absurd (show false=true from hs) qc0
 | int i =>
   obtain⟨t,rfl⟩:=rx;cases y with
   | non=>cases ry;exact PySem.EqNone.eq_int_none (B8 I q (by simp))
   | int j=>obtain⟨t',rfl⟩:=ry;exact eq_int (B8 I q d6)
   | str j=>obtain⟨t',rfl⟩:=ry;exact PySem.EqMixed.eq_int_str (B8 I q (by simp))
   | _=>exact absurd (show false=true from hs) qc0
 | str i =>
   obtain⟨t,rfl⟩:=rx;cases y with
   | non=>cases ry;exact PySem.EqNone.eq_str_none (B8 I q (by simp))
   | bl j=>cases ry;exact PySem.EqMixed.eq_str_bool (B8 I q (by simp))
   | int j=>obtain⟨t',rfl⟩:=ry;exact PySem.EqMixed.eq_str_int (B8 I q (by simp))
   | str j=>obtain⟨t',rfl⟩:=ry;exact eq_str (B8 I q c9)
   | _=>exact absurd (show false=true from hs) qc0
 | byt i =>
   obtain⟨t,rfl⟩:=rx;cases y with
   | byt j=>obtain⟨t',rfl⟩:=ry;exact PySem.W.eq_bytes (B8 I q d8)
   | _=>exact absurd (show false=true from hs) qc0
 | _=>cases y<;>exact absurd (show false=true from hs) qc0
theorem Mv:Ps X (compareOp .NotEq) QT:=by
 intro Ac s σ H x y v u Q I rx ry h;obtain⟨hs,q⟩:=h;cases x with
 | non =>
   cases rx;cases y with
   | non=>cases ry;exact PySem.EqNone.ne_none_none (B8 I q (by simp))
   | bl j=>cases ry;exact PySem.EqNone.ne_none_bool (B8 I q (by simp))
   | int j=>obtain⟨t',rfl⟩:=ry;exact PySem.EqNone.ne_none_int (B8 I q (by simp))
   | str j=>obtain⟨t',rfl⟩:=ry;exact PySem.EqNone.ne_none_str (B8 I q (by simp))
   | _=>exact absurd (show false=true from hs) qc0
 | bl i =>
   cases rx;cases y with
   | non=>cases ry;exact PySem.EqNone.ne_bool_none (B8 I q (by simp))
   | bl j=>cases ry;exact ne_bool (B8 I q (congrArg not CG))
   | str j=>obtain⟨t',rfl⟩:=ry;exact PySem.EqMixed.ne_bool_str (B8 I q (by simp))
   | _=>exact absurd (show false=true from hs) qc0
 | int i =>
   obtain⟨t,rfl⟩:=rx;cases y with
   | non=>cases ry;exact PySem.EqNone.ne_int_none (B8 I q (by simp))
   | int j=>obtain⟨t',rfl⟩:=ry;exact ne_int (B8 I q (congrArg not d6))
   | str j=>obtain⟨t',rfl⟩:=ry;exact PySem.EqMixed.ne_int_str (B8 I q (by simp))
   | _=>exact absurd (show false=true from hs) qc0
 | str i =>
   obtain⟨t,rfl⟩:=rx;cases y with
   | non=>cases ry;exact PySem.EqNone.ne_str_none (B8 I q (by simp))
   | bl j=>cases ry;exact PySem.EqMixed.ne_str_bool (B8 I q (by simp))
   | int j=>obtain⟨t',rfl⟩:=ry;exact PySem.EqMixed.ne_str_int (B8 I q (by simp))
   | str j=>obtain⟨t',rfl⟩:=ry;exact ne_str (B8 I q (congrArg not c9))
   | _=>exact absurd (show false=true from hs) qc0
 | byt i =>
   obtain⟨t,rfl⟩:=rx;cases y with
   | byt j=>obtain⟨t',rfl⟩:=ry;exact PySem.W.ne_bytes (B8 I q (congrArg not d8))
   | _=>exact absurd (show false=true from hs) qc0
 | _=>cases y<;>exact absurd (show false=true from hs) qc0
theorem Q4:Ps X (compareOp .Lt) (GJ fun i j=>.bl (decide (i<j))):=GQ fun _ _ _ _ _ _ _ q=>lt_int q
theorem jQ:Ps X (compareOp .LtE) (GJ fun i j=>.bl (decide (i<=j))):=GQ fun _ _ _ _ _ _ _ q=>le_int q
theorem JQ:Ps X (compareOp .Gt) (GJ fun i j=>.bl (decide (j<i))):=GQ fun _ _ _ _ _ _ _ q=>gt_int q
theorem Z4:Ps X (compareOp .IsNot) (fun x y H Q=>y=.non/\Q (.bl (!decide (x=.non))) H):=by
 intro Ac s σ H x y v u Q I rx ry h;obtain⟨rfl,q⟩:=h;cases ry;refine isnot_none_gen (B8 I q ?_)
 cases x<;>first
  | (cases rx;rfl)
  | (obtain⟨t,rfl⟩:=rx;rfl)
theorem Bq(b:Expr){op:CmpOp}(h:op≠.In:=by decide)(h2:op≠.NotIn:=by decide):behindInMarks op b=false:=by
 have e1:(op==CmpOp.In)=false:=by cases op<;>first | rfl | exact absurd rfl h
 have e2:(op==CmpOp.NotIn)=false:=by cases op<;>first | rfl | exact absurd rfl h2
 cases b<;>simp[behindInMarks,e1,e2]
theorem K3{op:CmpOp}{r:R2}(ho:Ps X (compareOp op) r)(ha:PE X a ta)(hb:PE X b tb)(hm:behindInMarks op b=false):PE X (.Compare a [op] [b] pos) (LF r ta tb):=by
 intro Ac s σ H Q I h;exact wpAny_Compare1 (iB ha hb I h fun v u s2 x y H2 I2 rx ry q=>ho Ac s2 σ H2 x y v u Q I2 rx ry q) hm
noncomputable def JC(t:TE):TT:=fun σ H Q=>t σ H fun x H'=>∃k,x=.bl k/\Q k H'
theorem Bo{op:CmpOp}{r:R2}(ho:Ps X (compareOp op) r)(ha:PE X a ta)(hb:PE X b tb)(hm:behindInMarks op b=false):PT X (.Compare a [op] [b] pos) (JC (LF r ta tb)):=by
 intro Ac s σ H Q I h
 refine wpAny_isTrue_Compare1 (Dn (ha Ac s σ H _ I h) fun v s1 ⟨x,H1,I1,r1,q1⟩=>Dn (hb Ac s1 σ H1 _ I1 q1) fun u s2 ⟨y,H2,I2,r2,q2⟩ =>
  Dn (ho Ac s2 σ H2 x y v u _ I2 r1 r2 q2) fun c s3 ⟨z,H3,I3,r3,k,e,q3⟩=>?_) hm
 subst e;cases r3;exact qi2 ⟨H3,I3,q3⟩
theorem Va:(sizeLine:Nat)<2 ^ 63:=by rw[sizeLine_eq];decide
theorem S8{x:V}{us:List Value}(r:Bt [x] us):∃u,us=[u]/\RelV x u:=by
 cases r with
 | cons r1 r2=>cases r2;exact⟨_,rfl,r1⟩
theorem Zo{x y:V}{us:List Value}(r:Bt [x,y] us):∃u w',us=[u,w']/\RelV x u/\RelV y w':=by
 cases r with
 | cons r1 r2 =>
   cases r2 with
   | cons r3 r4=>cases r4;exact⟨_,_,rfl,r1,r3⟩
theorem aK(hc:X.calm=true):Fd X (.builtin "min") (fun xs H Q=>∃i j,xs=[.int i,.int j]/\Q (.int (if j<i then j else i)) H):=by
 intro Ac s σ H xs us Q I r h;obtain⟨i,j,rfl,q⟩:=h;obtain⟨u,w',rfl,⟨t,rfl⟩,⟨t',rfl⟩⟩:=Zo r;refine min_two_ints (I.ok.hd hc) fun h' tk k=>⟨_,H,I.kept k,?_,q⟩
 by_cases hj:j<i
 . rw[if_pos hj,if_pos hj];exact⟨_,rfl⟩
 . rw[if_neg hj,if_neg hj];exact⟨_,rfl⟩
end
structure Zh(h:Heap)(x dx C:Addr)(mA:Str->Option Value):Prop where
 obj:h.get? x=some (PySem.W.instObj C dx)
 ns:h.Ns1 dx mA
 ne:dx≠x
theorem v3{h:Heap}{dx:Addr}{mA:Str->Option Value}(n:h.Ns1 dx mA):∃od,h.get? dx=some od/\∀name,PySem.W.lookIn name od=some (mA name):=by
 obtain⟨o,es,ep,ho,hd,hk,_,hm⟩:=n;refine⟨o,ho,fun name=>?_⟩;have e:=hm name;unfold nsFind findBy at e;rw[←Array.find?_toList]at e;unfold PySem.W.lookIn;rw[hd];dsimp only;split
 . rename_i y q
   rw[q]at e;exact congrArg some e
 . rename_i q
   rw[q]at e
   have a:es.toList.any (·.refKey)=false:=by
    rw[List.any_eq_false];intro y hy;obtain⟨z,t,hkey⟩:=hk y (Array.mem_toList_iff.mp hy);simp[DictEntry.refKey,hkey]
   have a':¬es.toList.any (·.refKey)=true:=by rw[a];exact qc0
   rw[if_neg a'];exact congrArg some e
theorem Zh.look{h:Heap}{x dx C:Addr}{mA:Str->Option Value}(I:Zh h x dx C mA):∃od,PySem.W.InstAt h x (PySem.W.instObj C dx) C (some od)/\∀name,PySem.W.lookIn name od=some (mA name) :=
 let ⟨od,ho,hl⟩:=v3 I.ns
 ⟨od,⟨I.obj,rfl,rfl,ho⟩,hl⟩
section
variable{prog:Program}{w:World}{A:Around}{E:Value->Shared->Prop}{s:Shared}{K:W.Frag}{x dx C f:Addr}{mA:Str->Option Value}{name:Str}{v:Value}
theorem EM{expr:Bool}{Q:Value->Shared->Prop}(X:K.In s.heap)(I:Zh s.heap x dx C mA)(hg:PySem.W.plainGet K C name=true)(hh:PySem.W.hasDictIn K C=true)
 (ha:W.findIn K (.ref C) name=some none) (hv:mA name=some v) (hv':PySem.W.handedIn v=true) (h:Q v { s with toks:=s.toks+1 }) :
 wpAny (model prog w) A (getAttr (.ref x) name expr) Q E s:=by
 obtain⟨od,J,hl⟩:=I.look;exact PySem.W.get_value X J (qo4 hg).1 (PySem.W.findObj_own hh ha rfl (by rw[hl,hv])) hv' h
theorem CC{pl:Sem Bool}{Q:Value × List Value->Shared->Prop}(X:K.In s.heap)(I:Zh s.heap x dx C mA)(hg:PySem.W.plainGet K C name=true)
 (hf:W.findIn K (.ref C) name=some (some (.ref f))) (ht:W.isFn K (.ref f)=true) (hv:mA name=none) (h:Q (.ref f,[.ref x]) s) :
 wpAny (model prog w) A (getMethod (.ref x) name pl) Q E s:=by
 obtain⟨od,J,hl⟩:=I.look;exact PySem.W.method_fn X J (qo4 hg).1 (qo4 hg).2 hf (qp2.mp ht) (by show(PySem.W.lookIn name od).map (·.isSome)=some false;rw[hl,hv];rfl) h
theorem dJ{ns:List Str}{Q:Unit->Shared->Prop}(X:K.In s.heap)(I:Zh s.heap x dx C mA)
 (hs:W.findIn K (.ref C) "__setattr__"=some (some (.builtin "object.__setattr__"))) (hp:PySem.W.plainOver K C=true) (ht:PySem.W.takerIn K C name=some none) (hh:PySem.W.hasDictIn K C=true)
 (hw:PySem.Within mA ns) (hsz:ns.length<=sizeLine)
 (h:∀h',Zh h' x dx C (fun y=>if y=name then some v else mA y)->Heap.SameBut dx s.heap h'->Q () { s with heap:=h',toks:=s.toks+2 }) :
 wpAny (model prog w) A (setAttr (.ref x) name v) Q E s:=by
 obtain⟨od,J,hl⟩:=I.look;refine PySem.W.set_plain X J hs (PySem.W.osa_open (s:={ s with toks:=s.toks+1 }) (r:=none) X J hp ht fun b=>?_);obtain⟨cd,hc,hd'⟩:=PySem.W.any_some hh;have hx:s.heap.get? x=some ⟨.ref C,some dx,.plain,#[]⟩:=I.obj;refine qa6 (qd8 (qa6 (qa6 (wpAny_loadPart hx (qa6 (PySem.W.Looks.here (s:={ s with toks:=s.toks+1 }) (PySem.W.looks_clsIn X hc) ?_))))));rw[hd'];refine qd8 (a:=some dx) (qa6 (qd8 (qa6 ?_)));refine wpAny_nsSet1 (s:={ s with toks:=s.toks+1 }) I.ns fun h' hn2 hs2=>?_;obtain⟨oD,esD,UE,rQ,rV,rW⟩:=hn2.count (PySem.Within.cons name v hw);refine qa6 (wpAny_lookBehind rQ (by rw[rV];exact pastItsLine_dict (qa1 rW (by rw[qe4];omega))) ?_);exact qd8 (h _ ⟨(hs2.2 _ (Ne.symm I.ne)).trans I.obj,hn2,I.ne⟩ hs2)
theorem bW{R:Result->Shared->Prop}{vs:List Value}{kw:List (Str × Value)}(X:K.In s.heap)(hm:PySem.W.makesIn K C=true)
 (hi:W.findIn K (.ref C) "__init__"=some (some (.ref f))) (hf:PySem.W.typeIn K (.ref f)=some (.type "function"))
 (h:codeAny (model prog w) (A.under (.builtin "type.__call__" ⟨.ref C::vs,kw⟩)) (.call (.ref f) ⟨.ref (s.heap.objs.size+1)::vs,kw⟩) (PySem.W.InitBack (s.heap.objs.size+1) R)
   { s with heap:=(s.heap.push PySem.W.emptyDict).push (PySem.W.instObj C s.heap.objs.size) }) :
 codeAny (model prog w) A (.call (.ref C) ⟨vs,kw⟩) R s:=by
 obtain⟨hh,g,d,t,os⟩:=s;exact PySem.W.make_core (PySem.W.makes_of X hm) (PySem.W.looks_findIn X hi) (fun self=>PySem.W.bind_fn X self hf) (.inl rfl) h
end
noncomputable def putF(f:Str)(v:V):List (Str × V)->List (Str × V)
 | []=>[(f,v)]
 | (g,x)::r=>if g=f then(g,v)::r else(g,x)::putF f v r
theorem Al(f g:Str)(v:V):∀fs:List (Str × V),(putF f v fs).lookup g=if g=f then some v else fs.lookup g
 | []=>by
   show List.lookup g [(f,v)]=_;by_cases h:g=f
   . have hb:(g==f)=true:=qp2.mpr h;simp only[List.lookup,hb,if_pos h]
   . have hb:(g==f)=false:=ql6.mpr h;simp only[List.lookup,hb,if_neg h]
 | (k,x)::r=>by
   have ih:=Al f g v r;rw[show putF f v ((k,x)::r)=(if k=f then(k,v)::r else(k,x)::putF f v r) from rfl];by_cases hk:k=f
   . rw[if_pos hk];by_cases h:g=k
     . have hb:(g==k)=true:=qp2.mpr h;simp only[List.lookup,hb,if_pos (h.trans hk)]
     . have hb:(g==k)=false:=ql6.mpr h;simp only[List.lookup,hb,if_neg (fun e:g=f=>h (e.trans hk.symm))]
   . rw[if_neg hk];by_cases h:g=k
     . have hb:(g==k)=true:=qp2.mpr h;simp only[List.lookup,hb,if_neg (fun e:g=f=>hk (h.symm.trans e))]
     . have hb:(g==k)=false:=ql6.mpr h;simp only[List.lookup,hb];exact ih
theorem Ob(f:Str)(v:V):∀fs:List (Str × V),f∈(putF f v fs).map (·.1)/\∀g,g∈fs.map (·.1)->g∈(putF f v fs).map (·.1)
 | []=>⟨by simp[putF],fun g h=>by simp at h⟩
 | (k,x)::r=>by
   obtain⟨i1,i2⟩:=Ob f v r;rw[show putF f v ((k,x)::r)=(if k=f then(k,v)::r else(k,x)::putF f v r) from rfl];by_cases hk:k=f
   . rw[if_pos hk];subst hk;exact⟨by simp,fun g h=>by simpa using h⟩
   . rw[if_neg hk];refine⟨?_,fun g h=>?_⟩
     . rw[ql5];exact qd2 _ i1
     . rw[ql5]at h ⊢;rcases qc6.mp h with e | e
       . exact qc6.mpr (.inl e)
       . exact qd2 _ (i2 g e)
theorem Bs(f:Str)(v:V):∀fs:List (Str × V),(putF f v fs).length<=fs.length+1
 | []=>by simp[putF]
 | (k,x)::r=>by
   have ih:=Bs f v r;rw[show putF f v ((k,x)::r)=(if k=f then(k,v)::r else(k,x)::putF f v r) from rfl];by_cases hk:k=f
   . rw[if_pos hk,qe4,qe4];omega
   . rw[if_neg hk,qe4,qe4];omega
theorem S5.some_of{v:V}{o:Option Value}(r:S5 (some v) o):∃u,o=some u/\RelV v u:=by
 cases o with
 | none=>exact(show False from r).elim
 | some u=>exact⟨u,rfl,r⟩
theorem S5.none_of{o:Option Value}(r:S5 none o):o=none:=by
 cases o with
 | none=>rfl
 | some u=>exact(show False from r).elim
theorem z6{v:V}{u:Value}(r:RelV v u):PySem.W.handedIn u=true:=by
 cases v with
 | non=>cases (show u=Value.none from r);rfl
 | bl b=>cases (show u=Value.bool b from r);rfl
 | int i=>obtain⟨t,e⟩:=(show ∃t,u=Value.int i t from r);cases e;rfl
 | str x=>obtain⟨t,e⟩:=(show ∃t,u=Value.str x t from r);cases e;rfl
 | byt b=>obtain⟨t,e⟩:=(show ∃t,u=Value.bytes b t from r);cases e;rfl
 | flt b=>obtain⟨t,e⟩:=(show ∃t,u=Value.float b t from r);cases e;rfl
 | ref a=>cases (show u=Value.ref a from r);rfl
 | ty n=>cases (show u=Value.type n from r);rfl
section
variable{P:Program}{w:World}{H H':Hp}{h h':Heap}{a C dx:Addr}{fs fs':List (Str × V)}
theorem Vd(hok:Pw P w H h)(e:H a=some (.ins C dx fs)):∃mA,Zh h a dx C mA/\(∀f,S5 (fs.lookup f) (mA f))/\PySem.Within mA (fs.map (·.1))/\fs.length<=1000/\H dx=some (.own a):=by
 obtain⟨d,z,ne,ob,mA,n,r,q⟩:=(show G6 P w H h a (.ins C dx fs) from hok a _ e)
 exact⟨mA,⟨ob,n,ne⟩,r,q,z,d⟩
end
structure Cls(K:W.Frag)(C:Addr):Prop where
 pg:PySem.W.plainGet K C Str.empty=true
 hd:PySem.W.hasDictIn K C=true
 po:PySem.W.plainOver K C=true
 sa:W.findIn K (.ref C) "__setattr__"=some (some (.builtin "object.__setattr__"))
theorem Cls.get{K:W.Frag}{C:Addr}(c:Cls K C)(f:Str):PySem.W.plainGet K C f=true:=c.pg
noncomputable def NoAttr(K:W.Frag)(C:Addr)(f:Str):Prop:=W.findIn K (.ref C) f=some none
theorem NoAttr.taker{K:W.Frag}{C:Addr}{f:Str}(n:NoAttr K C f):PySem.W.takerIn K C f=some none:=by
 unfold PySem.W.takerIn;rw[show W.findIn K (.ref C) f=some none from n];rfl
structure cU(K:W.Frag)(C:Addr)(m:Str)(f:Addr):Prop where
 at_:W.findIn K (.ref C) m=some (some (.ref f))
 fn:W.isFn K (.ref f)=true
 kp:W.keepIn K (.ref f)=true
section
variable{X:Cx}{Ac:Bj}{σ:St}{H:Hp}{s:Shared}{a C dx:Addr}{fs:List (Str × V)}{f:Str}{v:V}{A:Around}{E:Value->Shared->Prop}
theorem Yw{b:Bool}{Q:Value->Shared->Prop}(I:Bk X Ac σ H s)(e:H a=some (.ins C dx fs))(c:Cls X.K C)(n:NoAttr X.K C f)(l:fs.lookup f=some v)
 (h:∀u s',Bk X Ac σ H s'->RelV v u->Q u s'):wpAny (model X.prog X.w) A (getAttr (.ref a) f b) Q E s:=by
 obtain⟨mA,O,r,_,_,_⟩:=Vd I.hok e;obtain⟨u,hu,ru⟩:=S5.some_of (v:=v) (o:=mA f) (by rw[←l];exact r f);exact EM I.kIn O (c.get f) c.hd n hu (z6 ru) (h u _ (I.tok _) ru)
theorem Mb{m:Str}{g:Addr}{pl:Sem Bool}{Q:Value × List Value->Shared->Prop}(I:Bk X Ac σ H s)(e:H a=some (.ins C dx fs))(c:Cls X.K C)(k:cU X.K C m g)(l:fs.lookup m=none)
 (h:Q (.ref g,[.ref a]) s):wpAny (model X.prog X.w) A (getMethod (.ref a) m pl) Q E s:=by
 obtain⟨mA,O,r,_,_,_⟩:=Vd I.hok e;have hn:mA m=none:=S5.none_of (by rw[←l];exact r m);exact CC I.kIn O (c.get m) k.at_ k.fn hn h
theorem X7{y:V}{u:Value}{Q:Unit->Shared->Prop}(I:Bk X Ac σ H s)(e:H a=some (.ins C dx fs))(c:Cls X.K C)(n:NoAttr X.K C f)(hl:fs.length<1000)(ry:RelV y u)
 (h:∀s',Bk X Ac σ (upd H a (.ins C dx (putF f y fs))) s'->Q () s'):wpAny (model X.prog X.w) A (setAttr (.ref a) f u) Q E s:=by
 obtain⟨mA,O,r,wi,_,ho⟩:=Vd I.hok e;have hz:(fs.map (·.1)).length<=sizeLine:=by rw[qa3,sizeLine_eq];omega
 refine dJ I.kIn O c.sa c.po n.taker c.hd wi hz fun h' O' sb=>h _ ?_;have hd:∃o,h'.get? dx=some o:=let ⟨o,_,_,e',_⟩:=O'.ns;⟨o,e'⟩
 refine I.write (x:=a) (e:=dx) (by rw[e];exact True.intro) (.inr ho) (fun b q hb z=>(sb.2 b hb).trans z) hd ?_;refine⟨by rw[As O.ne];exact ho,?_,O.ne,O'.obj,_,O'.ns,fun g=>?_,fun g hg=>?_⟩
 . have:=Bs f y fs;omega
 . show S5 ((putF f y fs).lookup g) (if g=f then some u else mA g);rw[Al];by_cases q:g=f
   . rw[if_pos q,if_pos q];exact ry
   . rw[if_neg q,if_neg q];exact r g
 . by_cases q:g=f
   . rw[q];exact(Ob f y fs).1
   . refine(Ob f y fs).2 g (wi g fun z=>hg ?_);show(if g=f then some u else mA g)=none;rw[if_neg q];exact z
theorem Bk.made(I:Bk X Ac σ H s):Bk X Ac σ (upd (upd H s.heap.objs.size (.own (s.heap.objs.size+1))) (s.heap.objs.size+1) (.ins C s.heap.objs.size []))
 { s with heap:=(s.heap.push PySem.W.emptyDict).push (PySem.W.instObj C s.heap.objs.size) }:=by
 have e1:(s.heap.push PySem.W.emptyDict).get? s.heap.objs.size=some PySem.W.emptyDict:=qb5 s.heap rfl
 have e2:((s.heap.push PySem.W.emptyDict).push (PySem.W.instObj C s.heap.objs.size)).get? (s.heap.objs.size+1)=some (PySem.W.instObj C s.heap.objs.size):=by
  have:=qb5 (s.heap.push PySem.W.emptyDict) (o:=PySem.W.instObj C s.heap.objs.size) rfl
  rwa [qh2]at this
 have e3:(s.heap.push PySem.W.emptyDict).Ns s.heap.objs.size (fun _=>none):=⟨PySem.W.emptyDict,#[],_,e1,rfl,(fun e he=>absurd he (by simp)),fun _=>rfl⟩
 have I1:=I.laid (a:=s.heap.objs.size) (o:=.own (s.heap.objs.size+1)) (h':=s.heap.push PySem.W.emptyDict) (t':=s.toks) (fun b u q=>qa2 _ q) (qa0 _) ⟨_,e1⟩;refine I1.laid (a:=s.heap.objs.size+1) (o:=.ins C s.heap.objs.size []) (t':=s.toks) (fun b u q=>qa2 _ q) (ql1 (qh2 _ _)) ?_;have ne:s.heap.objs.size≠s.heap.objs.size+1:=qc4 (Nat.lt_succ_self _);refine⟨by rw[As ne,Ae],qa5 _,ne,e2,fun _=>none,(Heap.Ns1.of_empty e3).at fun o q=>qa2 _ q,fun _=>True.intro,fun y hy=>absurd rfl hy⟩
theorem eU{prog:Program}{w:World}{env:Env}{e:Expr}{f:Str}{pos:Pos}{s:Shared}{Q:Value->Shared->Prop}(hb:attributeBase e f env (eval e env)=eval e env)
 (h:wpAny (model prog w) A (eval e env) (fun o s₁=>wpAny (model prog w) A (getAttr o f true) Q E s₁) E s):wpAny (model prog w) A (eval (.Attribute e f pos) env) Q E s :=
 Attribute_any_ h (by rw[arm_eval_Attribute,hb])
end
noncomputable def tFld(K:W.Frag)(ta:TE)(f:Str):TE:=fun σ H Q=>ta σ H fun x H1=>∃a C dx fs v,x=.ref a/\H1 a=some (.ins C dx fs)/\Cls K C/\NoAttr K C f/\fs.lookup f=some v/\Q v H1
noncomputable def jJ(K:W.Frag)(ta tv:TE)(f:Str):TS:=fun D σ H=>tv σ H fun y H1=>ta σ H1 fun x H2=>∃a C dx fs,x=.ref a/\H2 a=some (.ins C dx fs)/\Cls K C/\NoAttr K C f/\fs.length<1000 ∧
 D.nx σ (upd H2 a (.ins C dx (putF f y fs)))
section
variable{X:Cx}{o e value:Expr}{f:Str}{pos pos' tpos:Pos}{ta tv:TE}
theorem GO(he:PE X e ta)(hb:attributeBase e f X.env (eval e X.env)=eval e X.env):PE X (.Attribute e f pos) (tFld X.K ta f):=by
 intro Ac s σ H Q I h;refine eU hb (Dn (he Ac s σ H _ I h) fun u s1 _z=>?_);obtain⟨x,H1,I1,rx,a,C,dx,fs,v,ex,ea,c,n,l,q⟩:=_z;subst ex;obtain rfl:u=Value.ref a:=rx;exact Yw I1 ea c n l fun u' s2 I2 ru=>⟨v,H1,I2,ru,q⟩
theorem GL(ha:PE X o ta)(hv:PE X value tv)(hs:swapsWith value (some (.Attribute o f pos')) pos.line X.env=pure false):PS X (.Assign [.Attribute o f pos'] value pos) (jJ X.K ta tv f):=by
 intro Ac s σ H D I h;refine plainObj_wpAny_Assign_Attribute (Dn (hv Ac s σ H _ I h) fun u s1 ⟨y,H1,I1,ry,q⟩=>Dn (ha Ac s1 σ H1 _ I1 q) fun ov s2 _z=>?_) hs;obtain⟨x,H2,I2,rx,a,C,dx,fs,ex,ea,c,n,l,q2⟩:=_z;subst ex;obtain rfl:ov=Value.ref a:=rx;exact X7 I2 ea c n l ry fun s3 I3=>⟨σ,_,I3,q2⟩
theorem fM{pl:Sem Bool}{m:Str}{apos:Pos}{args:List Expr}{Ac:Bj}{s:Shared}{σ:St}{H:Hp}{Q:Value->Shared->Prop}{te:TE}(he:PE X e te)(I:Bk X Ac σ H s)
 (h:te σ H fun x H1=>∃a C dx fs g,x=.ref a/\H1 a=some (.ins C dx fs)/\Cls X.K C/\cU X.K C m g/\fs.lookup m=none ∧
   ∀s1,Bk X Ac σ H1 s1->wpAny (model X.prog X.w) X.A (callWith pos (.ref g) [.ref a] (backTo pos (starEach args X.env)) (backToKw pos (keywordEach [] X.env))) Q X.xe s1)
 (ht:eval (.Call (.Attribute e m apos) args [] pos) X.env=(do
   let ov ←eval e X.env
   standAt apos.atName
   let (f,first) ←holding [ov] (getMethod ov m pl)
   callWith pos f first (backTo pos (starEach args X.env)) (backToKw pos (keywordEach [] X.env)))) :
 wpAny (model X.prog X.w) X.A (eval (.Call (.Attribute e m apos) args [] pos) X.env) Q X.xe s:=by
 refine ql0 (pl:=pl) (Dn (he Ac s σ H _ I h) fun u s1 _z=>?_) ht;obtain⟨x,H1,I1,rx,a,C,dx,fs,g,ex,ea,c,k,l,q⟩:=_z;subst ex;obtain rfl:u=Value.ref a:=rx;exact Mb I1 ea c k l (q s1 I1)
end
section
variable{X:Cx}{Ac:Bj}{σ:St}{H:Hp}{s:Shared}{A:Around}{E:Value->Shared->Prop}{Q:Value->Shared->Prop}{c:Value}{b:Bool}
end
structure Et(k:Nat)(A:Around):Prop where
 hd:A.handled=none
 dp:A.depth+3*k+5<recursionLimit
 un:A.units+16*k+200<cLine
 gd:A.guards=some []
theorem Et.mono{j k:Nat}{A:Around}(r:Et k A)(h:j<=k):Et j A:=⟨r.hd,by have:=r.dp;omega,by have:=r.un;omega,r.gd⟩
theorem Et.deeper{k:Nat}{A:Around}(r:Et (k+1) A)(env:Env):Et k (A.deeper env) :=
 ⟨r.hd,by have:=r.dp;show A.depth+1+3*k+5<_;omega,by have:=r.un;show A.units+3+16*k+200<_;omega,r.gd⟩
theorem Yp{A:Around}{C:Addr}{us:List Value}{kw:List (Str × Value)}:(A.under (.builtin "type.__call__" ⟨.ref C::us,kw⟩)).depth=A.depth+1:=by
 first | rfl | simp[Around.under,Code.weight,Code.isCreation,Code.isGuard,Code.isCaller,Code.frames,Code.isFrame,guardIds]
theorem W7{A:Around}{C:Addr}{us:List Value}{kw:List (Str × Value)}:(A.under (.builtin "type.__call__" ⟨.ref C::us,kw⟩)).guards=A.guards:=by
 first | rfl | simp[Around.under,Code.weight,Code.isCreation,Code.isGuard,Code.isCaller,Code.frames,Code.isFrame,guardIds]
theorem Yo{A:Around}{C:Addr}{us:List Value}{kw:List (Str × Value)}:(A.under (.builtin "type.__call__" ⟨.ref C::us,kw⟩)).units=A.units+1:=by
 first | rfl | simp[Around.under,Code.cUnits,Code.frames,Code.isFrame]
theorem Et.make{k:Nat}{A:Around}(r:Et (k+1) A)(C:Addr)(us:List Value)(kw:List (Str × Value)):Et k (A.under (.builtin "type.__call__" ⟨.ref C::us,kw⟩)) :=
 ⟨r.hd,by have:=r.dp;rw[Yp];omega,by have:=r.un;rw[Yo];omega,by rw[W7];exact r.gd⟩
theorem Et.depth{k:Nat}{A:Around}(r:Et k A):A.depth<recursionLimit:=by have:=r.dp;omega
theorem Et.units{k:Nat}{A:Around}(r:Et k A):A.units+64<cLine:=by have:=r.un;omega
theorem Et.u8{k:Nat}{A:Around}(h:Et k A):A.units+8<cLine:=by
 have:=h.units;omega
noncomputable def GF:TA:=fun _ H Q=>Q [] H
noncomputable def jF(ta:TE)(tr:TA):TA:=fun σ H Q=>ta σ H fun x H1=>tr σ H1 fun xs H2=>Q (x::xs) H2
section
variable{X:Cx}{e:Expr}{es:List Expr}{te:TE}{t:TA}{pos:Pos}
theorem Ai:PA X [] GF:=fun _ _ _ _ H Q I h=>Calls.spliced_nil ⟨[],H,I,.nil,h⟩
theorem Aa(ha:PE X e te)(hr:PA X es t)(hs:starEach (e::es) X.env=(false,eval e X.env)::starEach es X.env:=by rfl):PA X (e::es) (jF te t):=by
 intro pos Ac s σ H Q I h;rw[hs];show wpAny _ _ (spliced ((false,eval e X.env)::backTo pos (starEach es X.env))) _ _ s;refine Calls.spliced_cons (Dn (ha Ac s σ H _ I h) fun u s1 _z=>?_);obtain⟨x,H1,I1,r1,q1⟩:=_z;exact Dn (hr pos Ac s1 σ H1 _ I1 q1) fun us s2 ⟨xs,H2,I2,r2,q2⟩=>⟨x::xs,H2,I2,.cons r1 r2,q2⟩
noncomputable def MF(t:TA):TE:=fun σ H Q=>t σ H fun xs H1=>xs.length<=sizeLine/\∀p,H1 p=none->Q (.ref p) (upd H1 p (.tup xs))
noncomputable def mH(t:TA):TE:=fun σ H Q=>t σ H fun xs H1=>xs.length<=sizeLine/\∀p,H1 p=none->Q (.ref p) (upd H1 p (.lst xs))
theorem E2{x1}(h:PA X es t):PE X (.Tuple es x1 pos) (MF t):=by
 intro Ac s σ H Q I hq;refine wpAny_Tuple_spliced (Dn (h pos Ac s σ H _ I hq) fun us s1 ⟨xs,H1,I1,r,z,q⟩=>⟨by rw[←r.length];exact z,?_⟩);have hf:H1 s1.heap.objs.size=none:=I1.hok.fresh (qa0 _);refine⟨.ref s1.heap.objs.size,upd H1 s1.heap.objs.size (.tup xs),I1.laid (t':=s1.toks) (fun b u e=>qa2 _ e) (qa0 _) ?_,rfl,q _ hf⟩;exact⟨z,us,r,⟨_,qb5 _ rfl,rfl,rfl,_,rfl⟩⟩
theorem Jb(h:PA X es t):PE X (.List es pos) (mH t):=by
 intro Ac s σ H Q I hq;refine wpAny_List_spliced (Dn (h pos Ac s σ H _ I hq) fun us s1 ⟨xs,H1,I1,r,z,q⟩=>⟨by rw[←r.length];exact z,?_⟩);have hf:H1 s1.heap.objs.size=none:=I1.hok.fresh (qa0 _);refine⟨.ref s1.heap.objs.size,upd H1 s1.heap.objs.size (.lst xs),I1.laid (t':=s1.toks) (fun b u e=>qa2 _ e) (qa0 _) ?_,rfl,q _ hf⟩;exact⟨z,us,0,r,qb5 _ rfl⟩
end
noncomputable abbrev Sp:=List V->Hp->VK->XK->Prop
noncomputable abbrev cV:=List Env->Hp->Shared->XK->Value->Shared->Prop
structure Zl(P:Program)(w:World)(K:W.Frag)(mg:Str->Option Value)(base:Heap)(A:Around)(outer:List Env)(s:Shared)(H:Hp):Prop where
 frames:A.frames=some outer
 mod:Mod K mg base
 bs:∀b o,base.get? b=some o->s.heap.get? b=some o/\H b=none
 bsz:base.objs.size<=s.heap.objs.size
 funs:s.heap.FunFrames base outer
 frf:∀b∈aS outer,H b=none
 hok:Pw P w H s.heap
 bare:AllBare s.gens
noncomputable def CE(outer:List Env)(P:Program)(w:World)(H:Hp)(s:Shared)(Q:VK)(u:Value)(s':Shared):Prop :=
 ∃v H',s'.os=s.os/\AllBare s'.gens/\Un (aS outer) [] H H' s.heap s'.heap/\Pw P w H' s'.heap/\RelV v u/\Q v H'
noncomputable def CR(CX:cV)(outer:List Env)(P:Program)(w:World)(H:Hp)(s:Shared)(Q:VK)(E:XK)(r:Result)(s':Shared):Prop :=
 match r with
 | .ok (.ret u)=>CE outer P w H s Q u s'
 | .ok _=>False
 | .error e=>CX outer H s E e s'
structure By(P:Program)(w:World)(K:W.Frag)(mg:Str->Option Value)(base:Heap)(CX:cV)(k:Nat)(f:Addr)(fd:FuncData)(ps:List Str)(sp:Sp):Prop where
 len:∀vs H Q E,sp vs H Q E->vs.length=ps.length
 run:∀(A:Around) (outer:List Env) (s:Shared) (H:Hp) (args:Args) (us:List Value) (vs:List V) (Q:VK) (E:XK),Et k A->Zl P w K mg base A outer s H->BindsTo s fd args (ps.zip us)->Bt vs us->sp vs H Q E →
  codeAny (model P w) A (.call (.ref f) args) (CR CX outer P w H s Q E) s
theorem Zl.make{P:Program}{w:World}{K:W.Frag}{mg:Str->Option Value}{base:Heap}{A:Around}{outer:List Env}{s:Shared}{H:Hp}(e:Zl P w K mg base A outer s H)(C:Addr)(us:List Value)(kw:List (Str × Value)) :
 Zl P w K mg base (A.under (.builtin "type.__call__" ⟨.ref C::us,kw⟩)) outer s H:=⟨by first | exact e.frames | (simpa[Around.under,Code.envs,Code.isFrame,pushEnvs]using e.frames),e.mod,e.bs,e.bsz,e.funs,e.frf,e.hok,e.bare⟩
section
variable{X:Cx}{Ac:Bj}{σ:St}{H:Hp}{s s':Shared}
theorem Bk.env0(I:Bk X Ac σ H s):Zl X.prog X.w X.K X.mg X.base X.A X.stack s H :=
 ⟨I.ok.frames,I.ok.mod,I.bs,qa1 I.ok.bsz I.sz,I.stack,I.stkFree,I.hok,I.bare⟩
theorem Bk.after{Q:VK}{u:Value}(I:Bk X Ac σ H s)(h:CE X.stack X.prog X.w H s Q u s'):EP X Ac σ Q u s':=by
 obtain⟨v,H',os,bare,un,hok,r,q⟩:=h;obtain⟨hh,g,d,t,os'⟩:=s';obtain rfl:os'=s.os:=os;exact⟨v,H',I.call (h':=hh) (g':=g) (d':=d) (t':=t) (ch:=[]) un hok bare (fun b z=>absurd z (by simp)),r,q⟩
end
noncomputable def tCall(sp:Sp)(dvs:List V)(E:XK)(t:TA):TE:=fun σ H Q=>t σ H fun vs H1=>sp (vs++dvs) H1 Q E
noncomputable def Zr(C:Addr)(m:Str)(sp:Sp)(dvs:List V)(E:XK)(ta:TE)(t:TA):TE:=fun σ H Q=>ta σ H fun x H1=>∃a dx fs,x=.ref a/\H1 a=some (.ins C dx fs)/\fs.lookup m=none ∧
 t σ H1 fun vs H2=>sp (x::(vs++dvs)) H2 Q E
noncomputable def FD(C:Addr)(sp:Sp)(dvs:List V)(E:XK)(t:TA):TE:=fun σ H Q=>t σ H fun vs H1=>∀x dx,H1 x=none->H1 dx=none->dx≠x →
 sp (.ref x::(vs++dvs)) (upd (upd H1 dx (.own x)) x (.ins C dx [])) (fun v H2=>v=.non/\Q (.ref x) H2) E
noncomputable def Ir(K:W.Frag)(fd:FuncData)(ps:List Str)(ds:List Value):Prop :=
 ∀(s:Shared) (us:List Value),K.In s.heap->(us++ds).length=ps.length->BindsTo s fd ⟨us,[]⟩ (ps.zip (us++ds))
theorem Ir.all{K:W.Frag}{fd:FuncData}{ps:List Str}(h:∀us:List Value,us.length=ps.length->bindArgs fd ⟨us,[]⟩=pure (ps.zip us)):Ir K fd ps []:=fun s us _ hl=>by
 rw[List.append_nil]at hl ⊢;exact .of_eq (h us hl)
noncomputable def Mg(CX:cV)(X:Cx)(E:XK):Prop:=∀(Ac:Bj) (σ:St) (H:Hp) (s:Shared) (e:Value) (s':Shared),Bk X Ac σ H s->CX X.stack H s E e s'->X.xe e s'
section
variable{X:Cx}{CX:cV}{k:Nat}{f C:Addr}{fd:FuncData}{ps:List Str}{sp:Sp}{dvs:List V}{ds:List Value}{E:XK}{x m:Str}{p pos apos:Pos}{e o:Expr}{es:List Expr}{ta:TE}{t:TA}
theorem Ur{Ac:Bj}{σ:St}{H:Hp}{s:Shared}{Q:VK}{us:List Value}{vs:List V}(F:By X.prog X.w X.K X.mg X.base CX k f fd ps sp)(hr:Et k X.A)(hb:Ir X.K fd ps ds)(hd:Bt dvs ds)(hx:Mg CX X E)
 (I:Bk X Ac σ H s) (r:Bt vs us) (h:sp (vs++dvs) H Q E):wpAny (model X.prog X.w) X.A (call (.ref f) us) (EP X Ac σ Q) X.xe s:=by
 have r2:Bt (vs++dvs) (us++ds):=r.append hd;have hl:(us++ds).length=ps.length:=by rw[←r2.length];exact F.len _ _ _ _ h
 refine wpAny_call (codeAny_mono (F.run X.A X.stack s H ⟨us,[]⟩ (us++ds) (vs++dvs) Q E hr I.env0 (hb s us I.kIn hl) r2 h) fun r s' hq=>?_);cases r with
 | error e=>exact hx Ac σ H s e s' I hq
 | ok fl =>
   cases fl with
   | ret u=>exact I.after hq
   | next=>exact False.elim hq
   | brk=>exact False.elim hq
   | cont=>exact False.elim hq
theorem DU(F:By X.prog X.w X.K X.mg X.base CX k f fd ps sp)(hr:Et k X.A)(hg:Gl X x)(hm:X.mg x=some (.ref f))(hk:W.keepIn X.K (.ref f)=true)(hb:Ir X.K fd ps ds)(hd:Bt dvs ds)(hx:Mg CX X E)
 (ha:PA X (e::es) t) (hdb:(x==("__debug__":Str))=false:=by decide) (he:starEach (e::es) X.env=(false,eval e X.env)::starEach es X.env:=by rfl) (hpl:(backTo pos (starEach es X.env)).any (·.1)=false:=by rfl) :
 PE X (.Call (.Name x p) (e::es) [] pos) (tCall sp dvs E t):=by
 intro Ac s σ H Q I h;refine qn3 (Pz I hg hm ?_ hdb);refine qm3 (h₀:=X.base) I.ok.mod.kin hk (Dn (ha pos Ac s σ H _ I h) fun us s1 ⟨vs,H1,I1,r,q⟩=>⟨I1.kIn,?_⟩) he hpl;exact Ur F hr hb hd hx I1 r q
theorem DS{pl:Sem Bool}(he:PE X o ta)(c:Cls X.K C)(hm:cU X.K C m f)(F:By X.prog X.w X.K X.mg X.base CX k f fd ps sp)(hr:Et k X.A)(hb:Ir X.K fd ps ds)(hd:Bt dvs ds)(hx:Mg CX X E)(ha:PA X (e::es) t)
 (hst:starEach (e::es) X.env=(false,eval e X.env)::starEach es X.env:=by rfl) (hpl:(backTo pos (starEach es X.env)).any (·.1)=false:=by rfl)
 (ht:eval (.Call (.Attribute o m apos) (e::es) [] pos) X.env=(do
   let ov ←eval o X.env
   standAt apos.atName
   let (f,first) ←holding [ov] (getMethod ov m pl)
   callWith pos f first (backTo pos (starEach (e::es) X.env)) (backToKw pos (keywordEach [] X.env))):=by rfl) :
 PE X (.Call (.Attribute o m apos) (e::es) [] pos) (Zr C m sp dvs E ta t):=by
 intro Ac s σ H Q I h;refine ql0 (pl:=pl) (Dn (he Ac s σ H _ I h) fun u s1 _z=>?_) ht;obtain⟨x,H1,I1,rx,a,dx,fs,ex,ea,l,q⟩:=_z;subst ex;obtain rfl:u=Value.ref a:=rx;refine Mb I1 ea c hm l ?_;refine qm3 (first:=[.ref a]) (h₀:=X.base) I.ok.mod.kin hm.kp (Dn (ha pos Ac s1 σ H1 _ I1 q) fun us s2 ⟨vs,H2,I2,r,q2⟩=>⟨I2.kIn,?_⟩) hst hpl;exact Ur (us:=.ref a::us) (vs:=.ref a::vs) F hr hb hd hx I2 (.cons rfl r) q2
theorem bL{pl:Sem Bool}(he:PE X o ta)(c:Cls X.K C)(hm:cU X.K C m f)(F:By X.prog X.w X.K X.mg X.base CX k f fd ps sp)(hr:Et k X.A)(hb:Ir X.K fd ps ds)(hd:Bt dvs ds)(hx:Mg CX X E)
 (ht:eval (.Call (.Attribute o m apos) [] [] pos) X.env=(do
   let ov ←eval o X.env
   standAt apos.atName
   let (f,first) ←holding [ov] (getMethod ov m pl)
   callWith pos f first (backTo pos (starEach [] X.env)) (backToKw pos (keywordEach [] X.env))):=by rfl) :
 PE X (.Call (.Attribute o m apos) [] [] pos) (Zr C m sp dvs E ta GF):=by
 intro Ac s σ H Q I h;refine ql0 (pl:=pl) (Dn (he Ac s σ H _ I h) fun u s1 _z=>?_) ht;obtain⟨x,H1,I1,rx,a,dx,fs,ex,ea,l,q⟩:=_z;subst ex;obtain rfl:u=Value.ref a:=rx;refine Mb I1 ea c hm l ?_;exact PySem.W.callWith_K0 (first:=[.ref a]) I1.kIn hm.kp (Ur (us:=[.ref a]) (vs:=[.ref a]) F hr hb hd hx I1 (.cons rfl .nil) q)
structure Mk(K:W.Frag)(C f:Addr):Prop where
 makes:PySem.W.makesIn K C=true
 init:W.findIn K (.ref C) "__init__"=some (some (.ref f))
 fn:W.isFn K (.ref f)=true
 kp:W.keepIn K (.ref C)=true
theorem bH{Ac:Bj}{σ:St}{H:Hp}{s:Shared}{Q:VK}{us:List Value}{vs:List V}(M:Mk X.K C f)(F:By X.prog X.w X.K X.mg X.base CX k f fd ps sp)(hr:Et (k+1) X.A)(hb:Ir X.K fd ps ds)(hd:Bt dvs ds)
 (hx:Mg CX X E) (I:Bk X Ac σ H s) (r:Bt vs us)
 (h:∀x dx,H x=none->H dx=none->dx≠x->sp (.ref x::(vs++dvs)) (upd (upd H dx (.own x)) x (.ins C dx [])) (fun v H2=>v=.non/\Q (.ref x) H2) E) :
 wpAny (model X.prog X.w) X.A (call (.ref C) us) (EP X Ac σ Q) X.xe s:=by
 have hq:=h (s.heap.objs.size+1) s.heap.objs.size (I.hok.fresh (qk7 _)) (I.hok.fresh (qa0 _)) (qc4 (Nat.lt_succ_self _));have I2:=Bk.made (C:=C) I;have r2:Bt (V.ref (s.heap.objs.size+1)::(vs++dvs)) (Value.ref (s.heap.objs.size+1)::(us++ds)):=.cons rfl (r.append hd)
 have hl:(Value.ref (s.heap.objs.size+1)::us++ds).length=ps.length:=by
  have e:=r2.length;rw[F.len _ _ _ _ hq]at e;exact e.symm
 refine wpAny_call (bW (f:=f) I.kIn M.makes M.init (qp2.mp M.fn) (codeAny_mono (F.run _ X.stack _ _ ⟨Value.ref (s.heap.objs.size+1)::us,[]⟩ (Value.ref (s.heap.objs.size+1)::(us++ds)) _ _ E (hr.make C us [])
  (I2.env0.make C us []) (hb _ (Value.ref (s.heap.objs.size+1)::us) I2.kIn hl) r2 hq) fun r s' hq'=>?_))
 cases r with
 | error e=>exact hx Ac σ _ _ e s' I2 hq'
 | ok fl =>
   cases fl with
   | ret u =>
     obtain⟨v,H',I3,rv,ev,q3⟩:=I2.after hq';subst ev;exact⟨rv,⟨V.ref (s.heap.objs.size+1),H',I3,rfl,q3⟩⟩
   | next=>exact False.elim hq'
   | brk=>exact False.elim hq'
   | cont=>exact False.elim hq'
theorem DT(M:Mk X.K C f)(F:By X.prog X.w X.K X.mg X.base CX k f fd ps sp)(hr:Et (k+1) X.A)(hg:Gl X x)(hm:X.mg x=some (.ref C))(hb:Ir X.K fd ps ds)(hd:Bt dvs ds)(hx:Mg CX X E)
 (ha:PA X (e::es) t) (hdb:(x==("__debug__":Str))=false:=by decide) (he:starEach (e::es) X.env=(false,eval e X.env)::starEach es X.env:=by rfl) (hpl:(backTo pos (starEach es X.env)).any (·.1)=false:=by rfl) :
 PE X (.Call (.Name x p) (e::es) [] pos) (FD C sp dvs E t):=by
 intro Ac s σ H Q I h;refine qn3 (Pz I hg hm ?_ hdb);refine qm3 (h₀:=X.base) I.ok.mod.kin M.kp (Dn (ha pos Ac s σ H _ I h) fun us s1 ⟨vs,H1,I1,r,q⟩=>⟨I1.kIn,?_⟩) he hpl;exact bH M F hr hb hd hx I1 r q
end
section
variable{X:Cx}{CX:cV}{k:Nat}{f C:Addr}{fd:FuncData}{ps ks:List Str}{sp:Sp}{E:XK}{x m:Str}{p pos apos kpos:Pos}{e o:Expr}{es:List Expr}{kws:List Keyword}{te ta:TE}{t tk:TA}{nm:Option Str}
variable{g:List Value->List Value->List Value}{gV:List V->List V->List V}
end
structure FnScope(N P:List Str)(sc:Scope):Prop where
 kind:sc.kind=.function
 co:sc.isCoroutine=false
 gen:sc.isGenerator=false
 nd:N.Nodup
 pre:N.take P.length=P
 par:∀x∈P,sc.names.lookup x=some .local\/sc.names.lookup x=some .cell
 nofree:∀y∈sc.names,y.2≠.free
theorem T6{kindOf:Str->Option NameKind}{x:Str}:∀{binds:List (Str × Value)}{m:Str->Option Value},(∀v,(x,v) ∉ binds)->bindL kindOf binds m x=m x
 | [],_,_=>rfl
 | (n,v)::r,m,h=>by
   unfold bindL;rw[T6 fun w hw=>h w (qd2 _ hw)];split
   . have:x≠n:=by rintro rfl;exact h v qg6
     simp[this]
   . rfl
theorem Bn{N P:List Str}{sc:Scope}(h1:sc.kind=.function:=by exact rfl)(h2:sc.isCoroutine=false:=by exact rfl)(h3:sc.isGenerator=false:=by exact rfl)(h4:N.Nodup:=by decide +kernel)(h5:N.take P.length=P:=by exact rfl)
 (h6:∀x∈P,sc.names.lookup x=some .local\/sc.names.lookup x=some .cell:=by decide +kernel) (h7:∀y∈sc.names,y.2≠.free:=by decide +kernel):FnScope N P sc:=⟨h1,h2,h3,h4,h5,h6,h7⟩
theorem T8{kindOf:Str->Option NameKind}{x:Str}:∀{binds:List (Str × Value)}{m:Str->Option Value},(∀v,(x,v) ∉ binds)->bindC kindOf binds m x=m x
 | [],_,_=>rfl
 | (n,v)::r,m,h=>by
   unfold bindC;rw[T8 fun w hw=>h w (qd2 _ hw)];split
   . rfl
   . have:x≠n:=by rintro rfl;exact h v qg6
     simp[this]
theorem T7{kindOf:Str->Option NameKind}{x:Str}{v:Value}:∀{P:List Str}{vs:List Value}{i:Nat}{m:Str->Option Value},P.Nodup->P[i]?=some x->vs[i]?=some v->kindOf x=some .local →
 bindL kindOf (P.zip vs) m x=some v
 | [],_,_,_,_,h,_,_=>by simp at h
 | _::_,[],_,_,_,_,h,_=>by simp at h
 | p::P,w::vs,0,m,nd,h1,h2,hk=>by
   simp at h1 h2;subst h1;subst h2;show bindL kindOf ((p,w)::P.zip vs) m p=_;unfold bindL;rw[T6 fun v hv=>(qn8.mp nd).1 (List.of_mem_zip hv).1,if_pos hk];simp
 | p::P,w::vs,i+1,m,nd,h1,h2,hk=>by
   show bindL kindOf ((p,w)::P.zip vs) m x=_;unfold bindL;exact T7 (i:=i) (qn8.mp nd).2 (by simpa using h1) (by simpa using h2) hk
theorem T9{kindOf:Str->Option NameKind}{x:Str}{v:Value}:∀{P:List Str}{vs:List Value}{i:Nat}{m:Str->Option Value},P.Nodup->P[i]?=some x->vs[i]?=some v->kindOf x≠some .local →
 bindC kindOf (P.zip vs) m x=some v
 | [],_,_,_,_,h,_,_=>by simp at h
 | _::_,[],_,_,_,_,h,_=>by simp at h
 | p::P,w::vs,0,m,nd,h1,h2,hk=>by
   simp at h1 h2;subst h1;subst h2;show bindC kindOf ((p,w)::P.zip vs) m p=_;unfold bindC;rw[T8 fun v hv=>(qn8.mp nd).1 (List.of_mem_zip hv).1,if_neg hk];simp
 | p::P,w::vs,i+1,m,nd,h1,h2,hk=>by
   show bindC kindOf ((p,w)::P.zip vs) m x=_;unfold bindC;exact T9 (i:=i) (qn8.mp nd).2 (by simpa using h1) (by simpa using h2) hk
noncomputable def start(N:List Str)(vs:List V):St:=vs.map some++List.replicate (N.length-vs.length) none
noncomputable def AE(CX:cV)(P:Program)(w:World)(K:W.Frag)(mg:Str->Option Value)(base:Heap)(N:List Str)(qual:Str)(scope:Scope)(f:Addr)(cd:Value)(A:Around)(outer:List Env)(s:Shared)(H:Hp)(E:XK):Cx where
 prog:=P
 w:=w
 K:=K
 mg:=mg
 base:=base
 A:=A.deeper (envOfC qual scope s.heap.objs.size f cd)
 N:=N
 s₀:=s
 H₀:=H
 env:=envOfC qual scope s.heap.objs.size f cd
 outer:=outer
 stack:=envOfC qual scope s.heap.objs.size f cd::outer
 ex:=[]
 calm:=true
 fn:=fun _=>true
 pn:=[]
 xe:=fun e s'=>wpAny (model P w) (A.deeper (envOfC qual scope s.heap.objs.size f cd)) (leaving (envOfC qual scope s.heap.objs.size f cd) e) (fun _ s''=>CX outer H s E e s'') (fun e' s''=>CX outer H s E e' s'') s'
theorem Xq{sc:Scope}{n:Nat}{x:Str}(h:sc.names.lookup x=some .cell):∃c,(cellsFrom n sc.names []).lookup x=some c:=by
 have q:=PySem.W.cellsFrom_some sc.names n [] (.inl h);exact Option.isSome_iff_exists.mp q
theorem v9{CX:cV}{P:Program}{w:World}{K:W.Frag}{mg:Str->Option Value}{base:Heap}{N ps:List Str}{qual:Str}{scope:Scope}{f:Addr}{cd:Value}{A:Around}{outer:List Env}{s s1:Shared}{H:Hp}{E:XK}{us:List Value}{vs:List V}
 (S:FnScope N ps scope) (hd:A.handled=none) (e0:Zl P w K mg base A outer s H) (hl:vs.length=ps.length) (r:Bt vs us)
 (x:InCallC s s.heap.objs.size (bindL (envOfC qual scope s.heap.objs.size f cd).kindOf (ps.zip us) fun _=>none) (cellsFrom (s.heap.objs.size+1) scope.names []) (bindC (envOfC qual scope s.heap.objs.size f cd).kindOf (ps.zip us) fun _=>none) s1) :
 Bk (AE CX P w K mg base N qual scope f cd A outer s H E) [] (start N vs) H s1:=by
 have hpl:ps.length<=N.length:=by have:=congrArg List.length S.pre;rw[qg0]at this;omega
 obtain⟨h1,tk,rfl,hk⟩:=x.done;have jT:∀b:Addr,b ∉ (AE CX P w K mg base N qual scope f cd A outer s H E).ex:=fun b z=>absurd (show b∈([]:List Addr) from z) (by simp)
 refine⟨⟨e0.mod,S.kind,rfl,rfl,qa0 _,fun y z c h1 h2=>?_,fun y hy=>?_,fun y c _ h=>?_,fun _=>hd,Around.frames_deeper e0.frames,.inr ⟨rfl,rfl⟩,fun b z=>absurd z (jT b),e0.bs,e0.bsz,fun b _ _=>jT b,fun b z=>absurd z (jT b),e0.funs,e0.frf⟩,
  rfl,e0.bare,Un.kept hk,⟨_,x.toInCall.ns,fun i y v h1 h2 h3=>?_⟩,fun y c h=>⟨_,x.cell y c h⟩,e0.hok.fresh (qa0 _),fun y c h=>?_,fun p hp=>absurd (show p∈([]:Bj) from hp) (by simp),e0.hok.kept hk,?_⟩
 . exact name_of_addr x.apart (qj5 h1) (qj5 h2)
 . have hy:scope.names.lookup y=some .cell\/scope.names.lookup y=some .free:=hy;rcases hy with hy | hy
   . exact Xq hy
   . exact absurd rfl (S.nofree _ (qj5 hy))
 . exact qc2 (x.above y c (qj5 h))
 . have hi:i<vs.length:=by
    unfold start at h2;by_cases hi:i<vs.length
    . exact hi
    . rw[qm2 (by simpa using hi)]at h2;rw[List.getElem?_replicate]at h2;split at h2<;>cases h2
   have ha:vs[i]?=some v:=by
    unfold start at h2;rw[qj3 (by simpa using hi),qc1]at h2;cases e:vs[i]? with
    | none=>rw[e]at h2;cases h2
    | some a=>rw[e]at h2;cases h2;rfl
   obtain⟨u,hu,rv⟩:=r.get ha
   have hp:ps[i]?=some y:=by
    rw[←S.pre,List.getElem?_take_of_lt (by omega)];exact h1
   have OT:ps.Nodup:=by rw[←S.pre];exact S.nd.sublist (List.take_sublist _ _)
   refine⟨u,rv,?_⟩;rcases S.par y (qh6 hp) with k | k
   . exact .inl ⟨k,T7 OT hp hu k⟩
   . obtain⟨c,e⟩:=Xq (n:=s.heap.objs.size+1) k;refine .inr ⟨.inl k,c,e,?_⟩;have q:=x.cell y c e;rw[T9 OT hp hu (by show scope.names.lookup y≠_;rw[k];decide)]at q;exact q
 . exact e0.hok.fresh (qc2 (x.above y c (qj5 h)))
 . unfold start;show _=N.length;rw[qf3,qa3,List.length_replicate];omega
theorem KN{CX:cV}{P:Program}{w:World}{K:W.Frag}{mg:Str->Option Value}{base:Heap}{k:Nat}{f:Addr}{name qual:Str}{params:Arguments}{body:List Stmt}{scope:Scope}{dV kV doc pm Dp ct oc:Value}{an od:OAddr}
 {osl:Pg}{N ps:List Str}{sp:Sp} (lk:K.lookup f=some ⟨oc,od,.func (W.fnOf name qual params body scope dV kV doc pm an Dp ct),osl⟩) (hcd:W.codeIn K Dp qual=true) (S:FnScope N ps scope)
 (len:∀vs H Q E,sp vs H Q E->vs.length=ps.length)
 (hbody:∀(A:Around) (outer:List Env) (s:Shared) (H:Hp) (vs:List V) (Q:VK) (E:XK),Et k (A.deeper (envOfC qual scope s.heap.objs.size f Dp))->sp vs H Q E →
   ∃t,aQ (AE CX P w K mg base N qual scope f Dp A outer s H E) body t/\t { nx:=fun _ H'=>Q .non H',rt:=Q } (start N vs) H) :
 By P w K mg base CX (k+1) f (W.fnOf name qual params body scope dV kV doc pm an Dp ct) ps sp:=by
 refine⟨len,fun A outer s H args us vs Q E hr e0 hb r CY=>?_⟩;have hl:=len _ _ _ _ CY;have KX:K.In s.heap:=e0.mod.kin.keeps fun b o e=>(e0.bs b o e).1;have lim:s.heap.NoLimit:=e0.mod.nolimit.keeps fun b o e=>(e0.bs b o e).1
 have hkind:∀y∈ps.zip us,scope.names.lookup y.1=some .local\/(scope.names.lookup y.1=some .cell/\((cellsFrom (s.heap.objs.size+1) scope.names []).lookup y.1).isSome=true):=fun⟨n,v⟩ hy=>by
  rcases S.par n (List.of_mem_zip hy).1 with q | q
  . exact .inl q
  . exact .inr ⟨q,PySem.W.cellsFrom_some _ _ _ (.inl q)⟩
 refine codeAny_call_function hr.depth (KX _ _ lk) rfl S.co S.gen rfl (PySem.W.codeRec_of KX hcd) (hb _ _ _ _ ?_);refine wpAny_newFunctionEnv_cells S.kind hkind fun env he s1 x=>?_;subst he;refine⟨lim.keeps x.toInCall.keep,codeAny_func ?_⟩;obtain⟨t,ht,hq⟩:=hbody A outer s H vs Q E (hr.deeper _) CY;have I:Bk (AE CX P w K mg base N qual scope f Dp A outer s H E) [] (start N vs) H s1:=v9 S hr.hd e0 hl r x;refine qk3 (ht [] s1 (start N vs) H _ I hq) (fun fl s' hs=>?_) fun e s' hs=>hs
 have fin:∀{σ':St}{H':Hp}{v:V}{u:Value},Bk (AE CX P w K mg base N qual scope f Dp A outer s H E) [] σ' H' s'->RelV v u->Q v H'->CE outer P w H s Q u s' :=
  fun {σ' H' v u} J rv q=>⟨v,H',J.os,J.bare,J.base,J.hok,rv,q⟩
 cases fl with
 | ret u =>
   obtain⟨v,σ',H',J,rv,q⟩:=hs;exact fin J rv q
 | next =>
   obtain⟨σ',H',J,q⟩:=hs;exact fin (v:=V.non) (u:=Value.none) J rfl q
 | brk =>
   obtain⟨_,_,_,q⟩:=hs;exact False.elim q
 | cont =>
   obtain⟨_,_,_,q⟩:=hs;exact False.elim q
section
variable{X:Cx}{x:Str}{p pos:Pos}{e:Expr}{es:List Expr}{t:TA}{id T:String}{r:List V->Hp->VK->Prop}
noncomputable def OL(r:List V->Hp->VK->Prop)(t:TA):TE:=fun σ H Q=>t σ H fun vs H1=>r vs H1 Q
theorem Bf(hc:Fd X (.builtin id) r)(hm:X.mg x=none)(hv:bootBuiltins x=some (.builtin id))(ha:PA X (e::es) t)(hg:Gl X x:=by rfl)(hn:x≠"__name__":=by decide)(hdb:(x==("__debug__":Str))=false:=by decide)
 (he:starEach (e::es) X.env=(false,eval e X.env)::starEach es X.env:=by rfl) (hpl:(backTo pos (starEach es X.env)).any (·.1)=false:=by rfl):PE X (.Call (.Name x p) (e::es) [] pos) (OL r t):=by
 intro Ac s σ H Q I h;refine qn3 (Jd I hg hm hv ?_ hn hdb);exact PyProof.Rows.callWith_builtin1 (Dn (ha pos Ac s σ H _ I h) fun us s1 ⟨vs,H1,I1,r1,q1⟩=>hc Ac s1 σ H1 vs us Q I1 r1 q1) he hpl
theorem D7(hc:Fd X (.type T) r)(hg:Gl X x)(hm:X.mg x=none)(hv:bootBuiltins x=some (.type T))(ha:PA X (e::es) t)(hn:x≠"__name__":=by decide)(hdb:(x==("__debug__":Str))=false:=by decide)
 (he:starEach (e::es) X.env=(false,eval e X.env)::starEach es X.env:=by rfl) (hpl:(backTo pos (starEach es X.env)).any (·.1)=false:=by rfl):PE X (.Call (.Name x p) (e::es) [] pos) (OL r t):=by
 intro Ac s σ H Q I h;refine qn3 (Jd I hg hm hv ?_ hn hdb);exact qf0 (Dn (ha pos Ac s σ H _ I h) fun us s1 ⟨vs,H1,I1,r1,q1⟩=>hc Ac s1 σ H1 vs us Q I1 r1 q1) he hpl
end
end L2
namespace HT
open PySem PyProof.Rows
section
open PySem.SeqAt
open PySem.AutoSeq1 (wpAny_loadPart')
open PySem.MeetsSeq PySem.MeetsSeq2 PySem.MeetsSeq3
end
section
variable{prog:Program}{w:World}{A:Around}{E:Value->Shared->Prop}{s:Shared}
noncomputable def sIx(n d:Nat):Option Int->Nat
 | none=>d
 | some v=>if v<0 then(v+(n:Int)).toNat else min v.toNat n
theorem sIx_none(n d:Nat):sIx n d none=d:=rfl
theorem sIx_nat(n d k:Nat):sIx n d (some (k:Int))=min k n:=by
 show(if (k:Int)<0 then((k:Int)+(n:Int)).toNat else min (k:Int).toNat n)=min k n;rw[if_neg (by omega),qb6]
end
end HT
namespace L2
open PySem PySem.Spec PyProof.Rows
noncomputable abbrev TO:=St->Hp->(Option Int->Hp->Prop)->Prop
noncomputable def PO(X:Cx)(e:Option Expr)(t:TO):Prop :=
 ∀(Ac:Bj) (s:Shared) (σ:St) (H:Hp) (Q:Option Int->Hp->Prop),Bk X Ac σ H s->t σ H Q →
   wpAny (model X.prog X.w) X.A (evalPart e X.env) (fun u s'=>∃o H',Bk X Ac σ H' s'/\IsPart u o/\Q o H') X.xe s
noncomputable def DG:TO:=fun _ H Q=>Q none H
noncomputable def jD(t:TE):TO:=fun σ H Q=>t σ H fun x H1=>∃i,x=.int i/\Q (some i) H1
section
variable{X:Cx}{e:Expr}{te:TE}{lo hi:Option Expr}{tl th:TO}{pos p2:Pos}
theorem Ut:PO X none DG:=by
 intro Ac s σ H Q I h;rw[evalPart_none];exact qd8 ⟨none,H,I,.none,h⟩
theorem Mt(h:PE X e te):PO X (some e) (jD te):=by
 intro Ac s σ H Q I hw;rw[evalPart_some];refine Dn (h Ac s σ H _ I hw) fun u s1 _z=>?_;obtain⟨x,H1,I1,r1,q1⟩:=_z;obtain⟨i,rfl,q⟩:=q1;obtain⟨t,rfl⟩:=r1;exact⟨some i,H1,I1,.int i t,q⟩
noncomputable def oB(X:Cx)(r:V->Option Int->Option Int->Hp->VK->Prop):Prop :=
 ∀(Ac:Bj) (s:Shared) (σ:St) (H:Hp) (x:V) (v vl vu:Value) (lo hi:Option Int) (sl:Addr) (Q:VK),Bk X Ac σ H s->RelV x v->s.heap.IsSliceOf sl vl vu .none->IsPart vl lo->IsPart vu hi->r x lo hi H Q →
   ∃T id,typeLookup (.type T) "__getitem__"=pure (some (.builtin id))/\s.TypeIs v T/\wpAny (model X.prog X.w) X.A (getItem v (.ref sl)) (EP X Ac σ Q) X.xe s
noncomputable def QJ(r:V->Option Int->Option Int->Hp->VK->Prop)(te:TE)(tl th:TO):TE:=fun σ H Q=>te σ H fun x H1=>tl σ H1 fun l H2=>th σ H2 fun u H3=>r x l u H3 Q
theorem Mu{r:V->Option Int->Option Int->Hp->VK->Prop}(hr:oB X r)(he:PE X e te)(hl:PO X lo tl)(hu:PO X hi th):PE X (.Subscript e (.Slice lo hi none p2) pos) (QJ r te tl th):=by
 intro Ac s σ H Q I h;refine Subscript_ (Dn (he Ac s σ H _ I h) fun v s1 _z=>?_);obtain⟨x,H1,I1,r1,q1⟩:=_z;refine wpAny_Slice (Dn (hl Ac s1 σ H1 _ I1 q1) fun vl s2 ⟨l,H2,I2,pl,q2⟩=>Dn (hu Ac s2 σ H2 _ I2 q2) fun vu s3 _z=>?_);obtain⟨u,H3,I3,pu,q3⟩:=_z;rw[evalPart_none];refine qd8 ?_;have I4:Bk X Ac σ H3 { s3 with heap:=s3.heap.push { cls:=.type "slice",data:=.fields #[vl,vu,.none] } }:=I3.kept (t':=s3.toks) fun b ob q=>qa2 _ q;obtain⟨T,id,hT,ht,hg⟩:=hr Ac { s3 with heap:=s3.heap.push { cls:=.type "slice",data:=.fields #[vl,vu,.none] } } σ H3 x v vl vu l u s3.heap.objs.size Q I4 r1 (Heap.IsSliceOf.new ..) pl pu q3;show wpAny (model X.prog X.w) X.A (subscriptTail e (.Slice lo hi none p2) v (.ref s3.heap.objs.size)) (EP X Ac σ Q) X.xe { s3 with heap:=s3.heap.push { cls:=.type "slice",data:=.fields #[vl,vu,.none] } };exact tail_any (ops:=[.ref s3.heap.objs.size,v]) ht hT hg (by with_unfolding_all rfl)
noncomputable def Md(xs:List V)(lo hi:Option Int):List V:=(xs.drop (HT.sIx xs.length 0 lo)).take (HT.sIx xs.length xs.length hi-HT.sIx xs.length 0 lo)
theorem Xo(xs:List V)(lo hi:Option Int):(Md xs lo hi).length<=xs.length:=by
 unfold Md;rw[qg0,qi3];omega
end
noncomputable def Xa(n:Nat)(i:Int):Option Nat:=if 0<=i then(if i<n then some i.toNat else none) else if -(n:Int)<=i then some (i+n).toNat else none
noncomputable def aT{α:Type}(xs:List α)(i:Int):Option α:=(Xa xs.length i).bind fun j=>xs[j]?
theorem a9{n:Nat}{i:Int}{j:Nat}(h:Xa n i=some j):seqIndex? i n=some j/\j<n/\-(n:Int)<=i/\i<n:=by
 unfold Xa at h;by_cases h0:0<=i
 . rw[if_pos h0]at h;by_cases h1:i<n
   . rw[if_pos h1]at h;have e:i.toNat=j:=qe6 h;exact⟨by rw[seqIndex_of h0 h1,e],O9m,O9m,h1⟩
   . rw[if_neg h1]at h;cases h
 . rw[if_neg h0]at h;by_cases h1:-(n:Int)<=i
   . rw[if_pos h1]at h;have e:(i+n).toNat=j:=qe6 h;exact⟨by rw[seqIndex_neg (by omega) h1,e],O9m,h1,O9m⟩
   . rw[if_neg h1]at h;cases h
theorem g6{α:Type}{xs:List α}{i:Int}{v:α}(h:aT xs i=some v):∃j,seqIndex? i xs.length=some j/\xs[j]?=some v/\j<xs.length/\-(xs.length:Int)<=i/\i<xs.length:=by
 unfold aT at h;cases e:Xa xs.length i with
 | none=>rw[e]at h;cases h
 | some j =>
   rw[e]at h;obtain⟨h1,h2,h3,h4⟩:=a9 e;exact⟨j,h1,h,h2,h3,h4⟩
theorem Bi{α:Type}{xs:List α}{j:Nat}{v:α}(h:xs[j]?=some v):aT xs (j:Int)=some v:=by
 have hj:j<xs.length:=(qb2.mp h).1
 have e:Xa xs.length (j:Int)=some j:=by
  unfold Xa;rw[if_pos (by omega),if_pos (by omega)];simp
 unfold aT;rw[e];exact h
noncomputable def eY(b:Expr):Prop:=∀o i,subscripted b false o i=operate [o,i] (getItem o i)
noncomputable def kZ(X:Cx)(r:R2):Prop :=
 ∀(value slice:Expr) (Ac:Bj) (s:Shared) (σ:St) (H:Hp) (x y:V) (v u:Value) (Q:VK),Bk X Ac σ H s->RelV x v->RelV y u->r x y H Q →
   subscripted slice false v u=operate [v,u] (getItem v u)->wpAny (model X.prog X.w) X.A (subscriptTail value slice v u) (EP X Ac σ Q) X.xe s
noncomputable def QD(X:Cx)(id:String)(r:V->List V->Hp->VK->Prop):Prop :=
 ∀(Ac:Bj) (s:Shared) (σ:St) (H:Hp) (x:V) (xs:List V) (v:Value) (us:List Value) (Q:VK),Bk X Ac σ H s->RelV x v->Bt xs us->r x xs H Q →
   wpAny (model X.prog X.w) X.A (call (.builtin id) (v::us)) (EP X Ac σ Q) X.xe s
section
variable{X:Cx}{a b:Expr}{ta tb:TE}{pos:Pos}
theorem Aw{r:R2}(hr:kZ X r)(ha:PE X a ta)(hb:PE X b tb)(hs:eY b):PE X (.Subscript a b pos) (LF r ta tb):=by
 intro Ac s σ H Q I h;exact Subscript_ (iB ha hb I h fun v u s2 x y H2 I2 rx ry q=>hr a b Ac s2 σ H2 x y v u Q I2 rx ry q (hs _ _))
noncomputable def jO(K:W.Frag):R2:=fun x y H Q=>∃p xs i v,x=.ref p/\y=.int i/\SqL K H p xs/\aT xs i=some v/\Q v H
noncomputable def JN(K:W.Frag):R2:=fun x y H Q=>∃p xs i v,x=.ref p/\y=.int i/\Du K H p xs/\aT xs i=some v/\Q v H
theorem eK:kZ X (jO X.K):=by
 intro value slice Ac s σ H x y v u Q I rx ry h hs;obtain⟨p,xs,i,z,rfl,rfl,hq,he,q⟩:=h;cases rx;obtain⟨t,rfl⟩:=ry;obtain⟨its,r,pl,hz⟩:=I.list hq;obtain⟨j,h1,h2,h3,h4,h5⟩:=g6 he;obtain⟨w,ew,rw'⟩:=r.get h2;have hl:=r.length;have hn:=Va;have fin:EP X Ac σ Q w s:=⟨z,H,I,rw',q⟩
 by_cases h0:0<=i
 . have hj:i.toNat=j:=by
    rw[seqIndex_of h0 h5]at h1;exact qe6 h1
   exact item_listR pl.isList h0 O9m (by rw[hj];simpa using ew) fin hs
 . have hj:(i+(its.toArray.size:Int)).toNat=j:=by
    rw[seqIndex_neg (by omega) h4]at h1;rw[qb4,←hl];exact qe6 h1
   exact subscriptTail_builtinR (x:=w) pl.isList.typeIs slot_list_getitem.lookup
    (wpAny_getItem_list_neg (Q:=fun r s'=>r=w/\EP X Ac σ Q r s') pl.isList O9m (by rw[qb4]<;>omega) O9m (by rw[hj];simpa using ew) ⟨rfl,fin⟩) hs
theorem HC:kZ X (JN X.K):=by
 intro value slice Ac s σ H x y v u Q I rx ry h hs;obtain⟨p,xs,i,z,rfl,rfl,hq,he,q⟩:=h;cases rx;obtain⟨t,rfl⟩:=ry;obtain⟨its,r,pl,hz⟩:=I.tuple hq;obtain⟨j,h1,h2,h3,h4,h5⟩:=g6 he;obtain⟨w,ew,rw'⟩:=r.get h2;have hl:=r.length;have hn:=Va;have fin:EP X Ac σ Q w s:=⟨z,H,I,rw',q⟩
 exact subscriptTail_builtinR (x:=w) pl.typeIs slot_tuple_getitem.lookup
  (getItem_tuple (j:=j) (Q:=fun r s'=>r=w/\EP X Ac σ Q r s') pl O9m O9m (by rw[qb4,←hl];exact h1) (by simpa using ew) ⟨rfl,fin⟩) hs
theorem Yn(its:List Value)(n j:Nat)(u:Value):Obj.mapSeq (·.setIfInBounds j u) { cls:=.type "list",data:=.seq its.toArray n }={ cls:=.type "list",data:=.seq (its.set j u).toArray n }:=by
 simp[Obj.mapSeq]
theorem Bk.lst{Ac:Bj}{σ:St}{H:Hp}{s:Shared}{p:Addr}{xs:List V}(I:Bk X Ac σ H s)(h:H p=some (.lst xs)) :
 ∃(its:List Value) (n:Nat),Bt xs its/\s.heap.get? p=some { cls:=.type "list",data:=.seq its.toArray n }/\xs.length<=sizeLine:=by
 obtain⟨z,its,n,r,e⟩:=I.hok p _ h;exact⟨its,n,r,e,z⟩
theorem Bk.lstUpd{Ac:Bj}{σ:St}{H:Hp}{s:Shared}{p:Addr}{xs ys:List V}{its its':List Value}{n n':Nat}{f:Obj->Obj}(I:Bk X Ac σ H s)(h:H p=some (.lst xs))
 (ho:s.heap.get? p=some { cls:=.type "list",data:=.seq its.toArray n }) (hf:f { cls:=.type "list",data:=.seq its.toArray n }={ cls:=.type "list",data:=.seq its'.toArray n' }) (r:Bt ys its') (hz:ys.length<=sizeLine) (t:Nat) :
 Bk X Ac σ (upd H p (.lst ys)) { s with heap:=s.heap.update p f,toks:=t }:=by
 have e:(s.heap.update p f).get? p=some { cls:=.type "list",data:=.seq its'.toArray n' }:=by
  rw[Heap.get?_update_self f ho (by rw[hf]<;>rfl),hf]
 refine I.write (x:=p) (e:=p) (by rw[h];trivial) (.inl rfl) (fun b u hb q=>(Heap.get?_update_other _ _ (Ne.symm hb)).trans q) ⟨_,e⟩ ?_;exact⟨hz,its',n',r,e⟩
noncomputable def JM:V->V->V->Hp->(Hp->Prop)->Prop:=fun o i v H Q=>∃p xs k j,o=.ref p/\i=.int k/\H p=some (.lst xs)/\Xa xs.length k=some j/\Q (upd H p (.lst (xs.set j v)))
theorem Ca:KW X JM:=by
 intro Ac s σ H o i v ov iv u Q I ro ri rv h;obtain⟨p,xs,k,j,rfl,rfl,hp,hj,q⟩:=h;cases ro;obtain⟨t,rfl⟩:=ri;obtain⟨its,n,r,ho,hz⟩:=I.lst hp;obtain⟨h1,h2,h3,h4⟩:=a9 hj;have hl:=r.length;have hn:=Va
 have I':Bk X Ac σ (upd H p (.lst (xs.set j v))) { s with heap:=s.heap.update p (Obj.mapSeq (·.setIfInBounds j u)) } :=
  I.lstUpd hp ho (Yn its n j u) (r.set rv j) (by rw[qg4];exact hz) s.toks
 by_cases h0:0<=k
 . have hk:k.toNat=j:=by
    rw[seqIndex_of h0 h4]at h1;exact qe6 h1
   exact PySem.W.ki_setAt ho h0 O9m (by rw[qb4,←hl];exact h4) (by rw[hk];exact⟨_,I',q⟩)
 . have hk:(k+(its.toArray.size:Int)).toNat=j:=by
    rw[seqIndex_neg (by omega) h3]at h1;rw[qb4,←hl];exact qe6 h1
   exact PySem.W.ki_setBack ho O9m (by rw[qb4,←hl];exact h3) O9m (by rw[hk];exact⟨_,I',q⟩)
theorem Ui(lo hi:Option Int)(n:Nat):(sliceBounds lo hi none n).1=((HT.sIx n 0 lo:Nat):Int)/\(sliceBounds lo hi none n).2.1=((HT.sIx n n hi:Nat):Int)/\(sliceBounds lo hi none n).2.2=1:=by
 refine⟨?_,?_,rfl⟩
 . cases lo with
   | none=>simp[sliceBounds,HT.sIx]
   | some i =>
     simp only[sliceBounds,HT.sIx,Option.getD_none,show(1:Int) > 0 by decide,if_true];by_cases h:i<0
     . simp only[h,if_true]<;>omega
     . simp only[h,if_false]<;>omega
 . cases hi with
   | none=>simp[sliceBounds,HT.sIx]
   | some i =>
     simp only[sliceBounds,HT.sIx,Option.getD_none,show(1:Int) > 0 by decide,if_true];by_cases h:i<0
     . simp only[h,if_true]<;>omega
     . simp only[h,if_false]<;>omega
theorem R7(its:List Value)(lo hi:Option Int):slicePick its.toArray lo hi none=((its.drop (HT.sIx its.length 0 lo)).take (HT.sIx its.length its.length hi-HT.sIx its.length 0 lo)).toArray:=by
 obtain⟨h1,h2,h3⟩:=Ui lo hi its.toArray.size;unfold slicePick;rw[h1,h2,h3];simp only[sliceRange_one,pick_run,qb4]<;>rfl
noncomputable def jM(K:W.Frag):V->Option Int->Option Int->Hp->VK->Prop:=fun x lo hi H Q=>∃a xs,x=.ref a/\SqL K H a xs/\∀p,H p=none->Q (.ref p) (upd H p (.lst (Md xs lo hi)))
theorem dI:oB X (jM X.K):=by
 intro Ac s σ H x v vl vu lo hi sl Q I rx hs pl pu h;obtain⟨a,xs,rfl,hx,q⟩:=h;cases rx;obtain⟨its,r,ht,hz⟩:=I.list hx;have hlen:=r.length;refine⟨"list",_,slot_list_getitem.lookup,ht.isList.typeIs,?_⟩;refine wpAny_getItem_list_slice ht.isList hs pl pu .none (by simp) ?_ (by rw[qb4]<;>omega);rw[R7,←hlen];refine⟨.ref s.heap.objs.size,_,I.laid (t':=s.toks) (o:=.lst (Md xs lo hi)) (fun b ob q=>qa2 _ q) (qa0 _) ?_,rfl,q _ (I.hok.fresh (qa0 _))⟩;exact⟨qa1 (Xo xs lo hi) hz,_,0,(r.drop (HT.sIx xs.length 0 lo)).take (HT.sIx xs.length xs.length hi-HT.sIx xs.length 0 lo),qb5 _ rfl⟩
theorem Vz:Fd X (.builtin "len") (fun xs H Q=>∃p ys,xs=[.ref p]/\(SqL X.K H p ys\/Du X.K H p ys)/\Q (.int ys.length) H):=by
 intro Ac s σ H xs us Q I r h;obtain⟨p,ys,rfl,hq,q⟩:=h;obtain⟨u,rfl,rx⟩:=S8 r;cases rx;have hn:=Va;rcases hq with hq | hq
 . obtain⟨its,r',pl,hz⟩:=I.list hq;have hlen:=r'.length;exact Calls.call_len_list pl.isList (by simp only[qb4]<;>omega) ⟨.int ys.length,H,I.tok _,⟨s.toks+1,by rw[qb4,hlen]⟩,q⟩
 . obtain⟨its,r',pl,hz⟩:=I.tuple hq;have hlen:=r'.length;exact len_tuple pl (by simp only[qb4]<;>omega) ⟨.int ys.length,H,I.tok _,⟨s.toks+1,by rw[qb4,hlen]⟩,q⟩
theorem Vy:Fd X (.type "list") (fun xs H Q=>∃p ys,xs=[.ref p]/\(SqL X.K H p ys\/Du X.K H p ys)/\∀l,H l=none->Q (.ref l) (upd H l (.lst ys))):=by
 intro Ac s σ H xs us Q I r h;obtain⟨p,ys,rfl,hq,q⟩:=h;obtain⟨u,rfl,rx⟩:=S8 r;cases rx
 have fin:∀(its:List Value),Bt ys its->ys.length<=sizeLine->∀(h':Heap) (c':Nat),(∀b o',s.heap.get? b=some o'->h'.get? b=some o') →
  h'.get? s.heap.objs.size=some { cls:=.type "list",dict:=none,data:=.seq its.toArray c',slots:=#[] }->EP X Ac σ Q (.ref s.heap.objs.size) { s with heap:=h' }:=fun its r' hz h' c' kp e =>
  ⟨.ref s.heap.objs.size,_,I.laid (t':=s.toks) kp (qa0 _) (show G6 X.prog X.w _ h' _ (.lst ys) from⟨hz,its,c',r',e⟩),rfl,q _ (I.hok.fresh (qa0 _))⟩
 rcases hq with hq | hq
 . obtain⟨its,r',pl,hz⟩:=I.list hq;have hlen:=r'.length;obtain⟨o,ho,hc,n,hd⟩:=pl.isList;exact call_list_seq p (.inl rfl) ho hc hd (fun h' c' kp e=>fin its r' hz h' c' kp e) (by simp only[qb4]<;>omega)
 . obtain⟨its,r',pl,hz⟩:=I.tuple hq;have hlen:=r'.length;obtain⟨o,ho,hc,n,hd⟩:=pl;exact call_list_seq p (.inr rfl) ho hc hd (fun h' c' kp e=>fin its r' hz h' c' kp e) (by simp only[qb4]<;>omega)
theorem Sw:Fd X (.type "tuple") (fun xs H Q=>∃p ys,xs=[.ref p]/\((SqL X.K H p ys/\∀l,H l=none->Q (.ref l) (upd H l (.tup ys)))\/(Du X.K H p ys/\Q (.ref p) H))):=by
 intro Ac s σ H xs us Q I r h;obtain⟨p,ys,rfl,h⟩:=h;obtain⟨u,rfl,rx⟩:=S8 r;cases rx;rcases h with⟨hq,q⟩|⟨hq,q⟩
 . obtain⟨its,r',pl,hz⟩:=I.list hq;have hlen:=r'.length;refine call_tuple_list pl.isList (fun h' kp=>?_) (by simp only[qb4]<;>omega);have I1:Bk X Ac σ H { s with heap:=h' }:=I.kept (t':=s.toks) kp
   have I2:Bk X Ac σ (upd H h'.objs.size (.tup ys)) { s with heap:=h'.push { cls:=.type "tuple",data:=.seq its.toArray } } :=
    I1.laid (t':=s.toks) (fun b o e=>qa2 _ e) (qa0 _) (show G6 X.prog X.w _ _ _ (.tup ys) from⟨hz,its,r',Kx.new _ _⟩)
   exact⟨.ref h'.objs.size,_,I2,rfl,q _ (I1.hok.fresh (qa0 _))⟩
 . obtain⟨its,r',pl,hz⟩:=I.tuple hq;exact call_tuple_same pl ⟨.ref p,H,I,rfl,q⟩
noncomputable def OI(K:W.Frag)(T:String)(x:V)(H:Hp):Prop:=match x with
 | .str _=>T="str"
 | .int _=>T="int"
 | .ref p=>(T="list"/\∃xs,SqL K H p xs)\/(T="tuple"/\∃o,K.lookup p=some o/\o.cls=.type "tuple"/\o.dict=none) ∨
    (T="dict"/\((∃Tq,H p=some (.dK Tq))\/∃Tq,H p=some (.dT Tq)))\/(T="set"/\∃S n,H p=some (.set S n))
 | _=>False
theorem GC{Ac:Bj}{σ:St}{H:Hp}{s:Shared}{T:String}{x:V}{v:Value}(I:Bk X Ac σ H s)(r:RelV x v)(ty:OI X.K T x H) :
 s.TypeIs v T/\∀a,v=.ref a->∃ob,s.heap.get? a=some ob/\ob.dict=none:=by
 cases x with
 | str z =>
   obtain⟨t,rfl⟩:=r;cases (show T="str" from ty);exact⟨typeIs_str s z t,fun _ e=>nomatch e⟩
 | int i =>
   obtain⟨t,rfl⟩:=r;cases (show T="int" from ty);exact⟨typeIs_int s i t,fun _ e=>nomatch e⟩
 | ref p =>
   cases r;rcases ty with⟨rfl,xs,hq⟩|⟨rfl,o,hk,hc,hd⟩|⟨rfl,hk⟩|⟨rfl,S,n,hk⟩
   . obtain⟨its,_,pl,_⟩:=I.list hq;refine⟨pl.isList.typeIs,fun a e=>?_⟩;cases e;obtain⟨o,n,e,c,hd,_⟩:=pl;exact⟨o,e,hd⟩
   . refine⟨⟨o,I.kIn p o hk,hc⟩,fun a e=>?_⟩;cases e;exact⟨o,I.kIn _ o hk,hd⟩
   . have z:∃o,s.heap.get? p=some o/\o.ExactDict:=by
      rcases hk with⟨Tq,hk⟩|⟨Tq,hk⟩
      . obtain⟨_,_,_,_,o,_,_,e,ex,_⟩:=I.hok p _ hk;exact⟨o,e,ex⟩
      . obtain⟨_,_,_,_,o,_,_,e,ex,_⟩:=I.hok p _ hk;exact⟨o,e,ex⟩
     obtain⟨o,e,ex⟩:=z;refine⟨⟨o,e,ex.1⟩,fun a e2=>?_⟩;cases e2;exact⟨o,e,ex.2.1⟩
   . obtain⟨o,_,_,_,e,ex,_⟩:=I.hok p _ hk;refine⟨⟨o,e,ex.1⟩,fun a e2=>?_⟩;cases e2;exact⟨o,e,ex.2.1⟩
 | _=>exact False.elim ty
noncomputable def oM(K:W.Frag)(T:String)(r:V->List V->Hp->VK->Prop)(to:TE)(t:TA):TE:=fun σ H Q=>to σ H fun x H1=>OI K T x H1/\t σ H1 fun xs H2=>r x xs H2 Q
variable{o e:Expr}{es:List Expr}{to:TE}{t:TA}{name:Str}{apos cpos:Pos}{T id:String}{r:V->List V->Hp->VK->Prop}
theorem JP(pa:PlainAttrs T)(slot:Slot T name id)(hty:typeOf (.builtin id)=pure (.type "method_descriptor"))(hm:QD X id r)(ho:PE X o to)(ha:PA X (e::es) t)
 (hbase:attributeBase o name X.env (eval o X.env)=eval o X.env:=by rfl)
 (hfew:((backTo cpos (starEach (e::es) X.env)).all (fun x=>!x.1)&&(backToKw cpos (keywordEach [] X.env)).all (fun x=>x.1.isSome)
   && decide ((e::es).length+([]:List Keyword).length+(if ([]:List Keyword).isEmpty then 0 else 1)<30))=true:=by rfl)
 (hline:(apos.endLine==cpos.line)=true:=by rfl) (hs:starEach (e::es) X.env=(false,eval e X.env)::starEach es X.env:=by rfl) (hplain:(backTo cpos (starEach es X.env)).any (·.1)=false:=by rfl) :
 PE X (.Call (.Attribute o name apos) (e::es) [] cpos) (oM X.K T r to t):=by
 intro Ac s σ H Q I h;refine wpAny_Call_method_late hbase hfew hline rfl (Dn (ho Ac s σ H _ I h) fun v s1 _z=>?_);obtain⟨x,H1,I1,r1,ty,q1⟩:=_z;obtain⟨h1,h2⟩:=GC I1 r1 ty;refine⟨T,id,pa,slot,hty,h1,h2,?_⟩;have hA:=ha cpos Ac s1 σ H1 _ I1 q1;rw[hs]at hA ⊢;refine Calls.callWith_builtin (by show(false || (backTo cpos (starEach es X.env)).any (·.1))=false;rw[hplain]<;>rfl) (Calls.evalArgs_plain ?_);exact Dn hA fun us s2 ⟨vs,H2,I2,r2,q2⟩=>hm Ac s2 σ H2 x vs v us Q I2 r1 r2 q2
end
noncomputable def oE(X:Cx)(id:String)(r:V->List V->Hp->VK->Prop):Prop :=
 ∀(Ac:Bj) (s:Shared) (σ:St) (H:Hp) (x:V) (xs:List V) (v:Value) (us:List Value) (Q:VK),Bk X Ac σ H s->RelV x v->Bt xs us->r x xs H Q →
   wpAny (model X.prog X.w) X.A (call (.builtin id) (v::us)) (EP X Ac σ Q) X.xe s
theorem Bt.one:∀{x:V}{us:List Value},Bt [x] us->∃u,us=[u]/\RelV x u
 | _,_,.cons r .nil=>⟨_,rfl,r⟩
theorem Bt.eraseIdx:∀{xs:List V}{us:List Value} (i:Nat),Bt xs us->Bt (xs.eraseIdx i) (us.eraseIdx i)
 | _,_,_,.nil=>.nil
 | _,_,0,.cons _ t=>t
 | _,_,i+1,.cons r t=>.cons r (Bt.eraseIdx i t)
theorem Bt.rep{xs:List V}{us:List Value}(h:Bt xs us):∀k:Nat,Bt (List.replicate k xs).flatten (List.replicate k us).flatten
 | 0=>.nil
 | k+1=>by
   rw[qh0,qh0,qi9,qi9];exact Bt.append h (Bt.rep h k)
theorem Tp{α:Type}:∀(l:List α) (i:Nat),(l.eraseIdx i).length<=l.length
 | [],_=>qa0 _
 | _::_,0=>qk7 _
 | _::r,i+1=>qf8 (Tp r i)
theorem Tx(its:List Value):∀(k:Nat) (acc:List Value),
 List.foldl (fun x1 x2=>x1++x2) acc.toArray (List.replicate k its.toArray)=(acc++(List.replicate k its).flatten).toArray
 | 0,acc=>by simp
 | k+1,acc=>by
   have e:acc.toArray++its.toArray=(acc++its).toArray:=by simp
   have e2:(acc++its)++(List.replicate k its).flatten=acc++(List.replicate (k+1) its).flatten:=by
    rw[qh0,qi9,qp3]
   rw[←e2,←Tx its k (acc++its),←e,qh0,List.foldl_cons]
section
variable{X:Cx}{Ac:Bj}{σ:St}{H:Hp}{s:Shared}{l b:Addr}{xs ys zs:List V}
theorem Bk.lset{its its':List Value}{n:Nat}{f:Array Value->Array Value}{t':Nat}(I:Bk X Ac σ H s)(hH:H l=some (.lst xs))
 (e:s.heap.get? l=some { cls:=.type "list",data:=.seq its.toArray n }) (hf:f its.toArray=its'.toArray) (hv:Bt ys its') (hz:ys.length<=sizeLine) :
 Bk X Ac σ (upd H l (.lst ys)) { s with heap:=s.heap.update l (Obj.mapSeq f),toks:=t' }:=by
 have q:=PySem.IsL.update e f;rw[hf]at q;refine I.write (x:=l) (e:=l) (by rw[hH];exact trivial) (.inl rfl) (fun b' u hb hu=>(Heap.get?_update_other s.heap (Obj.mapSeq f) (Ne.symm hb)).trans hu) ⟨_,q⟩ ?_;exact⟨hz,its',_,hv,q⟩
theorem Bk.lnew{its:List Value}{t':Nat}(I:Bk X Ac σ H s)(hv:Bt ys its)(hz:ys.length<=sizeLine) :
 Bk X Ac σ (upd H s.heap.objs.size (.lst ys)) { s with heap:=s.heap.push { cls:=.type "list",data:=.seq its.toArray },toks:=t' } :=
 I.laid (fun _ _ q=>qa2 _ q) (qa0 _) ⟨hz,its,0,hv,qb5 _ rfl⟩
theorem Bk.fresh(I:Bk X Ac σ H s):H s.heap.objs.size=none:=I.hok.fresh (qa0 _)
theorem Bk.lstM(I:Bk X Ac σ H s)(hH:H l=some (.lst xs)):xs.length<=sizeLine/\∃(its:List Value) (n:Nat),Bt xs its/\xs.length=its.length/\s.heap.get? l=some { cls:=.type "list",data:=.seq its.toArray n }:=by
 obtain⟨z,its,n,r,e⟩:=I.hok l _ hH;exact⟨z,its,n,r,r.length,e⟩
theorem bP{n:Nat}(h:n<=sizeLine):Builtin.List.listTooLong n=false:=by
 unfold Builtin.List.listTooLong;exact qh7 O9m
end
section
variable{X:Cx}
noncomputable def dN:V->List V->Hp->VK->Prop:=fun x vs H Q=>∃l xs y,x=.ref l/\vs=[y]/\H l=some (.lst xs)/\xs.length<sizeLine/\Q .non (upd H l (.lst (xs++[y])))
theorem Gm:oE X "list.append" dN:=by
 intro Ac s σ H x vs v us Q I rx rv h;obtain⟨l,xs,y,rfl,rfl,hH,hz,q⟩:=h;cases rx;obtain⟨u,rfl,ru⟩:=rv.one;obtain⟨z,its,n,r,hl,e⟩:=I.lstM hH;refine call_meets F.slot_list_append ⟨_,e,rfl⟩ F.entry_list_append (F.args_list_append_2 _ _) (PySem.list_append l its.toArray n u (by rw[qb4];omega)) ⟨e,?_⟩;refine⟨.non,_,I.lset (its':=its++[u]) hH e (by simp) (r.append (.cons ru .nil)) ?_,rfl,q⟩;rw[qf3,List.length_singleton];omega
noncomputable def gJ:V->List V->Hp->VK->Prop:=fun x vs H Q=>∃l xs i k y,x=.ref l/\vs=[.int i]/\H l=some (.lst xs)/\-(2 ^ 63)<=i/\i<2 ^ 63/\seqIndex? i xs.length=some k/\xs[k]?=some y/\Q y (upd H l (.lst (xs.eraseIdx k)))
theorem W5:oE X "list.pop" gJ:=by
 intro Ac s σ H x vs v us Q I rx rv h;obtain⟨l,xs,i,k,y,rfl,rfl,hH,h1,h2,hk,hy,q⟩:=h;cases rx;obtain⟨u,rfl,ru⟩:=rv.one;obtain⟨t,rfl⟩:=ru;obtain⟨z,its,n,r,hl,e⟩:=I.lstM hH;obtain⟨w,hw,rw'⟩:=r.get hy
 refine call_meets F.slot_list_pop ⟨_,e,rfl⟩ F.entry_list_pop (F.args_list_pop_2 _ _)
  (MeetsSeq.list_pop_at l its.toArray n i t k w (fitsIndex_both h1 h2) (by rw[qb4,←hl];exact hk) (by rw[←Array.getElem?_toList];exact hw) (by rw[qb4];omega)) ⟨e,?_⟩
 refine⟨y,_,I.lset (its':=its.eraseIdx k) hH e ?_ (r.eraseIdx k) ?_,rw',q⟩
 . show its.toArray.eraseIdxIfInBounds k=(its.eraseIdx k).toArray;rw[List.eraseIdxIfInBounds_toArray]
 . have:=Tp xs k;omega
noncomputable def MM:R2:=fun x y H Q=>∃l k xs,x=.ref l/\y=.int k/\H l=some (.lst xs)/\-(2 ^ 63)<=k/\k<2 ^ 63/\xs.length*k.toNat<=sizeLine ∧
 ∀p,H p=none->Q (.ref p) (upd H p (.lst (List.replicate k.toNat xs).flatten))
theorem eG{α:Type}(xs:List α)(k:Nat):(List.replicate k xs).flatten.length=k*xs.length:=by
 induction k with
 | zero=>simp
 | succ k ih=>rw[qh0,qi9,qf3,ih,Nat.succ_mul,qp5]
theorem Uy:Ps X (binaryOp .Mult) MM:=by
 intro Ac s σ H x y v u Q I rx ry h;obtain⟨l,k,xs,rfl,rfl,hH,h1,h2,hz,q⟩:=h;cases rx;obtain⟨t,rfl⟩:=ry;obtain⟨z,its,n,r,hl,e⟩:=I.lstM hH;have hlen:its.toArray.size*k.toNat<=sizeLine:=by rw[qb4,←hl];exact hz
 have hcap:¬its.toArray.size*k.toNat > (2 ^ 63-1) / 8:=by
  have:(sizeLine:Nat)<=(2 ^ 63-1) / 8:=by decide
  omega
 have hfit:¬(!Builtin.List.listFitsIndex k)=true:=by
  rw[fitsIndex_both h1 h2];exact qc0
 have KH:¬Builtin.List.listTooLong (its.toArray.size*k.toNat)=true:=by
  rw[bP hlen];exact qc0
 have hnew:List.foldl (fun x1 x2=>x1++x2) #[] (List.replicate (if its.toArray.isEmpty=true then 0 else k.toNat) its.toArray)=(List.replicate k.toNat its).flatten.toArray:=by
  have f0:∀m:Nat,List.foldl (fun x1 x2=>x1++x2) #[] (List.replicate m its.toArray)=(List.replicate m its).flatten.toArray:=fun m=>by
   have:=Tx its m [];rw[List.nil_append]at this;exact this
  rw[f0];cases its with
  | nil=>simp
  | cons a r'=>rw[if_neg (by simp)]
 refine wpAny_binaryOp_repeat_ref (T:="list") (U:="int") (by decide) ⟨_,e,rfl⟩ (fun s'=>typeIs_int s' k t) noFill_list_mul F.fills_int_mul F.slot_int_rmul repeat_list F.slot_int_index.lookup
  (call_meets F.slot_int_rmul (typeIs_int s k t) F.entry_int_rmul (F.args_int_rmul_2 _ _) (int___rmul___int_list k t l its.toArray n)
    ⟨e,rfl,⟨_,e,rfl⟩,call_meets F.slot_list_mul ⟨_,e,rfl⟩ F.entry_list_mul (F.args_list_mul_2 _ _) (AutoListH.list___mul___list_int_3 l its.toArray n k t hfit hcap KH) ⟨e,?_⟩⟩)
 rw[hnew];exact⟨.ref _,_,I.lnew (t':=s.toks) (r.rep k.toNat) (by rw[eG,qn7];exact hz),rfl,q _ I.fresh⟩
end
section
variable{prog:Program}{w:World}{A:Around}{E:Value->Shared->Prop}{s:Shared}
end
section
variable{X:Cx}
end
end L2
namespace Att
open PySem PySem.W PySem.Calls PyProof.Rows
theorem Pk{P:Params}{h:Heap}:∀(ns:List Int) (vs:List Value),WellAll P h vs (ns.map WData.int)->IntsAre vs ns:=by
 intro ns
 induction ns with
 | nil =>
   intro vs w;rw[List.map_nil]at w;cases w;exact .nil
 | cons n ns ih =>
   intro vs w;rw[ql5]at w;cases w with
   | cons a b =>
     cases a;exact .cons _ _ (ih _ b)
theorem script_of{l:OpenLaw}{n:Nat}(hn:l.most=some n){P:Params}{h:Heap}{args:List WData}{vals:List Value}
 (hpre:l.row.toRowW.claim.pre args=true) (hwl:WellAll P h vals args) :
 ∃a vs ns,vals=[Value.ref a]/\args=[WData.list (ns.map WData.int)]/\h.get? a=some { cls:=.type "list",data:=.seq vs.toArray }/\IntsAre vs ns/\ns.length<=n:=by
 have hsh:WShape.hasAll [] args [.list .int]=true:=(pre_splitW hpre).1;have hc:l.pre.holds [] { args:=args }=true:=(pre_splitW hpre).2;obtain⟨d,r,rfl,h1,h2⟩:=hasAllW_cons hsh;obtain rfl:=hasAllW_nil h2;obtain⟨xs,rfl,h3⟩:=hasW_list h1;obtain⟨ns,rfl⟩:=items_int h3
 have hlen:ns.length<=n:=by
  unfold OpenLaw.pre at hc
  have h4:(WTm.not (.lt (.lit (.int (n:Int))) (.len (.arg 0)))).holds [] { args:=[.list (ns.map .int)] }=true:=by
   have h4:=(holds_andW hc).1;rw[hn]at h4;exact h4
  have h5:=condW_of h4 (w_not (w_lt w_lit (w_len_list (w_arg rfl))));rw[qa3]at h5;refine qe9 fun q=>?_;have q':(n:Int)<((ns.length:Nat):Int):=O9m
  first
   | (rw[decide_eq_true q']at h5;exact absurd h5 (by decide))
   | (simp at h5;omega)
 cases hwl with
 | cons w1 w2 =>
   cases w2;cases w1 with
   | list ho hall=>exact⟨_,_,ns,rfl,rfl,ho,Pk ns _ hall,hlen⟩
theorem post_true(l:OpenLaw)(args:List WData):l.row.toRowW.claim.post args (.bool true) args=true :=
 postW_of (r:=l.row.toRowW) (X:=(true==true))
  (show WShape.has [] (.bool true) .bool=true by first | rfl | decide | simp[WShape.has,WShape.arms,WShape.armsAll])
  (show(WTm.eq .res (.lit (.bool true))).value [] { args:=args,res:=some (.bool true),after:=args }=some (.bool (true==true)) from w_eq_bool (w_res rfl) w_lit) rfl
section
variable{prog:Program}{w:World}{A:Around}{E:Value->Shared->Prop}{s:Shared}{K:Frag}
end
end Att
namespace L2
open PySem PySem.Spec PyProof.Rows
theorem S7:∀{vs:List Value}{ns:List Int},IntsAre vs ns->Bt (ns.map V.int) vs
 | _,_,.nil=>.nil
 | _,_,.cons n t h=>.cons ⟨t,rfl⟩ (S7 h)
noncomputable def ID(H:Hp):Prop:=∀b,H b=none\/∃o xs,H b=some (.frz o (.lst xs))
theorem bZ{P:Program}{w:World}{K:W.Frag}{mg mb:Str->Option Value}{CX:cV}{k:Nat}{fa a:Addr}{fd:FuncData}{x:Str}{sp:Sp}{s₁:Shared}{vs:List Value}{ns:List Int}
 (KX:K.In s₁.heap) (hns:s₁.heap.Ns mainGlobals mg) (hb:s₁.heap.Ns builtinsNs mb) (RX:∀x:Str,x≠"__name__"->mb x=bootBuiltins x) (hlim:s₁.heap.NoLimit) (hg:s₁.gens=#[])
 (ha:s₁.heap.get? a=some { cls:=.type "list",data:=.seq vs.toArray }) (hi:IntsAre vs ns) (hl:ns.length<=sizeLine) (hr:Et k callerA)
 (F:∀base:Heap,K.In base->base.Ns mainGlobals mg->By P w K mg base CX k fa fd [x] sp) (hbind:∀(s:Shared) (u:Value),BindsTo s fd ⟨[u],[]⟩ [(x,u)])
 (CY:∀H:Hp,ID H->SqL K H a (ns.map V.int)->sp [.ref a] H (fun v _=>v=.bl true) fun _ _ _=>False)
 (NT:∀H e s',CX [] H s₁ (fun _ _ _=>False) e s'->False) :
 codeAny (model P w) callerA (.call (.ref fa) ⟨[.ref a],[]⟩) (fun r s'=>r=.ok (.ret (.bool true))/\OldK s₁.heap s'.heap/\s'.os=s₁.os/\AllBare s'.gens) s₁:=by
 have rv:=S7 hi;have mU:=hi.length
 have core:∀H:Hp,ID H->SqL K H a (ns.map V.int)->Pw P w H s₁.heap->(∀b,H b≠none->b=a)->(H a≠none->K.lookup a=none) →
  codeAny (model P w) callerA (.call (.ref fa) ⟨[.ref a],[]⟩) (fun r s'=>r=.ok (.ret (.bool true))/\OldK s₁.heap s'.heap/\s'.os=s₁.os/\AllBare s'.gens) s₁:=by
  intro H hO hS hok hA hK;have f9:∀{b:Addr}{o:Obj},s₁.heap.get? b=some o->H b=none->(Ve s₁.heap H).get? b=some o:=fun e n=>CB e n
  have jT:∀{b:Addr}{o:Obj}{es:Array DictEntry}{ep:Nat},s₁.heap.get? b=some o->o.data=.dict es ep->H b=none:=fun {b o es ep} e d=>by
   cases q:H b with
   | none=>rfl
   | some u =>
     have e':b=a:=hA b (by rw[q];simp);subst e';rw[ha]at e;cases e;have d':Data.seq vs.toArray _=Data.dict es ep:=d;cases d'
  have lM:∀{b:Addr}{m:Str->Option Value},s₁.heap.Ns b m->(Ve s₁.heap H).Ns b m:=fun {b m} ⟨o,es,ep,e,d,r⟩=>⟨o,es,ep,f9 e (jT e d),d,r⟩
  have pU:K.In (Ve s₁.heap H):=fun b o e=>f9 (KX b o e) (by
   cases q:H b with
   | none=>rfl
   | some u =>
     have e':b=a:=hA b (by rw[q];simp);subst e';rw[hK (by rw[q];simp)]at e;cases e)
  have hM:Mod K mg (Ve s₁.heap H):=⟨pU,lM hns,⟨mb,lM hb,RX⟩,let ⟨mc,h1,h2⟩:=hlim;⟨mc,lM h1,h2⟩⟩
  have e0:Zl P w K mg (Ve s₁.heap H) callerA [] s₁ H:=⟨rfl,hM,fun b o e=>DX e,ql1 (y7 _ _),trivial,fun b hb=>absurd (show b∈([]:List Addr) from hb) (by simp),hok,.of_eq hg⟩
  refine codeAny_mono ((F _ pU (lM hns)).run callerA [] s₁ H ⟨[.ref a],[]⟩ [.ref a] [.ref a] _ _ hr e0 (hbind s₁ (.ref a)) (.cons rfl .nil) (CY H hO hS)) fun r s' h=>?_;cases r with
  | error e=>exact(NT H e s' h).elim
  | ok fl =>
    cases fl with
    | next=>exact False.elim h
    | brk=>exact False.elim h
    | cont=>exact False.elim h
    | ret u =>
      obtain⟨v,H',os,bare,un,NF,r',q⟩:=h;have q':v=.bl true:=q;subst q';obtain rfl:u=Value.bool true:=r';refine⟨rfl,OldK.of_keep fun b o e=>?_,os,bare⟩;cases q:H b with
      | none=>exact un.keep b o e q (by intro z;exact absurd (show b∈([]:List Addr) from z) (by simp)) (by simp)
      | some u =>
        rcases hO b with z|⟨ob,xs,z⟩
        . rw[q]at z;cases z
        . have z2:=un.frzs b ob _ z;obtain⟨e1,_⟩:=hok b _ z;obtain⟨e2,_⟩:=NF b _ z2;rw[e]at e1;cases e1;exact e2
 cases hk:K.lookup a with
 | some o =>
   have e:=KX a o hk;rw[ha]at e;cases e;refine core (fun _=>none) (fun _=>.inl rfl) (.inr ⟨_,vs.toArray,_,hk,rfl,rfl,rfl,by rw[qb4,mU];exact hl,by simpa using rv⟩) (fun b u z=>by have z':(none:Option HO)=some u:=z;cases z') (fun b z=>absurd rfl z) fun z=>absurd rfl z
 | none =>
   refine core (fun b=>if b=a then some (.frz { cls:=.type "list",data:=.seq vs.toArray } (.lst (ns.map V.int))) else none) (fun b=>?_) (.inl (.inr ⟨{ cls:=.type "list",data:=.seq vs.toArray },if_pos rfl⟩)) (fun b u z=>?_) (fun b z=>?_) fun _=>hk
   . by_cases hb:b=a
     . exact .inr ⟨_,_,if_pos hb⟩
     . exact .inl (if_neg hb)
   . by_cases hb:b=a
     . have z':=(if_pos hb).symm.trans z;cases z';subst hb;exact⟨ha,by rw[qa3];exact hl,vs,_,rv,ha⟩
     . have z':=(if_neg hb).symm.trans z;cases z'
   . by_cases hb:b=a
     . exact hb
     . exact absurd (if_neg hb) z
noncomputable def Ea(s:Stmt)(j:Nat):Stmt:=match s with
 | .ClassDef _ _ _ body _ _ _ _ _ _ _=>body.getD j (.Pass ⟨0,0,0,0⟩)
 | _=>.Pass ⟨0,0,0,0⟩
noncomputable def Ft(s:Stmt):Arguments:=match s with
 | .FunctionDef _ a _ _ _ _ _ _ _ _=>a
 | _=>{ posonlyargs:=[],args:=[],vararg:=none,kwonlyargs:=[],kw_defaults:=[],kwarg:=none,defaults:=[] }
noncomputable def E6(s:Stmt):List Stmt:=match s with
 | .FunctionDef _ _ b _ _ _ _ _ _ _=>b
 | _=>[]
noncomputable def Ar(s:Stmt):Scope:=match s with
 | .FunctionDef _ _ _ _ _ _ sc _ _ _=>sc
 | _=>{ kind:=.function,names:=[],isGenerator:=false,isCoroutine:=false }
noncomputable abbrev Ex:cV:=fun _ _ _ _ _ _=>False
noncomputable abbrev E0:XK:=fun _ _ _=>False
theorem Wt{X:Cx}:Mg Ex X E0:=fun _ _ _ _ _ _ _ h=>h.elim
structure Fb(K:W.Frag)(x qual:Str)(st:Stmt)(f:Addr)(fd:FuncData):Prop where
 ex:∃(oc:Value) (od:OAddr) (kV doc pm:Value) (an:OAddr) (Dp ct:Value) (osl:Pg),
  fd=W.fnOf x qual (Ft st) (E6 st) (Ar st) .none kV doc pm an Dp ct/\K.lookup f=some ⟨oc,od,.func fd,osl⟩/\W.codeIn K Dp qual=true
 kp:W.keepIn K (.ref f)=true
section
variable{P:Program}{w:World}{K:W.Frag}{mg:Str->Option Value}{base:Heap}
theorem Fb.ok{x qual:Str}{st:Stmt}{f:Addr}{fd:FuncData}{N ps:List Str}{k:Nat}{sp:Sp}(F:Fb K x qual st f fd)(S:FnScope N ps (Ar st))(len:∀vs H Q E,sp vs H Q E->vs.length=ps.length)
 (hbody:∀(Dp:Value) (A:Around) (outer:List Env) (s:Shared) (H:Hp) (vs:List V) (Q:VK) (E:XK),Et k (A.deeper (envOfC qual (Ar st) s.heap.objs.size f Dp))->sp vs H Q E →
   ∃t,aQ (AE Ex P w K mg base N qual (Ar st) f Dp A outer s H E).nox (E6 st) t/\t { nx:=fun _ H'=>Q .non H',rt:=Q } (start N vs) H):By P w K mg base Ex (k+1) f fd ps sp:=by
 obtain⟨oc,od,kV,doc,pm,an,Dp,ct,osl,rfl,lk,hcd⟩:=F.ex;refine KN lk hcd S len fun A outer s H vs Q E hr CY=>?_;obtain⟨t,h,q⟩:=hbody Dp A outer s H vs Q E hr CY;exact⟨t,h.nox,q⟩
theorem Fb.binds{x qual:Str}{st:Stmt}{f:Addr}{fd:FuncData}{ps:List Str}(F:Fb K x qual st f fd)
 (h:∀(kV doc pm:Value) (an:OAddr) (Dp ct:Value) (us:List Value),us.length=ps.length->bindArgs (W.fnOf x qual (Ft st) (E6 st) (Ar st) .none kV doc pm an Dp ct) ⟨us,[]⟩=pure (ps.zip us)):Ir K fd ps []:=by
 obtain⟨oc,od,kV,doc,pm,an,Dp,ct,osl,rfl,lk,hcd⟩:=F.ex;exact .all (h kV doc pm an Dp ct)
theorem Vm{x qual:Str}{st:Stmt}{f:Addr}{oc:Value}{od an:OAddr}{osl:Pg}{kV doc pm Dp ct:Value}(l:K.lookup f=some ⟨oc,od,.func (W.fnOf x qual (Ft st) (E6 st) (Ar st) .none kV doc pm an Dp ct),osl⟩)
 (c:W.codeIn K Dp qual=true) (k:W.keepIn K (.ref f)=true):Fb K x qual st f (W.fnOf x qual (Ft st) (E6 st) (Ar st) .none kV doc pm an Dp ct):=⟨⟨oc,od,kV,doc,pm,an,Dp,ct,osl,rfl,l,c⟩,k⟩
end
section
variable{X:Cx}
theorem pv(i:Nat){x:Str}{pos:Pos}(hN:X.N[i]?=some x:=by rfl)(hv:MB X.env.scope x:=by first | exact Or.inl rfl | exact Or.inr (Or.inl rfl) | exact Or.inr (Or.inr rfl))(hd:(x==("__debug__":Str))=false:=by decide)
 (hcd:(x==("__classdict__":Str))=false:=by decide):PE X (.Name x pos) (jC i):=gO hN hv hd hcd
end
theorem ite2{c A B:Prop}[Decidable c](h1:c->A)(h2:¬c->B):if c then A else B:=by
 by_cases h:c
 . rw[if_pos h];exact h1 h
 . rw[if_neg h];exact h2 h
noncomputable def Ao(H H':Hp):Prop:=∀b o,H b=some o->H' b=some o
theorem Ao.refl(H:Hp):Ao H H:=fun _ _ h=>h
theorem Ao.trans{H H1 H2:Hp}(a:Ao H H1)(b:Ao H1 H2):Ao H H2:=fun c o h=>b c o (a c o h)
theorem Ao.free{H H':Hp}(e:Ao H H'){l:Addr}(h:H' l=Option.none):H l=Option.none:=by
 cases q:H l with
 | none=>rfl
 | some o =>
   rw[e l o q]at h;cases h
theorem Ao.seq{K:W.Frag}{H H':Hp}{a:Addr}{xs:List V}(e:Ao H H')(h:SqL K H a xs):SqL K H' a xs:=by
 rcases h with(h|⟨o,h⟩) | h
 . exact .inl (.inl (e _ _ h))
 . exact .inl (.inr ⟨o,e _ _ h⟩)
 . exact .inr h
noncomputable def Su(cells:List (Str × Addr)):List (Str × NameKind)->List (Str × Addr)->List (Str × Addr)
 | [],acc=>acc
 | (n,k)::r,acc=>Su cells r (if (k==NameKind.free)=true then(n,(cells.lookup n).getD 0)::acc else acc)
theorem Rv{sc:Scope}{env:Env}(h:∀n,(n,NameKind.free)∈sc.names->∃c,env.cells.lookup n=some c):closureFor sc env=pure (Su env.cells sc.names []):=by
 have all:∀(l:List (Str × NameKind)) (acc:List (Str × Addr)),(∀n,(n,NameKind.free)∈l->∃c,env.cells.lookup n=some c) →
  (forIn l acc fun(x:Str × NameKind) (cs:List (Str × Addr))=>match x with
    | (name,kind)=>if (kind==NameKind.free)=true then(do let c ←cellOf env name;pure (ForInStep.yield ((name,c)::cs))) else pure (ForInStep.yield cs))=(pure (Su env.cells l acc):Sem _):=by
  intro l
  induction l with
  | nil=>intro acc _;rfl
  | cons x r ih =>
    intro acc hl;obtain⟨n,k⟩:=x;rw[List.forIn_cons];by_cases hk:(k==NameKind.free)=true
    . have hk':k=NameKind.free:=by simpa using hk
      subst hk';obtain⟨c,hc⟩:=hl n qg6;have e1:cellOf env n=pure c:=by unfold cellOf;rw[hc]
      simp only[beq_self_eq_true,if_true,e1,pure_bind];rw[ih _ fun m hm=>hl m (qd2 _ hm)];show _=(pure (Su env.cells r (if (NameKind.free==NameKind.free)=true then(n,(env.cells.lookup n).getD 0)::acc else acc)):Sem _)
      rw[if_pos (by simp),hc];rfl
    . have hk2:(k==NameKind.free)=false:=by simpa using hk
      simp only[hk2,qp1,if_false,pure_bind];rw[ih _ fun m hm=>hl m (qd2 _ hm)];show _=(pure (Su env.cells r (if (k==NameKind.free)=true then(n,(env.cells.lookup n).getD 0)::acc else acc)):Sem _)
      rw[if_neg hk]
 have:=all sc.names [] h;unfold closureFor;dsimp only;rw[this,pure_bind]
theorem Ev{cells:List (Str × Addr)}{x:Str}{c:Addr}:∀{l:List (Str × NameKind)}{acc:List (Str × Addr)},(∀n,(n,NameKind.free)∈l->∃c,cells.lookup n=some c) →
 (acc.lookup x=some c->cells.lookup x=some c)->(Su cells l acc).lookup x=some c->cells.lookup x=some c
 | [],_,_,ha,h=>ha h
 | (n,k)::r,acc,hl,ha,h=>by
   refine Ev (l:=r) (fun m hm=>hl m (qd2 _ hm)) ?_ h;by_cases hk:(k==NameKind.free)=true
   . rw[if_pos hk];have hk':k=NameKind.free:=by simpa using hk
     subst hk';obtain⟨d,hd⟩:=hl n qg6;intro e;rw[ql3]at e;cases hx:x==n with
     | true =>
       rw[hx]at e;have hxn:x=n:=by simpa using hx
       subst hxn;rw[hd]at e ⊢;exact e
     | false=>rw[hx]at e;exact ha e
   . rw[if_neg hk];exact ha
theorem Rw{cells:List (Str × Addr)}{x:Str}:∀{l:List (Str × NameKind)}{acc:List (Str × Addr)},((x,NameKind.free)∈l\/∃c,acc.lookup x=some c)->∃c,(Su cells l acc).lookup x=some c
 | [],_,h=>by
   rcases h with h | h
   . exact nomatch h
   . exact h
 | (n,k)::r,acc,h=>by
   refine Rw (l:=r) ?_;by_cases hk:(k==NameKind.free)=true
   . rw[if_pos hk];by_cases hx:(x==n)=true
     . exact .inr ⟨(cells.lookup n).getD 0,by rw[ql3,hx]⟩
     . have RL:(x==n)=false:=by simpa using hx
       rcases h with h|⟨c,h⟩
       . rcases qc6.mp h with e | e
         . have e1:x=n:=congrArg Prod.fst e;exact absurd (by simp[e1]) hx
         . exact .inl e
       . exact .inr ⟨c,by rw[ql3,RL];exact h⟩
   . rw[if_neg hk];rcases h with h | h
     . rcases qc6.mp h with e | e
       . have e2:NameKind.free=k:=congrArg Prod.snd e;exact absurd (by simp[←e2]) hk
       . exact .inl e
     . exact .inr h
noncomputable def Dz(X:Cx)(sc:Scope)(N':List Str)(C:Addr)(s₀:Shared)(H₀:Hp)(fp:List Addr):Cx where
 prog:=X.prog
 w:=X.w
 K:=X.K
 mg:=X.mg
 base:=X.base
 A:=X.A
 N:=N'
 s₀:=s₀
 H₀:=H₀
 env:=compEnvC sc (Su X.env.cells sc.names []) C X.env
 outer:=X.stack
 stack:=X.stack
 ex:=fp
 fn:=fun _=>false
 calm:=X.calm
 pn:=[]
 xe:=fun _ _=>False
noncomputable def Zc(cap:List (Option Nat))(σ:St):St:=cap.map fun o=>o.bind fun j=>(σ[j]?).join
structure Pf(X:Cx)(sc:Scope)(N':List Str)(cap:List (Option Nat)):Prop where
 kind:sc.kind=.function
 len:cap.length=N'.length
 nocell:∀x∈sc.names,x.2≠NameKind.cell
 locals:∀x∈sc.names,x.2=NameKind.local->sc.names.lookup x.1=some NameKind.local
 free:∀n,(n,NameKind.free)∈sc.names->X.env.kindOf n=some .cell\/X.env.kindOf n=some .free
 slots:∀(i j:Nat) (x:Str),N'[i]?=some x->cap[i]?=some (some j)->X.N[j]?=some x/\((relabel sc X.env).names.lookup x=some .cell\/(relabel sc X.env).names.lookup x=some .free)/\MB X.env.scope x
section
variable{X:Cx}{sc:Scope}{N':List Str}{cap:List (Option Nat)}{Ac:Bj}{σ:St}{H:Hp}{s:Shared}{C:Addr}{fp:List Addr}
theorem Pf.cells(c:Pf X sc N' cap)(ok:X.Ok):∀n,(n,NameKind.free)∈sc.names->∃c,X.env.cells.lookup n=some c:=fun n hn=>ok.has n (c.free n hn)
theorem Hc{env:Env}{x:Str}{k:NameKind}(hnc:∀x∈sc.names,x.2≠NameKind.cell)(h:(relabel sc env).names.lookup x=some k)(hk:k=.cell\/k=.free):(x,NameKind.free)∈sc.names:=by
 have all:∀(l:List (Str × NameKind)),(∀x∈l,x.2≠NameKind.cell)->(l.map fun(n,k)=>if (k==NameKind.free&&env.scope.kind==.function&&env.kindOf n==some .cell) then(n,NameKind.cell) else(n,k)).lookup x=some k->(x,NameKind.free)∈l:=by
  intro l
  induction l with
  | nil=>intro _ h;exact nomatch h
  | cons p r ih =>
    intro hn h;obtain⟨n,q⟩:=p;rw[ql5,ql3]at h;by_cases hc:(q==NameKind.free&&env.scope.kind==.function&&env.kindOf n==some .cell)=true
    . have hq:q=NameKind.free:=by
       have:=hc;simp only[qe5]at this;simpa using this.1.1
      simp only[hc,if_true]at h;cases hx:x==n with
      | true =>
        have e:x=n:=by simpa using hx
        rw[e,hq];exact qg6
      | false =>
        rw[hx]at h;exact qd2 _ (ih (fun y hy=>hn y (qd2 _ hy)) h)
    . simp only[hc]at h;cases hx:x==n with
      | true =>
        have e:x=n:=by simpa using hx
        simp only[qp1,if_false,hx]at h;have e2:q=k:=by simpa using h
        rcases hk with z | z
        . exact absurd (e2.trans z) (hn (n,q) qg6)
        . rw[e,←z,←e2];exact qg6
      | false =>
        simp only[qp1,if_false,hx]at h;exact qd2 _ (ih (fun y hy=>hn y (qd2 _ hy)) h)
 exact all sc.names hnc h
theorem eT(c:Pf X sc N' cap)(I:Bk X Ac σ H s)(hC:s.heap.objs.size<=C)(hf:∀b∈fp,Lg X Ac H b)(hb:∀b∈fp,b<s.heap.objs.size):(Dz X sc N' C s H fp).Ok where
 mod:=I.ok.mod
 kind:=c.kind
 glob:=I.ok.glob
 blt:=I.ok.blt
 above:=hC
 inj:=fun x y a hx hy=>I.ok.inj x y a (Ev (c.cells I.ok) (fun z=>by simp at z) hx) (Ev (c.cells I.ok) (fun z=>by simp at z) hy)
 has:=fun x hx=>by
  refine Rw (.inl ?_);rcases hx with hx | hx
  . exact Hc c.nocell hx (.inl rfl)
  . exact Hc c.nocell hx (.inr rfl)
 cab:=fun _ _ h=>nomatch h
 hd:=I.ok.hd
 frames:=I.ok.frames
 stk:=.inl rfl
 exf:=fun b hb'=>⟨qc4 (qa8 (hb b hb') hC),fun x a e=>(hf b hb').2.2.2.2.1 x a (Ev (c.cells I.ok) (fun z=>by simp at z) e)⟩
 bs:=I.bs
 bsz:=qa1 I.ok.bsz I.sz
 noex:=fun b o e hb'=>by
  rcases (hf b hb').2.2.2.1 with z | z
  . exact I.ok.noex b o e z
  . exact absurd (qa8 (qa9 e) (qa1 I.ok.bsz z)) (qk1 _)
 exfs:=fun b hb' z=>by
  obtain⟨_,f1,f2,_⟩:=hf b hb';rcases qc6.mp (I.stkSub b z) with e | e
  . exact f1 e
  . exact f2 e
 funs:=I.stack
 frf:=I.stkFree
theorem cO(c:Pf X sc N' cap)(I:Bk X Ac σ H s){D:Addr}{h1:Heap}{t:Nat}(hC:C=s.heap.objs.size+1)(hD:D=s.heap.objs.size)(hf:∀b∈fp,Lg X Ac H b)(hb:∀b∈fp,b<s.heap.objs.size)
 (hn:h1.Ns C fun _=>none) (hl:h1.get? D=some { cls:=.type "list",data:=.seq #[] 0 }) (k:∀b o,s.heap.get? b=some o->h1.get? b=some o) :
 Bk (Dz X sc N' C s H fp) [] (Zc cap σ) (upd H D (.lst [])) { s with heap:=h1,toks:=t }:=by
 have PV:s.heap.objs.size<=C:=by rw[hC];exact qk7 _
 have SM:C≠D:=by rw[hC,hD];exact Nat.succ_ne_self _
 have ok:=eT (C:=C) (fp:=fp) c I PV hf hb;have SI:H D=none:=by rw[hD];exact I.fresh
 have lP:∀x a,(Su X.env.cells sc.names []).lookup x=some a->X.env.cells.lookup x=some a:=fun x a e=>Ev (c.cells I.ok) (fun z=>by simp at z) e;have QA:∀a v,s.heap.IsCell a v->h1.IsCell a v:=fun a v ⟨o,ho,hd⟩=>⟨o,k a o ho,hd⟩
 have QY:∀a v,s.heap.IsCell a v->a≠D:=fun a v ⟨o,ho,hd⟩=>by rw[hD];exact qc4 (qa9 ho)
 refine⟨ok,rfl,I.bare,Un.laid k (by rw[hD];exact qa0 _) SI,⟨_,hn,fun i x v e1 e2 e3=>?_⟩,fun x a e=>?_,?_,fun x a e=>?_,fun p hp=>absurd hp (by simp[Dz]),?_,?_⟩
 . have KQ:cap[i]?.map (fun o=>o.bind fun j=>(σ[j]?).join)=some (some v):=by
    have:=e2;unfold Zc at this;rw[qc1]at this;exact this
   cases hc:cap[i]? with
   | none=>rw[hc]at KQ;cases KQ
   | some o =>
     rw[hc]at KQ;cases o with
     | none=>cases KQ
     | some j =>
       have e4:(σ[j]?).join=some v:=by simpa using KQ
       obtain⟨q1,OR,q3⟩:=c.slots i j x e1 hc;have q2:(x,NameKind.free)∈sc.names:=OR.elim (fun z=>Hc c.nocell z (.inl rfl)) fun z=>Hc c.nocell z (.inr rfl);obtain⟨m,hm,hl'⟩:=I.loc
       have e5:σ[j]?=some (some v):=by
        cases z:σ[j]? with
        | none=>rw[z]at e4;cases e4
        | some y=>rw[z]at e4;cases y with
          | none=>cases e4
          | some y'=>cases e4;rfl
       obtain⟨u,r,l⟩:=hl' j x v q1 e5 q3;refine⟨u,r,?_⟩;obtain⟨a,ha⟩:=Rw (cells:=X.env.cells) (l:=sc.names) (acc:=[]) (x:=x) (.inl q2);have kd:X.env.kindOf x=some .cell\/X.env.kindOf x=some .free:=c.free x q2;rcases l with⟨hk,_⟩|⟨hk,a',ha',hcell⟩
       . rcases kd with z | z<;>rw[z]at hk<;>cases hk
       . have e6:a'=a:=by
          have:=lP x a ha;rw[ha']at this;exact qe6 this
         refine .inr ⟨OR,a,ha,?_⟩;rw[←e6];exact QA _ _ hcell
 . obtain⟨v,z⟩:=I.cell x a (lP x a e);exact⟨v,QA a v z⟩
 . show upd H D (.lst []) C=none;rw[As SM];exact I.hok.fresh PV
 . show upd H D (.lst []) a=none;obtain⟨v,z⟩:=I.cell x a (lP x a e);rw[As (QY a v z)];exact I.freeC x a (lP x a e)
 . exact I.hok.laid k (by rw[hD];exact qa0 _) ⟨qa5 _,[],0,.nil,hl⟩
 . show(Zc cap σ).length=N'.length;unfold Zc;rw[qa3,c.len]
end
noncomputable def ET(dW:Scope)(N:List Str)(sc:Scope)(N':List Str)(cap:List (Option Nat)):Bool :=
 decide (sc.kind=.function)&&decide (cap.length=N'.length)&&sc.names.all (fun x=>decide (x.2≠NameKind.cell))&&sc.names.all (fun x=>decide (x.2=NameKind.local->sc.names.lookup x.1=some NameKind.local)) &&
 sc.names.all (fun x=>decide (x.2=NameKind.free->(dW.names.lookup x.1=some .cell\/dW.names.lookup x.1=some .free))) &&
 (N'.zip cap).all (fun p=>match p.2 with
   | none=>true
   | some j=>decide (N[j]?=some p.1)&&decide (((sc.names.map fun(n,k)=>if (k==.free&&dW.kind==.function&&dW.names.lookup n==some .cell) then(n,NameKind.cell) else(n,k)).lookup p.1=some .cell) ∨
      ((sc.names.map fun(n,k)=>if (k==.free&&dW.kind==.function&&dW.names.lookup n==some .cell) then(n,NameKind.cell) else(n,k)).lookup p.1=some .free)) &&
     decide (dW.names.lookup p.1=some .local\/dW.names.lookup p.1=some .cell\/dW.names.lookup p.1=some .free))
theorem f6{X:Cx}{sc:Scope}{N':List Str}{cap:List (Option Nat)}(h:ET X.env.scope X.N sc N' cap=true):Pf X sc N' cap:=by
 unfold ET at h;rw[qe5,qe5,qe5,qe5,qe5,qi4,qi4,qi4,qi4]at h;obtain⟨⟨⟨⟨⟨h1,h2⟩,h3⟩,h4⟩,h5⟩,h6⟩:=h;refine⟨qd5 h1,qd5 h2,fun x hx=>qd5 (h3 x hx),fun x hx=>qd5 (h4 x hx),fun n hn=>qd5 (h5 _ hn) rfl,fun i j x e1 e2=>?_⟩
 have hm:(x,some j)∈N'.zip cap:=by
  have e:(N'.zip cap)[i]?=some (x,some j):=by
   rw[List.getElem?_zip_eq_some];exact⟨e1,e2⟩
  exact qh6 e
 have h7:=h6 _ hm;dsimp only at h7;rw[qe5,qe5]at h7;obtain⟨⟨h8,h9⟩,h10⟩:=h7;exact⟨qd5 h8,qd5 (p:=(relabel sc X.env).names.lookup x=some .cell\/(relabel sc X.env).names.lookup x=some .free) h9,qd5 (p:=X.env.scope.names.lookup x=some .local\/X.env.scope.names.lookup x=some .cell\/X.env.scope.names.lookup x=some .free) h10⟩
noncomputable def iQ(X:Cx)(ifs:List Expr)(t:TT):Prop :=
 ∀(Ac:Bj) (s:Shared) (σ:St) (H:Hp) (Q:Bool->Hp->Prop),Bk X Ac σ H s->t σ H Q →
   wpAny (model X.prog X.w) X.A (forIn ifs true fun c r=>if r=true then do let ok ←isTrue c X.env (eval c X.env);pure (ForInStep.yield ok) else pure (ForInStep.yield r)) (TP X Ac σ Q) X.xe s
noncomputable def l0:TT:=fun _ H Q=>Q true H
theorem Cn{X:Cx}:iQ X [] l0:=fun _ _ _ H _ I h=>wpAny_tests_nil ⟨H,I,h⟩
theorem DO{X:Cx}{c:Expr}{t:TT}(h:PT X c t):iQ X [c] t:=fun Ac s σ H Q I hw=>wpAny_tests_one (h Ac s σ H Q I hw)
noncomputable def Ng(J:It)(g:TG)(tc:TT)(te:TE)(D:Addr)(Q:Hp->Prop)(τ:St)(H:Hp):Prop :=
 ∃W:Nat->Nat->List V->St->Hp->Prop,(∃m,W 0 m [] τ H)/\∀i m ys τ H,W i m ys τ H →
   (J.stop i H/\Q H) ∨
   (J.go i H/\∃N:List V->St->Hp->Prop,(∀ys' τ' H',N ys' τ' H'->∃m',m'<m/\W (i+1) m' ys' τ' H') ∧
     ∀x H',J.yld i H x H'->g x τ H' fun τ2 H2=>tc τ2 H2 fun b H3=>if b=true then te τ2 H3 fun y H4=>H4 D=some (.lst ys)/\ys.length<sizeLine/\N (ys++[y]) τ2 (upd H4 D (.lst (ys++[y]))) else N ys τ2 H3)
section
variable{X:Cx}{sc:Scope}{N':List Str}{cap:List (Option Nat)}{tg elt iter:Expr}{ifs:List Expr}{pos:Pos}{g:TG}{tc:TT}{te:TE}
theorem aG{Y:Cx}{J:It}{fp:List Addr}{it D:Addr}{tn:Nat->Heap->Prop}{R:Result->Shared->Prop}{Q:Hp->Prop}{τ:St}{H:Hp}{s:Shared}
 (hx:Y.xe=fun _ _=>False) (hc:Y.calm=true) (hg:PG Y tg g) (ht:iQ Y ifs tc) (he:PE Y elt te) (T:S3 Y.prog Y.w Y.K tg J fp it tn) (st:tn 0 s.heap) (hf:∀b∈fp,Lg Y [] H b) (I:Bk Y [] τ H s)
 (h:Ng J g tc te D Q τ H) (hR:∀τ' H' s',Bk Y [] τ' H' s'->Q H'->R (.ok .next) s') :
 codeAny (model Y.prog Y.w) Y.A (.compLoop (.ListComp elt [⟨tg,iter,ifs,0⟩] sc pos) 0 (.ref it) (.ref D) Y.env) R s:=by
 obtain⟨W,⟨m0,w0⟩,turn⟩:=h;have X2:∀{H':Hp},(∀b∈fp,H' b=none)->∀b∈fp,Lg Y [] H' b:=fun hn b hb=>⟨hn b hb,(hf b hb).2⟩
 have no:∀{P:Prop}{e:Value}{s':Shared},Y.xe e s'->P:=fun z=>by rw[hx]at z;exact z.elim
 refine codeAny_loop rfl (fun n s'=>∃i ys τ' H',Bk Y [] τ' H' s'/\tn i s'.heap/\(∀b∈fp,H' b=none)/\W i n ys τ' H') ?_ m0 ⟨0,[],τ,H,I,st,fun b hb=>(hf b hb).1,w0⟩;rintro n s3 ⟨i,ys,τ3,H3,I3,st3,CZ,w3⟩;show wpAny _ Y.A ((compTurn (.ListComp elt [⟨tg,iter,ifs,0⟩] sc pos) 0 (.ref it) (.ref D) Y.env).onRaise (fun x=>do noteFrame x Y.env;theTreesLotGoes x)) _ _ s3;refine wpAny_noted ?_;rw[compTurn_list];refine qa6 (wpAny_standAt (qa6 ?_));rcases turn i n ys τ3 H3 w3 with⟨stop,qn⟩|⟨go,N,hN,step⟩
 . refine qk3 (T.done Y rfl rfl rfl hc i [] s3 τ3 H3 (fun _ _=>False) I3 (X2 CZ) st3 stop) (fun r s4 _z=>?_) fun _ _ z=>z.elim;obtain⟨hr,I4⟩:=_z;subst hr;exact qd8 (hR _ _ _ I4 qn)
 . refine qk3 (T.item Y rfl rfl rfl hc i [] s3 τ3 H3 (fun _ _=>False) I3 (X2 CZ) st3 go) (fun r s4 _z=>?_) fun _ _ z=>z.elim;obtain⟨u,hr,h4⟩:=_z;subst hr;refine qa6 (qk3 h4 (fun _ s5 _z=>?_) fun _ _ z=>z.elim);obtain⟨x,H5,I5,r5,y5,GH,HS⟩:=_z;have oF:=I5.pinned (X2 HS) (T.obj _ _ GH)
   have again:∀{τ7:St}{H7:Hp}{LD:List V}{s7:Shared},Bk Y ([]++Qx fp s5.heap) τ7 H7 s7->N LD τ7 H7->∃m,m<n/\∃i ys τ' H',Bk Y [] τ' H' s7/\tn i s7.heap/\(∀b∈fp,H' b=none)/\W i m ys τ' H':=fun {τ7 H7 LD s7} I7 n7=>by
    obtain⟨m',hm,w7⟩:=hN LD τ7 H7 n7;refine⟨m',hm,i+1,LD,τ7,H7,I7.unpinned,T.keep _ _ _ GH fun b hb o e=>(I7.pin (b,o) (qe8 _ (qe8 _ (Jc hb e)))).1,fun b hb=>?_,w7⟩;obtain⟨o,e,d⟩:=T.obj _ _ GH b hb;exact(I7.pin (b,o) (qe8 _ (qe8 _ (Jc hb e)))).2.1
   refine qa6 (qk3 (hg _ s5 τ3 H5 x u _ oF r5 (step x H5 y5)) (fun _ s6 _z=>?_) fun _ _ z=>no z);obtain⟨τ6,H6,I6,q6⟩:=_z;refine qa6 (qk3 (ht _ s6 τ6 H6 _ I6 q6) (fun ok s7 _z=>?_) fun _ _ z=>no z);obtain⟨H7,I7,q7⟩:=_z;cases ok with
   | false =>
     have q8:N ys τ6 H7:=by simpa using q7
     exact qd8 ⟨rfl,again I7 q8⟩
   | true =>
     have q8:te τ6 H7 fun y H4=>H4 D=some (.lst ys)/\ys.length<sizeLine/\N (ys++[y]) τ6 (upd H4 D (.lst (ys++[y]))):=by simpa using q7
     refine qa6 (qa6 (qk3 (he _ s7 τ6 H7 _ I7 q8) (fun y s8 _z=>?_) fun _ _ z=>no z));obtain⟨v8,H8,I8,r8,hD,hl,n8⟩:=_z;refine qa6 (qk3 (Gm _ s8 τ6 H8 (.ref D) [v8] (.ref D) [y] (fun _ H9=>N (ys++[v8]) τ6 H9) I8 rfl (.cons r8 .nil) ⟨D,ys,v8,rfl,rfl,hD,hl,n8⟩) (fun _ s9 _z=>?_) fun _ _ z=>no z);obtain⟨_,H9,I9,_,n9⟩:=_z;exact qd8 (qd8 ⟨rfl,again I9 n9⟩)
theorem Ru{Ac:Bj}{σ:St}{H:Hp}{s:Shared}{J:It}{fp:List Addr}{it:Addr}{tn:Nat->Heap->Prop}{RR:Value->Addr->Result->Shared->Prop}{Q:Addr->Hp->Prop}{E:Value->Shared->Prop}
 (c:Pf X sc N' cap) (hc:X.calm=true) (hg:∀C s₀ H₀ fp,PG (Dz X sc N' C s₀ H₀ fp) tg g) (ht:∀C s₀ H₀ fp,iQ (Dz X sc N' C s₀ H₀ fp) ifs tc) (he:∀C s₀ H₀ fp,PE (Dz X sc N' C s₀ H₀ fp) elt te)
 (I:Bk X Ac σ H s) (T:S3 X.prog X.w X.K tg J fp it tn) (st:tn 0 s.heap) (hf:∀b∈fp,Lg X Ac H b)
 (h:∀D,H D=none->Ng J g tc te D (Q D) (Zc cap σ) (upd H D (.lst [])))
 (hR:∀D C s' H' m',H D=none->s.heap.objs.size<=C->s'.os=s.os->AllBare s'.gens->Un (aS X.stack) fp H H' s.heap s'.heap->Pw X.prog X.w H' s'.heap->s'.heap.Ns C m'->H' C=none->C ∉ fp->Q D H'->RR (.ref D) C (.ok .next) s') :
 wpAny (model X.prog X.w) X.A (newList []) (fun acc s₃=>wpAny (model X.prog X.w) X.A (newFunctionEnv sc X.env.globals (Su X.env.cells sc.names []) [] X.env.qual none .none (some X.env)) (fun cenv s₄ =>
  codeAny (model X.prog X.w) X.A (.compStart (.ListComp elt [⟨tg,iter,ifs,0⟩] sc pos) 0 (.ref it) acc { cenv with scope:=relabel sc X.env }) (RR acc cenv.locals) s₄) E s₃) E s:=by
 have hb:∀b∈fp,b<s.heap.objs.size:=fun b hb=>by
  obtain⟨o,e,_⟩:=T.obj _ _ st b hb;exact qa9 e
 refine wpAny_newObj_type (wpAny_newFunctionEnv c.nocell (by intro y hy;simp at hy) (fun h₁ HG EK=>?_) c.kind);dsimp only at HG EK ⊢;generalize LV:s.heap.push { cls:=.type "list",dict:=none,data:=.seq ([]:List Value).toArray }=H2 at HG EK ⊢;have hC:H2.objs.size=s.heap.objs.size+1:=by rw[←LV,qh2]
 have lW:s.heap.objs.size<=H2.objs.size:=by rw[hC];exact qk7 _
 have SK:s.heap.objs.size≠H2.objs.size:=by rw[hC];exact(Nat.succ_ne_self _).symm
 have old:∀b o,s.heap.get? b=some o->h₁.get? b=some o:=fun b o e=>by
  have l1:=qa9 e;exact EK.extBut b o (qc4 (qa8 l1 lW)) (qa2 _ (LV▸qa2 _ e))
 have hl:h₁.get? s.heap.objs.size=some { cls:=.type "list",data:=.seq #[] 0 }:=EK.extBut _ _ SK (qa2 _ (LV▸qb5 _ rfl));have NG:h₁.Ns H2.objs.size fun _=>none:=by simpa using HG
 have I4:Bk (Dz X sc N' H2.objs.size s H fp) [] (Zc cap σ) (upd H s.heap.objs.size (.lst [])) { s with heap:=h₁,toks:=s.toks+([]:List (Str × Value)).length }:=cO c I hC rfl hf hb NG hl old;have hfr:H s.heap.objs.size=none:=I.fresh
 have f4:∀b∈fp,Lg (Dz X sc N' H2.objs.size s H fp) [] (upd H s.heap.objs.size (.lst [])) b:=fun b hb'=>by
  obtain⟨f0,f1,f2,f3,f4,f5⟩:=hf b hb';have lb:=hb b hb';refine⟨by rw[As (qc4 lb)];exact f0,(qc4 (qa8 lb lW):b≠H2.objs.size),fun z=>?_,.inl hb',fun x a e=>f4 x a (Ev (c.cells I.ok) (fun z=>by simp at z) e),fun p hp=>absurd hp (by simp[Dz])⟩;rcases qc6.mp (I.stkSub b z) with e | e
  . exact f1 e
  . exact f2 e
 have OM:tn 0 h₁:=T.keep _ _ _ st fun b _ o e=>old b o e
 have loop:∀s₅:Shared,s₅={ s with heap:=h₁,toks:=s.toks+([]:List (Str × Value)).length } →
  codeAny (model X.prog X.w) X.A (.compLoop (.ListComp elt [⟨tg,iter,ifs,0⟩] sc pos) 0 (.ref it) (.ref s.heap.objs.size) (Dz X sc N' H2.objs.size s H fp).env) (RR (.ref s.heap.objs.size) H2.objs.size) s₅:=by
  rintro s₅ rfl;refine aG (Y:=Dz X sc N' H2.objs.size s H fp) (J:=J) (fp:=fp) (tn:=tn) (Q:=Q s.heap.objs.size) rfl hc (hg _ _ _ _) (ht _ _ _ _) (he _ _ _ _) T OM f4 I4 (h _ hfr) fun τ' H' s' I' q'=>?_;obtain⟨m',hn',_⟩:=I'.loc;exact hR _ _ s' H' m' hfr lW I'.os I'.bare I'.base I'.hok hn' I'.free (fun z=>absurd (qa8 (hb _ z) lW) (qk1 _)) q'
 exact codeAny_compStart_list (loop _ rfl) (T.self _ 0 _ _ _ OM (loop _ rfl))
noncomputable def FE(wi:TI)(cap:List (Option Nat))(g:TG)(tc:TT)(te:TE):TE:=fun σ H Q=>wi σ H fun J H1=>∀D,H1 D=none->Ng J g tc te D (fun H'=>Q (.ref D) H') (Zc cap σ) (upd H1 D (.lst []))
theorem Bk.fpCh{Ac:Bj}{H:Hp}{fp:List Addr}(hf:∀b∈fp,Lg X Ac H b):∀b∈fp,(b∈X.ex\/X.s₀.heap.objs.size<=b)/\b≠X.env.locals/\(∀x c,X.env.cells.lookup x=some c->c≠b)/\∀p∈X.pn++Ac,p.1≠b :=
 fun b hb=>let ⟨_,f1,_,f3,f4,f5⟩:=hf b hb;⟨f3,f1,f4,f5⟩
theorem Co{wi:TI}(hc:X.calm=true)(hcap:ET X.env.scope X.N sc N' cap=true)(hi:PI X tg iter wi)(hg:∀C s₀ H₀ fp,PG (Dz X sc N' C s₀ H₀ fp) tg g)(ht:∀C s₀ H₀ fp,iQ (Dz X sc N' C s₀ H₀ fp) ifs tc)
 (he:∀C s₀ H₀ fp,PE (Dz X sc N' C s₀ H₀ fp) elt te) (hs:∀x,foldedSetIterable iter X.env x=pure x:=by intro _;rfl):PE X (.ListComp elt [⟨tg,iter,ifs,0⟩] sc pos) (FE wi cap g tc te):=by
 intro Ac s σ H Q I h;have c:Pf X sc N' cap:=f6 hcap;rw[eval_ListComp];refine wpAny_comprehension_free (use:=none) rfl hs (Rv (c.cells I.ok)) c.kind c.locals (Dn (hi Ac s σ H _ I h) fun v s1 h1=>Dn h1 fun itv s2 h2=>?_);obtain⟨it,fp,tn,J,H2,e,I2,T,st2,f2,hW⟩:=h2;subst e;refine Ru (RR:=fun acc C=>compPost (model X.prog X.w) X.A X.xe none (EP X Ac σ Q) acc C) (Q:=fun D H'=>Q (.ref D) H') c hc hg ht he I2 T st2 f2 hW ?_;intro D C s' H' m' hD hC hos hbare hun hok hn kK hCf q;refine⟨m',hn,fun h' Od=>?_⟩;have I3:Bk X Ac σ H' s':=I2.call' hos hun hok hbare (Bk.fpCh f2);have f3:Lg X Ac H' C:=I2.fpOk hC kK;obtain⟨_,k1,_,k3,k4,k5⟩:=f3;have I4:Bk X Ac σ H' { s' with heap:=h' }:=I3.turned (t':=s'.toks) (fun b o hb e=>(Od.2 b hb).trans e) kK k1 k3 k4 k5;exact⟨.ref D,H',I4,rfl,q⟩
theorem dP{wi:TI}{i:Nat}{x:Str}{px spos:Pos}(hN:X.N.Nodup)(hi':X.N[i]?=some x)(hx:iE X.env.scope x)(hc:X.calm=true)(hcap:ET X.env.scope X.N sc N' cap=true)(hi:PI X tg iter wi)
 (hg:∀C s₀ H₀ fp,PG (Dz X sc N' C s₀ H₀ fp) tg g) (ht:∀C s₀ H₀ fp,iQ (Dz X sc N' C s₀ H₀ fp) ifs tc) (he:∀C s₀ H₀ fp,PE (Dz X sc N' C s₀ H₀ fp) elt te)
 (hsw:swapsWith (.ListComp elt [⟨tg,iter,ifs,0⟩] sc pos) (some (.Name x px)) spos.line X.env=pure true:=by rfl)
 (hs:∀x,foldedSetIterable iter X.env x=pure x:=by intro _;rfl) (hf:X.fn x=true\/X.env.scope.names.lookup x=some .local:=by first | exact .inl rfl | exact .inr rfl | assumption) :
 PS X (.Assign [.Name x px] (.ListComp elt [⟨tg,iter,ifs,0⟩] sc pos) spos) (dH (FE wi cap g tc te) (Rp i)):=by
 intro Ac s σ H D I h;have c:Pf X sc N' cap:=f6 hcap;rw[exec_Assign_Name_used _ _ _ _ hsw];refine qa6 (wpAny_standAt (qa6 ?_));show wpAny _ X.A (do let _ ←comprehension (.ListComp elt [⟨tg,iter,ifs,0⟩] sc pos) sc X.env _ (newList []) false (eval iter X.env) (some (assign (.Name x px) X.env))) _ _ s
 refine qa6 (Dn (wpAny_comprehension_free (use:=some (assign (.Name x px) X.env)) (Q:=fun _ s'=>SP X Ac D .next s') rfl hs (Rv (c.cells I.ok)) c.kind c.locals
  (Dn (hi Ac s σ H _ I h) fun v s1 h1=>Dn h1 fun itv s2 h2=>?_)) fun _ s' hq=>qd8 (qd8 hq))
 obtain⟨it,fp,tn,J,H2,e,I2,T,st2,f2,hW⟩:=h2;subst e;refine Ru (RR:=fun acc C=>compPost (model X.prog X.w) X.A X.xe (some (assign (.Name x px) X.env)) (fun _ s'=>SP X Ac D .next s') acc C) (Q:=fun A H'=>Rp i (.ref A) σ H' D.nx) c hc hg ht he I2 T st2 f2 hW ?_;intro A C s' H' m' hD hC hos hbare hun hok hn kK hCf q;have I3:Bk X Ac σ H' s':=I2.call' hos hun hok hbare (Bk.fpCh f2);have f3:Lg X Ac H' C:=I2.fpOk hC kK;obtain⟨_,k1,_,k3,k4,k5⟩:=f3;show wpAny _ X.A (assign (.Name x px) X.env (.ref A)) _ _ s';refine wpAny_assign_Name (Tb I3 hN hi' hx (v:=.ref A) rfl (fun s'' TH _z=>?_) hf);obtain⟨a,Od,ha⟩:=_z
 have sM:C≠a:=by
  rcases ha with z | z
  . rw[z];exact k1
  . exact fun z'=>k4 x a z z'.symm
 refine⟨m',hn.sameBut Od sM,fun h' NB=>?_⟩;have I4:Bk X Ac (σ.set i (some (.ref A))) H' { s'' with heap:=h' }:=TH.turned (t':=s''.toks) (fun b o hb e=>(NB.2 b hb).trans e) kK k1 k3 k4 k5;exact⟨_,H',I4,q⟩
end
section
variable{g:TG}{tc:TT}{te:TE}{D:Addr}{Q:Hp->Prop}{τ:St}{H:Hp}
theorem AG{K:W.Frag}{a:Addr}{xs:List V}(Pv:Nat->List V->St->Hp->Prop)(h0:Pv 0 [] τ H)(hl:∀i ys τ H,i<=xs.length->Pv i ys τ H->SqL K H a xs)
 (hs:∀i x ys τ H,xs[i]?=some x->Pv i ys τ H->g x τ H fun τ2 H2=>tc τ2 H2 fun b H3=>if b=true then te τ2 H3 fun y H4=>H4 D=some (.lst ys)/\ys.length<sizeLine/\Pv (i+1) (ys++[y]) τ2 (upd H4 D (.lst (ys++[y]))) else Pv (i+1) ys τ2 H3)
 (hd:∀ys τ H,Pv xs.length ys τ H->Q H):Ng (IF K a) g tc te D Q τ H:=by
 refine⟨fun i m ys τ H=>m=xs.length-i/\i<=xs.length/\Pv i ys τ H,⟨xs.length,by simp,qa5 _,h0⟩,?_⟩;rintro i m ys τ H ⟨rfl,hi,p⟩;have q:=hl i ys τ H hi p;by_cases hlt:i<xs.length
 . refine .inr ⟨⟨xs,xs[i],q,by simp[hlt]⟩,Pv (i+1),fun ys' τ' H' p'=>⟨xs.length-(i+1),O9m,rfl,hlt,p'⟩,fun x H' y=>?_⟩;obtain⟨e,y⟩:=y;subst e;exact hs i x ys τ _ (y xs q) p
 . have e:i=xs.length:=O9m
   subst e;exact .inl ⟨⟨xs,q,qa0 _⟩,hd ys τ H p⟩
theorem CN{K:W.Frag}{a:Addr}{xs:List V}(Pv:Nat->List V->St->Hp->Prop)(h0:Pv 0 [] τ H)(hl:∀i ys τ H,i<=xs.length->Pv i ys τ H->Du K H a xs)
 (hs:∀i x ys τ H,xs[i]?=some x->Pv i ys τ H->g x τ H fun τ2 H2=>tc τ2 H2 fun b H3=>if b=true then te τ2 H3 fun y H4=>H4 D=some (.lst ys)/\ys.length<sizeLine/\Pv (i+1) (ys++[y]) τ2 (upd H4 D (.lst (ys++[y]))) else Pv (i+1) ys τ2 H3)
 (hd:∀ys τ H,Pv xs.length ys τ H->Q H):Ng (iF K a) g tc te D Q τ H:=by
 refine⟨fun i m ys τ H=>m=xs.length-i/\i<=xs.length/\Pv i ys τ H,⟨xs.length,by simp,qa5 _,h0⟩,?_⟩;rintro i m ys τ H ⟨rfl,hi,p⟩;have q:=hl i ys τ H hi p;by_cases hlt:i<xs.length
 . refine .inr ⟨⟨xs,xs[i],q,by simp[hlt]⟩,Pv (i+1),fun ys' τ' H' p'=>⟨xs.length-(i+1),O9m,rfl,hlt,p'⟩,fun x H' y=>?_⟩;obtain⟨e,y⟩:=y;subst e;exact hs i x ys τ _ (y xs q) p
 . have e:i=xs.length:=O9m
   subst e;exact .inl ⟨⟨xs,q,qa0 _⟩,hd ys τ H p⟩
theorem Za{lo:Int}{n:Nat}(Pv:Nat->List V->St->Hp->Prop)(h0:Pv 0 [] τ H)
 (hs:∀i ys τ H,i<n->Pv i ys τ H->g (.int (lo+i)) τ H fun τ2 H2=>tc τ2 H2 fun b H3=>if b=true then te τ2 H3 fun y H4=>H4 D=some (.lst ys)/\ys.length<sizeLine/\Pv (i+1) (ys++[y]) τ2 (upd H4 D (.lst (ys++[y]))) else Pv (i+1) ys τ2 H3)
 (hd:∀ys τ H,Pv n ys τ H->Q H):Ng (EY lo n) g tc te D Q τ H:=by
 refine⟨fun i m ys τ H=>m=n-i/\i<=n/\Pv i ys τ H,⟨n,by simp,qa5 _,h0⟩,?_⟩;rintro i m ys τ H ⟨rfl,hi,p⟩;by_cases hlt:i<n
 . refine .inr ⟨hlt,Pv (i+1),fun ys' τ' H' p'=>⟨n-(i+1),O9m,rfl,hlt,p'⟩,fun x H' y=>?_⟩;obtain⟨e,y⟩:=y;subst e y;exact hs i ys τ _ hlt p
 . have e:i=n:=O9m
   subst e;exact .inl ⟨qa0 _,hd ys τ H p⟩
end
end L2
namespace L2
open PySem PySem.Spec PyProof.Rows PySem.SeqAt
inductive D where
 | non | bl (b:Bool) | int (i:Int) | str (x:Str) | tup (ds:List D) | lst (ds:List D)
mutual
def Rep(K:W.Frag)(H:Hp):V->D->Prop
 | v,.non=>v=.non
 | v,.bl b=>v=.bl b
 | v,.int i=>v=.int i
 | v,.str x=>v=.str x
 | v,.tup ds=>∃a vs,v=.ref a/\Du K H a vs/\Reps K H vs ds
 | v,.lst ds=>∃a vs,v=.ref a/\SqL K H a vs/\Reps K H vs ds
def Reps(K:W.Frag)(H:Hp):List V->List D->Prop
 | vs,[]=>vs=[]
 | vs,d::ds=>∃v r,vs=v::r/\Rep K H v d/\Reps K H r ds
end
mutual
def lS:D->Bool
 | .lst _=>false
 | .tup ds=>imms ds
 | _=>true
def imms:List D->Bool
 | []=>true
 | d::ds=>lS d&&imms ds
end
mutual
def dep:D->Nat
 | .lst ds=>deps ds+1
 | .tup ds=>deps ds+1
 | _=>0
def deps:List D->Nat
 | []=>0
 | d::ds=>max (dep d) (deps ds)
end
mutual
def eqD:D->D->Bool
 | .non,.non=>true
 | .bl a,.bl b=>a==b
 | .bl a,.int b=>(if a then 1 else 0)==b
 | .int a,.bl b=>a==(if b then 1 else 0)
 | .int a,.int b=>a==b
 | .str a,.str b=>a==b
 | .tup a,.tup b=>eqDs a b
 | .lst a,.lst b=>eqDs a b
 | _,_=>false
def eqDs:List D->List D->Bool
 | [],[]=>true
 | a::r,b::q=>eqD a b&&eqDs r q
 | _,_=>false
end
mutual
theorem Ik(d:D):eqD d d=true:=by
 cases d with
 | non=>rfl
 | bl b=>simp[eqD]
 | int b=>simp[eqD]
 | str b=>simp[eqD]
 | tup ds=>simp only[eqD];exact eqDs_refl ds
 | lst ds=>simp only[eqD];exact eqDs_refl ds
theorem eqDs_refl(ds:List D):eqDs ds ds=true:=by
 cases ds with
 | nil=>rfl
 | cons d r=>simp only[eqDs,qe5];exact⟨Ik d,eqDs_refl r⟩
end
theorem eqDs_len:∀{a b:List D},eqDs a b=true->a.length=b.length
 | [],[],_=>rfl
 | [],_::_,h=>by simp[eqDs]at h
 | _::_,[],h=>by simp[eqDs]at h
 | x::a,y::b,h=>by
   simp only[eqDs,qe5]at h;rw[qe4,qe4,eqDs_len h.2]
theorem Kn:∀(a b:List D),a.length=b.length->eqDs a b=(List.range a.length).all fun j=>match a[j]?,b[j]? with | some x,some y=>eqD x y | _,_=>true
 | [],[],_=>by simp[eqDs]
 | [],_::_,h=>by simp at h
 | _::_,[],h=>by simp at h
 | x::a,y::b,h=>by
   have h':a.length=b.length:=by simpa using h
   rw[qe4,List.range_succ_eq_map,List.all_cons,List.all_map];simp only[eqDs,Kn a b h']
   congr 1
structure g7(H H':Hp):Prop where
 tup:∀b xs,H b=some (.tup xs)->H' b=some (.tup xs)
 frz:∀b o u,H b=some (.frz o u)->H' b=some (.frz o u)
section
variable{K:W.Frag}{H H' H1 H2:Hp}{a l p:Addr}{xs:List V}{o:HO}
theorem Ao.t(x:Ao H H'):g7 H H':=⟨fun b xs h=>x b _ h,fun b o u h=>x b _ h⟩
theorem Ao.new(h:H l=none):Ao H (upd H l o):=fun b u e=>by rw[As (Bb e h)];exact e
theorem Ao.turn(x:Ao H H1)(h:H l=none):Ao H (upd H1 l o):=fun b u e=>by rw[As (Bb e h)];exact x b u e
theorem Du.t(x:g7 H H')(h:Du K H a xs):Du K H' a xs:=by
 rcases h with(h|⟨o,h⟩) | h
 . exact .inl (.inl (x.tup _ _ h))
 . exact .inl (.inr ⟨o,x.frz _ _ _ h⟩)
 . exact .inr h
theorem Ao.seqT(x:Ao H H')(h:Du K H a xs):Du K H' a xs:=h.t x.t
mutual
theorem Rep.t(x:g7 H H'){v:V}{d:D}(hi:lS d=true)(h:Rep K H v d):Rep K H' v d:=by
 cases d with
 | non=>exact h
 | bl b=>exact h
 | int i=>exact h
 | str x=>exact h
 | tup ds =>
   obtain⟨a,vs,e,q,r⟩:=h;exact⟨a,vs,e,q.t x,Reps.t x (by simpa[lS]using hi) r⟩
 | lst ds=>simp[lS]at hi
theorem Reps.t(x:g7 H H'){vs:List V}{ds:List D}(hi:imms ds=true)(h:Reps K H vs ds):Reps K H' vs ds:=by
 cases ds with
 | nil=>exact h
 | cons d r =>
   obtain⟨v,q,e,h1,h2⟩:=h;simp only[imms,qe5]at hi;exact⟨v,q,e,Rep.t x hi.1 h1,Reps.t x hi.2 h2⟩
end
mutual
theorem Rep.same(x:Ao H H'){v:V}{d:D}(h:Rep K H v d):Rep K H' v d:=by
 cases d with
 | non=>exact h
 | bl b=>exact h
 | int i=>exact h
 | str x=>exact h
 | tup ds =>
   obtain⟨a,vs,e,q,r⟩:=h;exact⟨a,vs,e,x.seqT q,Reps.same x r⟩
 | lst ds =>
   obtain⟨a,vs,e,q,r⟩:=h;exact⟨a,vs,e,x.seq q,Reps.same x r⟩
theorem Reps.same(x:Ao H H'){vs:List V}{ds:List D}(h:Reps K H vs ds):Reps K H' vs ds:=by
 cases ds with
 | nil=>exact h
 | cons d r =>
   obtain⟨v,q,e,h1,h2⟩:=h;exact⟨v,q,e,Rep.same x h1,Reps.same x h2⟩
end
theorem Reps.length:∀{vs:List V}{ds:List D},Reps K H vs ds->vs.length=ds.length
 | vs,[],h=>by cases (show vs=[] from h);rfl
 | vs,d::ds,h=>by
   obtain⟨v,r,rfl,_,h2⟩:=h;rw[qe4,qe4,Reps.length h2]
theorem Reps.get:∀{vs:List V}{ds:List D}{i:Nat}{d:D},Reps K H vs ds->ds[i]?=some d->∃v,vs[i]?=some v/\Rep K H v d
 | vs,[],i,d,h,e=>by simp at e
 | vs,d0::ds,0,d,h,e=>by
   obtain⟨v,r,rfl,h1,_⟩:=h;simp only[List.getElem?_cons_zero,Option.some.injEq]at e;subst e;exact⟨v,by simp,h1⟩
 | vs,d0::ds,i+1,d,h,e=>by
   obtain⟨v,r,rfl,_,h2⟩:=h;obtain⟨u,e1,e2⟩:=Reps.get (i:=i) h2 (by simpa using e);exact⟨u,by simpa using e1,e2⟩
theorem Reps.getV:∀{vs:List V}{ds:List D}{i:Nat}{v:V},Reps K H vs ds->vs[i]?=some v->∃d,ds[i]?=some d/\Rep K H v d:=fun {vs ds i v} h e=>by
 have hl:=h.length;have hi:i<vs.length:=(qb2.mp e).1;obtain⟨d,hd⟩:∃d,ds[i]?=some d:=⟨ds[i]'(O9m),by simp<;>omega⟩
 obtain⟨u,e1,e2⟩:=h.get hd;rw[e]at e1;cases e1;exact⟨d,hd,e2⟩
noncomputable def Yl(ns:List Int):List D:=ns.map D.int
noncomputable abbrev tI(ns:List Int):D:=.tup (Yl ns)
theorem Ky:∀{vs:List V}{ns:List Int},Reps K H vs (Yl ns)↔vs=ns.map V.int
 | vs,[]=>Iff.rfl
 | vs,n::ns=>by
   constructor
   . rintro ⟨v,r,rfl,h1,h2⟩;have fS:v=.int n:=h1;rw[fS,Ky.mp h2];rfl
   . rintro rfl;exact⟨.int n,ns.map V.int,rfl,rfl,Ky.mpr rfl⟩
end
section
variable{X:Cx}{Ac:Bj}{σ:St}{H:Hp}{s:Shared}
theorem Z5(I:Bk X Ac σ H s){a:Addr}{xs ys:List V}(h:Du X.K H a xs)(h':SqL X.K H a ys):False:=by
 obtain⟨its,r,⟨o,e,c,n,d⟩,_⟩:=I.tuple h;obtain⟨its',r',⟨o',n',e',c',_,d'⟩,_⟩:=I.list h';rw[e]at e';cases e';rw[c]at c';have z:("tuple":String)="list":=by injection c'
 exact absurd z (by decide)
mutual
theorem Rep.inj(I:Bk X Ac σ H s){v:V}{d e:D}(h:Rep X.K H v d)(h':Rep X.K H v e):d=e:=by
 cases d with
 | non=>cases (show v=.non from h);cases e<;>first | rfl | (exfalso;first | (cases (show V.non=_ from h')) | (obtain⟨_,_,z,_⟩:=h';cases z))
 | bl b=>cases (show v=.bl b from h);cases e<;>first | (cases (show V.bl b=_ from h');rfl) | (exfalso;first | (cases (show V.bl b=_ from h')) | (obtain⟨_,_,z,_⟩:=h';cases z))
 | int b=>cases (show v=.int b from h);cases e<;>first | (cases (show V.int b=_ from h');rfl) | (exfalso;first | (cases (show V.int b=_ from h')) | (obtain⟨_,_,z,_⟩:=h';cases z))
 | str b=>cases (show v=.str b from h);cases e<;>first | (cases (show V.str b=_ from h');rfl) | (exfalso;first | (cases (show V.str b=_ from h')) | (obtain⟨_,_,z,_⟩:=h';cases z))
 | tup ds =>
   obtain⟨a,vs,rfl,q,r⟩:=h;cases e with
   | tup es =>
     obtain⟨b,ws,z,q',r'⟩:=h';cases z;have e1:=I.tuple_inj q q';subst e1;rw[Reps.inj I r r']
   | lst es =>
     obtain⟨b,ws,z,q',r'⟩:=h';cases z;exact(Z5 I q q').elim
   | non=>cases (show V.ref a=_ from h')
   | bl _=>cases (show V.ref a=_ from h')
   | int _=>cases (show V.ref a=_ from h')
   | str _=>cases (show V.ref a=_ from h')
 | lst ds =>
   obtain⟨a,vs,rfl,q,r⟩:=h;cases e with
   | lst es =>
     obtain⟨b,ws,z,q',r'⟩:=h';cases z;have e1:=I.list_inj q q';subst e1;rw[Reps.inj I r r']
   | tup es =>
     obtain⟨b,ws,z,q',r'⟩:=h';cases z;exact(Z5 I q' q).elim
   | non=>cases (show V.ref a=_ from h')
   | bl _=>cases (show V.ref a=_ from h')
   | int _=>cases (show V.ref a=_ from h')
   | str _=>cases (show V.ref a=_ from h')
theorem Reps.inj(I:Bk X Ac σ H s){vs:List V}{ds es:List D}(h:Reps X.K H vs ds)(h':Reps X.K H vs es):ds=es:=by
 cases ds with
 | nil =>
   cases (show vs=[] from h);cases es with
   | nil=>rfl
   | cons e es=>obtain⟨_,_,z,_⟩:=h';cases z
 | cons d ds =>
   obtain⟨v,r,rfl,h1,h2⟩:=h;cases es with
   | nil=>cases (show v::r=[] from h')
   | cons e es =>
     obtain⟨v',r',z,fS,h2'⟩:=h';cases z;rw[Rep.inj I h1 fS,Reps.inj I h2 h2']
end
noncomputable def EqD(X:Cx)(H:Hp)(s:Shared)(d:D):Prop:=∀(A:Around) (x y:V) (u v:Value) (e:D),A.units+dep d<cLine->Rep X.K H x d->Rep X.K H y e->RelV x u->RelV y v->RcAt A s u v (eqD d e)/\EqAt A s u v (eqD d e)
theorem Ul(I:Bk X Ac σ H s){ds es:List D}{vs ws:List V}{us us':List Value}{A:Around}(hu:A.units+deps ds<cLine)(r:Reps X.K H vs ds)(r':Reps X.K H ws es)(rv:Bt vs us)(Z0:Bt ws us')
 (ih:∀d∈ds,EqD X H s d) (RU:∀d∈ds,dep d<=deps ds):∀j (h1:j<us.toArray.size) (h2:j<us'.toArray.size),EqAt A s us.toArray[j] us'.toArray[j] (match ds[j]?,es[j]? with | some x,some y=>eqD x y | _,_=>true):=by
 intro j h1 h2;have l1:=r.length;have l2:=r'.length;have l3:=rv.length;have l4:=Z0.length;have fS:j<us.length:=by simpa using h1
 have h2':j<us'.length:=by simpa using h2
 have e1:ds[j]?=some (ds[j]'(O9m)):=by simp<;>omega
 have e2:es[j]?=some (es[j]'(O9m)):=by simp<;>omega
 obtain⟨v,ev,rd⟩:=r.get e1;obtain⟨w,ew,re⟩:=r'.get e2;obtain⟨u,eu,ru⟩:=rv.get ev;obtain⟨u',SS,qQ⟩:=Z0.get ew
 have f1:us.toArray[j]=u:=by
  have:us[j]?=some us[j]:=by simp
  rw[eu]at this;have:=(qe6 this).symm;simpa using this
 have f2:us'.toArray[j]=u':=by
  have:us'[j]?=some us'[j]:=by simp
  rw[SS]at this;have:=(qe6 this).symm;simpa using this
 rw[f1,f2,e1,e2];have hm:ds[j]'(O9m)∈ds:=qj4 _;exact(ih _ hm A v w u u' _ (by have:=RU _ hm;omega) rd re ru qQ).2
theorem M8:∀{ds:List D}{d:D},d∈ds->dep d<=deps ds
 | d0::ds,d,h=>by
   simp only[deps];rcases qc6.mp h with rfl | h
   . omega
   . have:=M8 h;omega
theorem Kz{a b:List D}(h:¬a.length=b.length):eqDs a b=false:=by
 cases q:eqDs a b with
 | false=>rfl
 | true=>exact absurd (eqDs_len q) h
mutual
theorem cE(I:Bk X Ac σ H s)(d:D):EqD X H s d:=by
 intro A x y u v e hu hx hy rx ry;cases d with
 | non =>
   cases (show x=.non from hx);cases (show u=Value.none from rx);cases e with
   | non=>cases (show y=.non from hy);cases (show v=Value.none from ry);exact⟨.none_none,.same _⟩
   | bl b=>cases (show y=.bl b from hy);cases (show v=Value.bool b from ry);exact⟨.none_bool b,.none_bool b⟩
   | int i=>cases (show y=.int i from hy);obtain⟨t,rfl⟩:=ry;exact⟨.none_int i t,.none_int i t⟩
   | str z=>cases (show y=.str z from hy);obtain⟨t,rfl⟩:=ry;exact⟨.none_str z t,.none_str z t⟩
   | tup es=>obtain⟨a,vs,rfl,q,r⟩:=hy;cases ry;obtain⟨its,_,p,_⟩:=I.tuple q;exact⟨.none_tuple p O9m,.none_tuple p O9m⟩
   | lst es=>obtain⟨a,vs,rfl,q,r⟩:=hy;cases ry;obtain⟨its,_,p,_⟩:=I.list q;exact⟨.none_list p.isList O9m,.none_list p.isList O9m⟩
 | bl c =>
   cases (show x=.bl c from hx);cases (show u=Value.bool c from rx);cases e with
   | non=>cases (show y=.non from hy);cases (show v=Value.none from ry);exact⟨.bool_none c,.bool_none c⟩
   | bl b=>cases (show y=.bl b from hy);cases (show v=Value.bool b from ry);exact⟨.bool_bool c b,.bool_bool c b⟩
   | int i=>cases (show y=.int i from hy);obtain⟨t,rfl⟩:=ry;exact⟨.bool_int c i t,.bool_int c i t⟩
   | str z=>cases (show y=.str z from hy);obtain⟨t,rfl⟩:=ry;exact⟨.bool_str c z t,.bool_str c z t⟩
   | tup es=>obtain⟨a,vs,rfl,q,r⟩:=hy;cases ry;obtain⟨its,_,p,_⟩:=I.tuple q;exact⟨.bool_tuple c p O9m,.bool_tuple c p O9m⟩
   | lst es=>obtain⟨a,vs,rfl,q,r⟩:=hy;cases ry;obtain⟨its,_,p,_⟩:=I.list q;exact⟨.bool_list c p.isList O9m,.bool_list c p.isList O9m⟩
 | int c =>
   cases (show x=.int c from hx);obtain⟨t,rfl⟩:=rx;cases e with
   | non=>cases (show y=.non from hy);cases (show v=Value.none from ry);exact⟨.int_none c t,.int_none c t⟩
   | bl b=>cases (show y=.bl b from hy);cases (show v=Value.bool b from ry);exact⟨.int_bool c t b,.int_bool c t b⟩
   | int i=>cases (show y=.int i from hy);obtain⟨t',rfl⟩:=ry;exact⟨.int_int c t i t',.int_int c t i t'⟩
   | str z=>cases (show y=.str z from hy);obtain⟨t',rfl⟩:=ry;exact⟨.int_str c t z t',.int_str c t z t'⟩
   | tup es=>obtain⟨a,vs,rfl,q,r⟩:=hy;cases ry;obtain⟨its,_,p,_⟩:=I.tuple q;exact⟨.int_tuple c t p O9m,.int_tuple c t p O9m⟩
   | lst es=>obtain⟨a,vs,rfl,q,r⟩:=hy;cases ry;obtain⟨its,_,p,_⟩:=I.list q;exact⟨.int_list c t p.isList O9m,.int_list c t p.isList O9m⟩
 | str c =>
   cases (show x=.str c from hx);obtain⟨t,rfl⟩:=rx;cases e with
   | non=>cases (show y=.non from hy);cases (show v=Value.none from ry);exact⟨.str_none c t,.str_none c t⟩
   | bl b=>cases (show y=.bl b from hy);cases (show v=Value.bool b from ry);exact⟨.str_bool c t b,.str_bool c t b⟩
   | int i=>cases (show y=.int i from hy);obtain⟨t',rfl⟩:=ry;exact⟨.str_int c t i t',.str_int c t i t'⟩
   | str z=>cases (show y=.str z from hy);obtain⟨t',rfl⟩:=ry;exact⟨.str_str c t z t',.str_str c t z t'⟩
   | tup es=>obtain⟨a,vs,rfl,q,r⟩:=hy;cases ry;obtain⟨its,_,p,_⟩:=I.tuple q;exact⟨.str_tuple c t p O9m,.str_tuple c t p O9m⟩
   | lst es=>obtain⟨a,vs,rfl,q,r⟩:=hy;cases ry;obtain⟨its,_,p,_⟩:=I.list q;exact⟨.str_list c t p.isList O9m,.str_list c t p.isList O9m⟩
 | tup ds =>
   have hx':=hx;obtain⟨a,vs,rfl,q,r⟩:=hx;cases rx;obtain⟨its,rv,p,_⟩:=I.tuple q;have nA:A.units+1+deps ds<cLine:=by simp only[dep]at hu;omega
   cases e with
   | non=>cases (show y=.non from hy);cases (show v=Value.none from ry);exact⟨.tuple_none p O9m,.tuple_none p O9m⟩
   | bl b=>cases (show y=.bl b from hy);cases (show v=Value.bool b from ry);exact⟨.tuple_bool b p O9m,.tuple_bool b p O9m⟩
   | int i=>cases (show y=.int i from hy);obtain⟨t',rfl⟩:=ry;exact⟨.tuple_int i t' p O9m,.tuple_int i t' p O9m⟩
   | str z=>cases (show y=.str z from hy);obtain⟨t',rfl⟩:=ry;exact⟨.tuple_str z t' p O9m,.tuple_str z t' p O9m⟩
   | lst es=>obtain⟨b,ws,rfl,q',r'⟩:=hy;cases ry;obtain⟨its',_,p',_⟩:=I.list q';exact⟨.tuple_list p p'.isList O9m,.tuple_list p p'.isList O9m⟩
   | tup es =>
     have hy':=hy;obtain⟨b,ws,rfl,q',r'⟩:=hy;cases ry;obtain⟨its',Z0,p',_⟩:=I.tuple q'
     have main:RcAt A s (.ref a) (.ref b) (eqD (.tup ds) (.tup es)):=by
      have:=RcAt.tuples (A:=A) p p' O9m (Ul I (A:=A.in1) (by show A.units+1+deps ds<cLine;omega) r r' rv Z0 (eqDs_ok I ds) fun d h=>M8 h);have l1:=r.length;have l2:=r'.length;have l3:=rv.length;have l4:=Z0.length;have e1:its.toArray.size=ds.length:=by simp<;>omega
      have e2:its'.toArray.size=es.length:=by simp<;>omega
      rw[e1,e2]at this;simp only[eqD];by_cases hl:ds.length=es.length
      . rw[Kn ds es hl];rw[←hl,qm5]at this;simpa using this
      . rw[Kz hl];have z:(ds.length==es.length)=false:=by simpa using hl
        rw[z,Bool.and_false]at this;exact this
     refine⟨main,?_⟩;by_cases hab:a=b
     . subst hab;have e3:D.tup ds=D.tup es:=Rep.inj I hx' hy';rw[e3,Ik];exact .same _
     . exact .of_refs hab main
 | lst ds =>
   have hx':=hx;obtain⟨a,vs,rfl,q,r⟩:=hx;cases rx;obtain⟨its,rv,p,_⟩:=I.list q;have nA:A.units+1+deps ds<cLine:=by simp only[dep]at hu;omega
   cases e with
   | non=>cases (show y=.non from hy);cases (show v=Value.none from ry);exact⟨.list_none p.isList O9m,.list_none p.isList O9m⟩
   | bl b=>cases (show y=.bl b from hy);cases (show v=Value.bool b from ry);exact⟨.list_bool b p.isList O9m,.list_bool b p.isList O9m⟩
   | int i=>cases (show y=.int i from hy);obtain⟨t',rfl⟩:=ry;exact⟨.list_int i t' p.isList O9m,.list_int i t' p.isList O9m⟩
   | str z=>cases (show y=.str z from hy);obtain⟨t',rfl⟩:=ry;exact⟨.list_str z t' p.isList O9m,.list_str z t' p.isList O9m⟩
   | tup es=>obtain⟨b,ws,rfl,q',r'⟩:=hy;cases ry;obtain⟨its',_,p',_⟩:=I.tuple q';exact⟨.list_tuple p.isList p' O9m,.list_tuple p.isList p' O9m⟩
   | lst es =>
     have hy':=hy;obtain⟨b,ws,rfl,q',r'⟩:=hy;cases ry;obtain⟨its',Z0,p',_⟩:=I.list q'
     have main:RcAt A s (.ref a) (.ref b) (eqD (.lst ds) (.lst es)):=by
      have l1:=r.length;have l2:=r'.length;have l3:=rv.length;have l4:=Z0.length;have e1:its.toArray.size=ds.length:=by simp<;>omega
      have e2:its'.toArray.size=es.length:=by simp<;>omega
      simp only[eqD];by_cases hl:ds.length=es.length
      . have:=RcAt.lists (A:=A) p.isList p'.isList O9m O9m (Ul I (A:=A.in1) (by show A.units+1+deps ds<cLine;omega) r r' rv Z0 (eqDs_ok I ds) fun d h=>M8 h);rw[e1]at this;rw[Kn ds es hl];exact this
      . rw[Kz hl];exact RcAt.lists_lengths p.isList p'.isList (by simpa[e1,e2]using hl) O9m
     refine⟨main,?_⟩;by_cases hab:a=b
     . subst hab;have e3:D.lst ds=D.lst es:=Rep.inj I hx' hy';rw[e3,Ik];exact .same _
     . exact .of_refs hab main
theorem eqDs_ok(I:Bk X Ac σ H s)(ds:List D):∀d∈ds,EqD X H s d:=by
 cases ds with
 | nil=>exact fun _ h=>nomatch h
 | cons d0 r =>
   intro d h;rcases qc6.mp h with e | h
   . exact e▸cE I d0
   . exact eqDs_ok I r d h
end
noncomputable def rEqD(K:W.Frag)(n:Nat):R2:=fun x y H Q=>∃d e,Rep K H x d/\Rep K H y e/\dep d<=n/\Q (.bl (eqD d e)) H
theorem gQ{n:Nat}(hu:X.A.units+n<cLine):Ps X (compareOp .Eq) (rEqD X.K n):=by
 intro Ac s σ H x y v u Q I rx ry h;obtain⟨d,e,hd,he,hn,q⟩:=h;exact(cE I d X.A x y v u e O9m hd he rx ry).1 X.prog X.w X.xe _ ⟨.bl (eqD d e),H,I,rfl,q⟩
end
end L2
namespace L2
open PySem PySem.Spec PyProof.Rows PySem.SeqAt
section
variable{X:Cx}
noncomputable def jN(K:W.Frag)(n:Nat):R2:=fun x y H Q=>∃d e,Rep K H x d/\Rep K H y e/\dep d<=n/\Q (.bl (!eqD d e)) H
theorem GP{n:Nat}(hu:X.A.units+n<cLine):Ps X (compareOp .NotEq) (jN X.K n):=by
 intro Ac s σ H x y v u Q I rx ry h;obtain⟨d,e,hd,he,hn,q⟩:=h;have fin:EP X Ac σ Q (.bool (!eqD d e)) s:=⟨.bl (!eqD d e),H,I,rfl,q⟩
 have go:∀{k:Bool},RcNeAt X.A s v u k->k=(!eqD d e)->wpAny (model X.prog X.w) X.A (compareOp .NotEq v u) (EP X Ac σ Q) X.xe s:=fun h1 h2=>by
  subst h2;exact h1 X.prog X.w X.xe _ fin
 cases d with
 | non =>
   cases (show x=.non from hd);cases (show v=Value.none from rx);cases e with
   | non=>cases (show y=.non from he);cases (show u=Value.none from ry);exact go .none_none rfl
   | bl b=>cases (show y=.bl b from he);cases (show u=Value.bool b from ry);exact go (.none_bool b) rfl
   | int i=>cases (show y=.int i from he);obtain⟨t,rfl⟩:=ry;exact go (.none_int i t) rfl
   | str z=>cases (show y=.str z from he);obtain⟨t,rfl⟩:=ry;exact go (.none_str z t) rfl
   | tup es=>obtain⟨a,vs,rfl,q,r⟩:=he;cases ry;obtain⟨its,_,p,_⟩:=I.tuple q;exact go (.none_tuple p O9m) rfl
   | lst es=>obtain⟨a,vs,rfl,q,r⟩:=he;cases ry;obtain⟨its,_,p,_⟩:=I.list q;exact go (.none_list p.isList O9m) rfl
 | bl c =>
   cases (show x=.bl c from hd);cases (show v=Value.bool c from rx);cases e with
   | non=>cases (show y=.non from he);cases (show u=Value.none from ry);exact go (.bool_none c) rfl
   | bl b=>cases (show y=.bl b from he);cases (show u=Value.bool b from ry);exact go (.bool_bool c b) rfl
   | int i=>cases (show y=.int i from he);obtain⟨t,rfl⟩:=ry;exact go (.bool_int c i t) rfl
   | str z=>cases (show y=.str z from he);obtain⟨t,rfl⟩:=ry;exact go (.bool_str c z t) rfl
   | tup es=>obtain⟨a,vs,rfl,q,r⟩:=he;cases ry;obtain⟨its,_,p,_⟩:=I.tuple q;exact go (.bool_tuple c p O9m) rfl
   | lst es=>obtain⟨a,vs,rfl,q,r⟩:=he;cases ry;obtain⟨its,_,p,_⟩:=I.list q;exact go (.bool_list c p.isList O9m) rfl
 | int c =>
   cases (show x=.int c from hd);obtain⟨t,rfl⟩:=rx;cases e with
   | non=>cases (show y=.non from he);cases (show u=Value.none from ry);exact go (.int_none c t) rfl
   | bl b=>cases (show y=.bl b from he);cases (show u=Value.bool b from ry);exact go (.int_bool c t b) rfl
   | int i=>cases (show y=.int i from he);obtain⟨t',rfl⟩:=ry;exact go (.int_int c t i t') rfl
   | str z=>cases (show y=.str z from he);obtain⟨t',rfl⟩:=ry;exact go (.int_str c t z t') rfl
   | tup es=>obtain⟨a,vs,rfl,q,r⟩:=he;cases ry;obtain⟨its,_,p,_⟩:=I.tuple q;exact go (.int_tuple c t p O9m) rfl
   | lst es=>obtain⟨a,vs,rfl,q,r⟩:=he;cases ry;obtain⟨its,_,p,_⟩:=I.list q;exact go (.int_list c t p.isList O9m) rfl
 | str c =>
   cases (show x=.str c from hd);obtain⟨t,rfl⟩:=rx;cases e with
   | non=>cases (show y=.non from he);cases (show u=Value.none from ry);exact go (.str_none c t) rfl
   | bl b=>cases (show y=.bl b from he);cases (show u=Value.bool b from ry);exact go (.str_bool c t b) rfl
   | int i=>cases (show y=.int i from he);obtain⟨t',rfl⟩:=ry;exact go (.str_int c t i t') rfl
   | str z=>cases (show y=.str z from he);obtain⟨t',rfl⟩:=ry;exact go (.str_str c t z t') rfl
   | tup es=>obtain⟨a,vs,rfl,q,r⟩:=he;cases ry;obtain⟨its,_,p,_⟩:=I.tuple q;exact go (.str_tuple c t p O9m) rfl
   | lst es=>obtain⟨a,vs,rfl,q,r⟩:=he;cases ry;obtain⟨its,_,p,_⟩:=I.list q;exact go (.str_list c t p.isList O9m) rfl
 | tup ds =>
   obtain⟨a,vs,rfl,q1,r⟩:=hd;cases rx;obtain⟨its,rv,p,_⟩:=I.tuple q1;have nA:X.A.units+1+deps ds<cLine:=by simp only[dep]at hn;omega
   cases e with
   | non=>cases (show y=.non from he);cases (show u=Value.none from ry);exact go (.tuple_none p O9m) rfl
   | bl b=>cases (show y=.bl b from he);cases (show u=Value.bool b from ry);exact go (.tuple_bool b p O9m) rfl
   | int i=>cases (show y=.int i from he);obtain⟨t',rfl⟩:=ry;exact go (.tuple_int i t' p O9m) rfl
   | str z=>cases (show y=.str z from he);obtain⟨t',rfl⟩:=ry;exact go (.tuple_str z t' p O9m) rfl
   | lst es=>obtain⟨b,ws,rfl,q',r'⟩:=he;cases ry;obtain⟨its',_,p',_⟩:=I.list q';exact go (.tuple_list p p'.isList O9m) rfl
   | tup es =>
     obtain⟨b,ws,rfl,q',r'⟩:=he;cases ry;obtain⟨its',Z0,p',_⟩:=I.tuple q';refine go (RcNeAt.tuples p p' O9m (Ul I (A:=X.A.in1) (by show X.A.units+1+deps ds<cLine;omega) r r' rv Z0 (eqDs_ok I ds) fun d h=>M8 h)) ?_;have l1:=r.length;have l2:=r'.length;have l3:=rv.length;have l4:=Z0.length;have e1:its.toArray.size=ds.length:=by simp<;>omega
     have e2:its'.toArray.size=es.length:=by simp<;>omega
     rw[e1,e2];simp only[eqD];by_cases hl:ds.length=es.length
     . rw[Kn ds es hl,←hl,qm5];simp
     . rw[Kz hl];have z:(ds.length==es.length)=false:=by simpa using hl
       rw[z,Bool.and_false]
 | lst ds =>
   obtain⟨a,vs,rfl,q1,r⟩:=hd;cases rx;obtain⟨its,rv,p,_⟩:=I.list q1;have nA:X.A.units+1+deps ds<cLine:=by simp only[dep]at hn;omega
   cases e with
   | non=>cases (show y=.non from he);cases (show u=Value.none from ry);exact go (.list_none p.isList O9m) rfl
   | bl b=>cases (show y=.bl b from he);cases (show u=Value.bool b from ry);exact go (.list_bool b p.isList O9m) rfl
   | int i=>cases (show y=.int i from he);obtain⟨t',rfl⟩:=ry;exact go (.list_int i t' p.isList O9m) rfl
   | str z=>cases (show y=.str z from he);obtain⟨t',rfl⟩:=ry;exact go (.list_str z t' p.isList O9m) rfl
   | tup es=>obtain⟨b,ws,rfl,q',r'⟩:=he;cases ry;obtain⟨its',_,p',_⟩:=I.tuple q';exact go (.list_tuple p.isList p' O9m) rfl
   | lst es =>
     obtain⟨b,ws,rfl,q',r'⟩:=he;cases ry;obtain⟨its',Z0,p',_⟩:=I.list q';have l1:=r.length;have l2:=r'.length;have l3:=rv.length;have l4:=Z0.length;have e1:its.toArray.size=ds.length:=by simp<;>omega
     have e2:its'.toArray.size=es.length:=by simp<;>omega
     by_cases hl:ds.length=es.length
     . refine go (RcNeAt.lists p.isList p'.isList O9m O9m (Ul I (A:=X.A.in1) (by show X.A.units+1+deps ds<cLine;omega) r r' rv Z0 (eqDs_ok I ds) fun d h=>M8 h)) ?_;rw[e1];simp only[eqD];rw[Kn ds es hl]
     . refine go (RcNeAt.lists_lengths p.isList p'.isList (by simpa[e1,e2]using hl) O9m) ?_;simp only[eqD];rw[Kz hl];rfl
noncomputable def Yt(n:String):D->Bool
 | .non=>false
 | .bl _=>n=="int" || n=="bool"
 | .int _=>n=="int"
 | .str _=>n=="str"
 | .tup _=>n=="tuple"
 | .lst _=>n=="list"
noncomputable def oJ:D->String
 | .non=>"NoneType"
 | .bl _=>"bool"
 | .int _=>"int"
 | .str _=>"str"
 | .tup _=>"tuple"
 | .lst _=>"list"
theorem GY{K:W.Frag}{n:String}{d:D}(hn:n="int"\/n="bool"\/n="str"\/n="tuple"\/n="list"\/n="dict"):PySem.W.kitOne K (.type (oJ d)) (.type n)=some (Yt n d):=by
 rcases hn with rfl | rfl | rfl | rfl | rfl | rfl<;>cases d<;>(unfold PySem.W.kitOne PySem.W.kitCls PySem.W.subIn oJ Yt;first | rfl | decide +kernel)
theorem Xr:Fd X (.builtin "isinstance") (fun xs H Q=>∃x n d,xs=[x,.ty n]/\(n="int"\/n="bool"\/n="str"\/n="tuple"\/n="list"\/n="dict")/\Rep X.K H x d/\Q (.bl (Yt n d)) H):=by
 intro Ac s σ H xs us Q I r h;obtain⟨x,n,d,rfl,hn,hx,q⟩:=h;obtain⟨u,v,rfl,rx,rt⟩:=Zo r;cases rt;have k:=GY (K:=X.K) (d:=d) hn;have fin:∀tk,EP X Ac σ Q (.bool (Yt n d)) { s with toks:=tk }:=fun tk=>⟨.bl (Yt n d),H,I.tok tk,rfl,q⟩
 cases d with
 | non=>cases (show x=.non from hx);cases (show u=Value.none from rx);exact qk0 PySem.W.kitx_none I.kIn True.intro k (fun z=>nomatch z) fin
 | bl b=>cases (show x=.bl b from hx);cases (show u=Value.bool b from rx);exact qk0 PySem.W.kitx_bool I.kIn True.intro k (fun z=>nomatch z) fin
 | int b=>cases (show x=.int b from hx);obtain⟨t,rfl⟩:=rx;exact qk0 PySem.W.kitx_int I.kIn True.intro k (fun z=>nomatch z) fin
 | str b=>cases (show x=.str b from hx);obtain⟨t,rfl⟩:=rx;exact qk0 PySem.W.kitx_str I.kIn True.intro k (fun z=>nomatch z) fin
 | tup ds =>
   obtain⟨a,vs,rfl,hq,_⟩:=hx;cases rx;obtain⟨its,_,⟨o,e,c,_⟩,_⟩:=I.tuple hq;exact qk0 PySem.W.kitx_tuple I.kIn ⟨o,e,c⟩ k (fun z=>nomatch z) fin
 | lst ds =>
   obtain⟨a,vs,rfl,hq,_⟩:=hx;cases rx;obtain⟨its,_,⟨o,_,e,c,_⟩,_⟩:=I.list hq;exact qk0 PySem.W.kitx_list I.kIn ⟨o,e,c⟩ k (fun z=>nomatch z) fin
noncomputable def BI(K:W.Frag):R2:=fun x y H Q=>∃l b xs zs,x=.ref l/\y=.ref b/\SqL K H l xs/\SqL K H b zs/\xs.length+zs.length<=sizeLine/\∀p,H p=none->Q (.ref p) (upd H p (.lst (xs++zs)))
theorem bM:Ps X (binaryOp .Add) (BI X.K):=by
 intro Ac s σ H x y v u Q I rx ry h;obtain⟨l,b,xs,zs,rfl,rfl,hl,hb,hz,q⟩:=h;cases rx;cases ry;obtain⟨its,r1,p1,_⟩:=I.list hl;obtain⟨its2,r2,p2,_⟩:=I.list hb;obtain⟨⟨cls,dd,data,sl⟩,n,ho,hc,hdd,hd⟩:=id p1;obtain⟨⟨tF,dd2,data2,sl2⟩,n2,ho2,hc2,hdd2,hd2⟩:=id p2;simp only at hc hd hc2 hd2;subst hc hd hc2 hd2
 refine concat_meets ⟨_,ho,rfl⟩ ⟨_,ho2,rfl⟩ noFill_list_add seq_list_add PySem.F.slot_list_add PySem.F.entry_list_add (PySem.F.args_list_add_2 _ _)
  (list_addW l b its.toArray its2.toArray n n2 dd dd2 sl sl2 (by rw[qb4,qb4,←r1.length,←r2.length];exact hz)) ⟨ho,ho2,?_⟩
 rw[show its.toArray++its2.toArray=(its++its2).toArray by simp];exact⟨.ref s.heap.objs.size,_,I.lnew (t':=s.toks) (r1.append r2) (by rw[qf3];exact hz),rfl,q _ I.fresh⟩
theorem aL(hc:X.calm=true):Fd X (.builtin "all") (fun xs H Q=>∃(p:Addr) (bs:List Bool),xs=[.ref p]/\SqL X.K H p (bs.map V.bl)/\Q (.bl (bs.all id)) H):=by
 intro Ac s σ H xs us Q I r h;obtain⟨p,bs,rfl,hq,q⟩:=h;obtain⟨u,rfl,ru⟩:=S8 r;cases ru;obtain⟨its,rv,pl,hz⟩:=I.list hq;have hh:X.A.handled=none:=I.ok.hd hc
 have rel:∀(i:Nat) (v:Value),its.toArray[i]?=some v->∃b,bs[i]?=some b/\v=.bool b:=fun i v e=>by
  have e':its[i]?=some v:=by simpa using e
  have hlt:i<its.length:=(qb2.mp e').1;have l1:=rv.length;rw[qa3]at l1;have hb:bs[i]?=some (bs[i]'(O9m)):=by simp<;>omega
  obtain⟨u,hu,ru⟩:=rv.get (i:=i) (x:=V.bl (bs[i]'(O9m))) (by rw[qc1,hb];rfl);rw[e']at hu;cases hu;exact⟨_,hb,ru⟩
 refine call_all_walk (qn5 pl.isList ?_);refine⟨s.heap.objs.size,[s.heap.objs.size,p],[s.heap.objs.size],its.toArray.size,_,_,fun i=>(bs[i]?).getD true,rfl,Walks.list (show X.A.in1.handled=none from hh) s.heap.objs.size p ?_ its.toArray,⟨⟨_,qb5 _ rfl,rfl,rfl⟩,?_⟩,?_,fun h' tk k=>?_⟩
 . obtain⟨o,_,ho,_⟩:=pl;exact qc4 (qa9 ho)
 . exact pl.isList.at fun o e=>qa2 _ e
 . intro i v s' Q' E' hv hQ;obtain⟨b,hb,rfl⟩:=rel i v hv;dsimp only at hQ;rw[hb]at hQ;exact qi2 hQ
 . have e:(List.range its.toArray.size).all (fun i=>(bs[i]?).getD true)=bs.all id:=by
    have l1:=rv.length;rw[qa3]at l1;rw[qb4,←l1];rw[qk2,qi4,qi4];constructor
    . intro hx b hb;obtain⟨i,hi⟩:=qo1 hb;have:=hx i (qj2.mpr (qb2.mp hi).1);rw[hi]at this;exact this
    . intro hx i hi;have hlt:=qj2.mp hi;have hb:bs[i]?=some bs[i]:=by simp
      rw[hb];exact hx _ (qj4 _)
   rw[e];have I1:Bk X Ac σ H { s with heap:=h',toks:=tk }:=I.kept (fun b o e=>k b o (by simp;exact qc4 (qa9 e)) (qa2 _ e));exact⟨.bl (bs.all id),H,I1,rfl,q⟩
end
structure Has(P:Program)(w:World)(K:W.Frag)(mg:Str->Option Value)(base:Heap)(x:Str)(ps:List Str)(k:Nat)(sp:Sp):Prop where
 ex:∃(f:Addr) (fd:FuncData),mg x=some (.ref f)/\W.keepIn K (.ref f)=true/\Ir K fd ps []/\By P w K mg base Ex k f fd ps sp
section
variable{X:Cx}{x:Str}{ps:List Str}{j k:Nat}{sp:Sp}{p pos:Pos}{e:Expr}{es:List Expr}{t:TA}
theorem Aq(h:Has X.prog X.w X.K X.mg X.base x ps j sp)(hr:Et k X.A)(ha:PA X (e::es) t)(hg:Gl X x:=by rfl)(hk:j<=k:=by decide)(hdb:(x==("__debug__":Str))=false:=by decide)
 (he:starEach (e::es) X.env=(false,eval e X.env)::starEach es X.env:=by rfl) (hpl:(backTo pos (starEach es X.env)).any (·.1)=false:=by rfl):PE X (.Call (.Name x p) (e::es) [] pos) (tCall sp [] E0 t):=by
 obtain⟨f,fd,h1,h2,h3,h4⟩:=h.ex;exact DU h4 (hr.mono hk) hg h1 h2 h3 .nil Wt ha hdb he hpl
end
theorem boot_intT:bootBuiltins "int"=some (.type "int"):=by decide +kernel
theorem Rx:bootBuiltins "bool"=some (.type "bool"):=by decide +kernel
theorem O9:bootBuiltins "tuple"=some (.type "tuple"):=by decide +kernel
theorem Cv:bootBuiltins "list"=some (.type "list"):=by decide +kernel
theorem T4:bootBuiltins "min"=some (.builtin "min"):=by decide +kernel
theorem T5:bootBuiltins "all"=some (.builtin "all"):=by decide +kernel
theorem Cd:bootBuiltins "isinstance"=some (.builtin "isinstance"):=by decide +kernel
end L2
namespace L2
open PySem PySem.Spec PyProof.Rows
section
variable{X:Cx}{K:W.Frag}{tg l:Expr}{tl:TE}{n:Nat}
theorem Tr(hK:X.K=K:=by rfl):Ps X (binaryOp .Add) (BI K):=by subst hK;exact bM
theorem Mz(hK:X.K=K:=by rfl):oB X (jM K):=by subst hK;exact dI
theorem Av(hK:X.K=K:=by rfl):kZ X (jO K):=by subst hK;exact eK
theorem Be(hK:X.K=K:=by rfl):kZ X (JN K):=by subst hK;exact HC
theorem Az(hK:X.K=K:=by rfl):Fd X (.builtin "len") (fun xs H Q=>∃p ys,xs=[.ref p]/\(SqL K H p ys\/Du K H p ys)/\Q (.int ys.length) H):=by subst hK;exact Vz
theorem C9(hK:X.K=K:=by rfl):Fd X (.type "list") (fun xs H Q=>∃p ys,xs=[.ref p]/\(SqL K H p ys\/Du K H p ys)/\∀l,H l=none->Q (.ref l) (upd H l (.lst ys))):=by subst hK;exact Vy
theorem Ki(hK:X.K=K:=by rfl):Fd X (.type "tuple") (fun xs H Q=>∃p ys,xs=[.ref p]/\((SqL K H p ys/\∀l,H l=none->Q (.ref l) (upd H l (.tup ys)))\/(Du K H p ys/\Q (.ref p) H))):=by subst hK;exact Sw
theorem C6(hK:X.K=K:=by rfl):Fd X (.builtin "isinstance") (fun xs H Q=>∃x n d,xs=[x,.ty n]/\(n="int"\/n="bool"\/n="str"\/n="tuple"\/n="list"\/n="dict")/\Rep K H x d/\Q (.bl (Yt n d)) H):=by subst hK;exact Xr
theorem Rf(hc:X.calm=true)(hK:X.K=K:=by rfl):Fd X (.builtin "all") (fun xs H Q=>∃(p:Addr) (bs:List Bool),xs=[.ref p]/\SqL K H p (bs.map V.bl)/\Q (.bl (bs.all id)) H):=by subst hK;exact aL hc
theorem EH(hu:X.A.units+n<cLine)(hK:X.K=K:=by rfl):Ps X (compareOp .Eq) (rEqD K n):=by subst hK;exact gQ hu
theorem a8(hu:X.A.units+n<cLine)(hK:X.K=K:=by rfl):Ps X (compareOp .NotEq) (jN K n):=by subst hK;exact GP hu
theorem Ct(hl:PE X l tl)(hK:X.K=K:=by rfl):PI X tg l (FO K tl):=by subst hK;exact DQ hl
theorem Z9(hl:PE X l tl)(hK:X.K=K:=by rfl):PI X tg l (kC K tl):=by subst hK;exact gM hl
variable{o e:Expr}{es:List Expr}{to:TE}{t:TA}{name:Str}{apos cpos:Pos}{T id:String}{r:V->List V->Hp->VK->Prop}
theorem Hq(pa:PlainAttrs T)(slot:Slot T name id)(hty:typeOf (.builtin id)=pure (.type "method_descriptor"))(hm:QD X id r)(ho:PE X o to)(ha:PA X (e::es) t)(hK:X.K=K:=by rfl)
 (hbase:attributeBase o name X.env (eval o X.env)=eval o X.env:=by rfl)
 (hfew:((backTo cpos (starEach (e::es) X.env)).all (fun x=>!x.1)&&(backToKw cpos (keywordEach [] X.env)).all (fun x=>x.1.isSome)
   && decide ((e::es).length+([]:List Keyword).length+(if ([]:List Keyword).isEmpty then 0 else 1)<30))=true:=by rfl)
 (hline:(apos.endLine==cpos.line)=true:=by rfl) (hs:starEach (e::es) X.env=(false,eval e X.env)::starEach es X.env:=by rfl) (hplain:(backTo cpos (starEach es X.env)).any (·.1)=false:=by rfl) :
 PE X (.Call (.Attribute o name apos) (e::es) [] cpos) (oM K T r to t):=by subst hK;exact JP pa slot hty hm ho ha hbase hfew hline hs hplain
theorem Fs{es:List Expr}{k:Nat}{t:fZ}{n:Nat}{pos:Pos}(hc:X.calm=true)(h:kX X es t)(hK:X.K=K:=by rfl)
 (hn:(assignEach es X.env).length=n:=by rfl) (hst:(assignEach es X.env).findIdx? (·.1)=none:=by rfl):PG X (.Tuple es k pos) (kL K n t):=by subst hK;exact GN hc h hn hst
end
end L2
namespace Hb
section
variable{uE:Int}
end
section
variable{xs:KY}
end
end Hb
namespace Hb
open PySem L2
noncomputable def Kv(ns:List Int)(k:Int):Int:=ns.getD k.toNat 0
noncomputable abbrev TI(K:W.Frag)(H:Hp)(v:V)(ns:List Int):Prop:=Rep K H v (tI ns)
section
variable{K:W.Frag}{H H':Hp}
theorem cK(xs:List V)(k:Nat):Md xs (some (k:Int)) none=xs.drop k:=by
 unfold Md;rw[HT.sIx_none,HT.sIx_nat];by_cases h:k<=xs.length
 . rw[Nat.min_eq_left h,qk6 (by rw[qi3];omega)]
 . rw[Nat.min_eq_right (by omega),List.drop_length,List.drop_of_length_le (by omega)];simp
noncomputable def SameX(B:Addr)(H H':Hp):Prop:=∀b o,b≠B->H b=some o->H' b=some o
theorem SameX.refl(B:Addr)(H:Hp):SameX B H H:=fun _ _ _ h=>h
theorem SameX.trans{B:Addr}{H H1 H2:Hp}(a:SameX B H H1)(b:SameX B H1 H2):SameX B H H2:=fun c o n h=>b c o n (a c o n h)
theorem SameX.of{B:Addr}{H H1:Hp}(a:Ao H H1):SameX B H H1:=fun c o _ h=>a c o h
theorem SameX.upd{B:Addr}{H H1:Hp}{o:HO}(a:SameX B H H1):SameX B H (upd H1 B o):=fun c u n h=>by rw[As n];exact a c u n h
theorem SameX.same{B:Addr}{H0 H H1:Hp}(a:SameX B H H1)(s:Ao H0 H)(h:H0 B=none):Ao H0 H1:=fun b o e=>a b o (Bb e h) (s b o e)
theorem Ol:∀ns:List Int,deps (Yl ns)=0
 | []=>rfl
 | n::ns=>by show max (dep (.int n)) (deps (Yl ns))=0;rw[Ol ns];rfl
theorem Yu{c A B:Prop}[Decidable c](hc:c)(h:A):if c then A else B:=by rw[if_pos hc];exact h
theorem M1{c A B:Prop}[Decidable c](hc:¬c)(h:B):if c then A else B:=by rw[if_neg hc];exact h
theorem RH{a b:Int}(h:a=b):decide (V.int a=V.int b)=true:=by simp[h]
theorem Da{g:TG}{te:TE}{D:Addr}{Q:Hp->Prop}{τ:St}{H:Hp}{K:W.Frag}{a:Addr}{xs:List V}(Pv:Nat->List V->St->Hp->Prop)(h0:Pv 0 [] τ H)(hl:∀i ys τ H,i<=xs.length->Pv i ys τ H->SqL K H a xs)
 (hs:∀i x ys τ H,xs[i]?=some x->Pv i ys τ H->g x τ H fun τ2 H2=>te τ2 H2 fun y H4=>H4 D=some (.lst ys)/\ys.length<sizeLine/\Pv (i+1) (ys++[y]) τ2 (upd H4 D (.lst (ys++[y]))))
 (hd:∀ys τ H,Pv xs.length ys τ H->Q H):Ng (IF K a) g l0 te D Q τ H:=AG Pv h0 hl (fun i x ys τ H e p=>hs i x ys τ H e p) hd
theorem AF{g:TG}{te:TE}{D:Addr}{Q:Hp->Prop}{τ:St}{H:Hp}{K:W.Frag}{a:Addr}{xs:List V}(Pv:Nat->List V->St->Hp->Prop)(h0:Pv 0 [] τ H)(hl:∀i ys τ H,i<=xs.length->Pv i ys τ H->Du K H a xs)
 (hs:∀i x ys τ H,xs[i]?=some x->Pv i ys τ H->g x τ H fun τ2 H2=>te τ2 H2 fun y H4=>H4 D=some (.lst ys)/\ys.length<sizeLine/\Pv (i+1) (ys++[y]) τ2 (upd H4 D (.lst (ys++[y]))))
 (hd:∀ys τ H,Pv xs.length ys τ H->Q H):Ng (iF K a) g l0 te D Q τ H:=CN Pv h0 hl (fun i x ys τ H e p=>hs i x ys τ H e p) hd
theorem Ku{g:TG}{te:TE}{D:Addr}{Q:Hp->Prop}{τ:St}{H:Hp}{lo:Int}{n:Nat}(Pv:Nat->List V->St->Hp->Prop)(h0:Pv 0 [] τ H)
 (hs:∀i ys τ H,i<n->Pv i ys τ H->g (.int (lo+i)) τ H fun τ2 H2=>te τ2 H2 fun y H4=>H4 D=some (.lst ys)/\ys.length<sizeLine/\Pv (i+1) (ys++[y]) τ2 (upd H4 D (.lst (ys++[y]))))
 (hd:∀ys τ H,Pv n ys τ H->Q H):Ng (EY lo n) g l0 te D Q τ H:=Za Pv h0 (fun i ys τ H e p=>hs i ys τ H e p) hd
theorem Ap{t u:TS}{D:Ends}{σ:St}{H:Hp}(P:St->Hp->Prop)(hu:∀σ' H',P σ' H'->u D σ' H')(h:∀{N:St->Hp->Prop},(∀σ' H',P σ' H'->N σ' H')->t { D with nx:=N } σ H):bC t u D σ H:=h hu
theorem qp8{t u:TS}{D:Ends}{σ:St}{H:Hp}(P:St->Hp->Prop)(h:∀{N:St->Hp->Prop},(∀σ' H',P σ' H'->N σ' H')->t { D with nx:=N } σ H)(hu:∀σ' H',P σ' H'->u D σ' H'):bC t u D σ H:=h hu
theorem Fe{t u:TS}{D:Ends}{σ:St}{H:Hp}(P:St->Hp->Prop)(hu:∀σ' H',P σ' H'->u D σ' H')(h:(∀σ' H',P σ' H'->u D σ' H')->bC t u D σ H):bC t u D σ H:=h hu
theorem small{n:Nat}(h:n<=1000000):n<sizeLine:=qa7 h (by decide)
theorem Cp{n:Nat}(h:n<=1000000):n<=sizeLine:=qc2 (small h)
end
section
variable(K:W.Frag)
noncomputable def X5:Sp:=fun vs H Q _=>∃(a:Addr) (ns:List Int) (k:Int),vs=[.ref a,.int k]/\SqL K H a (ns.map V.int)/\0<=k/\ns.length<=63/\Q (.int (Kv ns k)) H
end
noncomputable def Hj(d:L2.D):Bool:=Yt "int" d&&!Yt "bool" d
section
variable(K:W.Frag)
noncomputable def Jx:Sp:=fun vs H Q _=>∃(x:V) (d:L2.D),vs=[x]/\Rep K H x d/\Q (.bl (Hj d)) H
noncomputable abbrev Qc:Sp:=Jx K
noncomputable abbrev Iu:Sp:=X5 K
end
section
variable{K:W.Frag}{H:Hp}
end
end Hb
namespace L2
open PySem PySem.Spec PyProof.Rows
section
variable{X:Cx}{sc:Scope}{N':List Str}{cap:List (Option Nat)}{xc:Str}{Ac:Bj}{σ:St}{H:Hp}{s:Shared}{C c:Addr}{fp:List Addr}
end
section
variable{X:Cx}{sc:Scope}{N':List Str}{cap:List (Option Nat)}{xc:Str}{tg elt iter:Expr}{ifs:List Expr}{pos:Pos}{g:TG}{tc:TT}{te:TE}
end
section
variable{fs:List Addr}{H H':Hp}{h B h' h2:Heap}
end
noncomputable abbrev XJ:=Value->OAddr->St->Hp->Prop
section
variable{X:Cx}{Ac:Bj}{σ:St}{H H':Hp}{s s':Shared}{e:Addr}{cls a0:Value}{dx:OAddr}
end
section
variable{P:Program}{w:World}{K:W.Frag}{mg:Str->Option Value}{base:Heap}{N:List Str}{qual:Str}{scope:Scope}{f:Addr}{cd:Value}{A:Around}{outer:List Env}{s:Shared}{H:Hp}{E:XK}
end
section
variable{X:Cx}{J:XJ}{x:Str}{ps:List Str}{j k:Nat}{sp:Sp}{p pos:Pos}{e:Expr}{es:List Expr}{t:TA}
end
end L2
namespace L2
open PySem PySem.Spec PyProof.Rows PySem.W
section
variable{X:Cx}{Ac pn:Bj}{σ:St}{H:Hp}{s:Shared}{J:XJ}
end
section
variable{X:Cx}{th:Ends->XJ}
end
section
variable{prog:Program}{w:World}{A:Around}{E:Value->Shared->Prop}{h:Heap}{g:Array GenState}{d:Drawn}{t:Nat}{os:OsState}{a C:Addr}{o:Obj}{K:Frag}
end
section
variable{X:Cx}{K:Frag}
end
end L2
namespace L2
open PySem PySem.Spec PyProof.Rows
noncomputable def IQ(K:W.Frag)(a:Addr):It :=
 ⟨fun i H=>∃xs x,SqL K H a xs/\xs[i]?=some x,fun i H x H'=>∃p v,H p=none/\x=.ref p/\H'=upd H p (.tup [.int i,v])/\∀xs,SqL K H a xs->xs[i]?=some v,fun i H=>∃xs,SqL K H a xs/\xs.length<=i⟩
theorem i9{P:Program}{w:World}{K:W.Frag}{es:List Expr}{x1:Nat}{tpos:Pos}(a e it:Addr)(hne:e≠it):S3 P w K (.Tuple es x1 tpos) (IQ K a) [e,it] e (fun i h=>(∃old,IsEnum h e it (i:Int) old)/\h.IsListIter it a i) where
 mem:=by simp
 obj:=fun i h st b hb=>by
  obtain⟨⟨old,h1⟩,o,h2,c,d⟩:=st;rcases qc6.mp hb with rfl | hb
  . exact⟨_,h1,fun v z=>by cases (show Data.fields _=Data.cell v from z)⟩
  . have z:b=it:=by simpa using hb
    subst z;exact⟨o,h2,fun v z=>by rw[d]at z;cases z⟩
 keep:=fun i h h' st k=>by
  obtain⟨⟨old,h1⟩,h2⟩:=st;exact⟨⟨old,k e (by simp) _ h1⟩,h2.at fun o z=>k it (by simp) o z⟩
 item:=by
  intro X hP hw hK hc i Ac s σ H E I hf st hg;subst hP hw hK;obtain⟨⟨old,h1⟩,h2⟩:=st;obtain⟨xs,x,hq,hx⟩:=hg;obtain⟨its,rv,p,hz⟩:=I.list hq;obtain⟨u,hu,ru⟩:=rv.get hx;have fe:=hf e (by simp);have fi:=hf it (by simp);have oX:e<s.heap.objs.size:=qa9 h1;have hfresh:H s.heap.objs.size=none:=I.hok.fresh (qa0 _);refine wpAny_pyNext_enum_item h1 h2 p.isList (x:=u) (by simpa using hu) hne fun h' hout nI htup hsz hk=>?_;refine⟨_,rfl,wpAny_letOwnedTupleGo_enum hout fun h3 hen Od=>?_⟩
  replace Od:Heap.SameBut e h' h3:=Od
  have kk:∀b o,b≠e->b≠it->s.heap.get? b=some o->h3.get? b=some o:=fun b o n1 n2 z=>(Od.2 b n1).trans (hk b o n1 n2 z);have kF:h3.get? s.heap.objs.size=some { cls:=.type "tuple",data:=.seq #[.int i s.toks,u] }:=(Od.2 _ (qm4 oX)).trans htup;have nJ:h3.IsListIter it a (i+1):=nI.at fun o z=>(Od.2 it hne.symm).trans z;have AR:∀b,b ∉ [e,it]->b≠e/\b≠it:=fun b hb=>by simpa using hb
  have t9:∀b v,H b=some v->b≠e/\b≠it:=fun b v z=>⟨Bb z fe.1,Bb z fi.1⟩
  have W3:∀b v,H b=some v->b≠s.heap.objs.size:=fun b v z=>Bb z hfresh;refine⟨.ref s.heap.objs.size,upd H s.heap.objs.size (.tup [.int i,x]),?_,rfl,⟨s.heap.objs.size,x,hfresh,rfl,rfl,fun ys hy=>by rw[I.list_inj hy hq];exact hx⟩,⟨⟨_,hen⟩,nJ⟩,fun b hb=>?_⟩
  . refine Bk.step (s:=s) (h':=h3) (t':=s.toks+1) (H':=upd H s.heap.objs.size (.tup [.int i,x])) I (g':=s.gens) (d':=s.drawn) (ch:=[e,it]) (fun b hb=>?_) (fun b o _ _ hb z _=>kk b o (AR b hb).1 (AR b hb).2 z) (fun b o _ _ hb z _=>⟨o.slots,kk b o (AR b hb).1 (AR b hb).2 z⟩) (fun b o hb z n=>?_) (fun b o hb z=>⟨o,kk b o (AR b hb).1 (AR b hb).2 z⟩)
     (fun b ys z=>by rw[As (W3 b _ z)];exact z) (fun b o v z=>by rw[As (W3 b _ z)];exact z) (fun b ps z=>⟨#[],by rw[As (W3 b _ z),z];simp⟩) (fun m hm=>?_) (fun b v z=>?_) I.bare
    . rcases qc6.mp hb with rfl | hb
      . exact⟨fe.2.2.2.1,fe.2.1,fe.2.2.2.2.1,fe.2.2.2.2.2⟩
      . have z:b=it:=by simpa using hb
        subst z;exact⟨fi.2.2.2.1,fi.2.1,fi.2.2.2.2.1,fi.2.2.2.2.2⟩
    . rw[As (qc4 (qa9 z))];exact n
    . obtain⟨o,es',ep,ho,r⟩:=hm;exact⟨o,es',ep,kk _ o fe.2.1.symm fi.2.1.symm ho,r⟩
    . by_cases hb:b=s.heap.objs.size
      . subst hb;rw[Ae]at z;cases z;exact⟨(by show(2:Nat)<=sizeLine;decide),[.int i s.toks,u],.cons ⟨_,rfl⟩ (.cons ru .nil),⟨_,kF,rfl,rfl,_,rfl⟩⟩
      . rw[As hb]at z;refine(I.hok b v z).stay (fun c y hc' q=>?_) (fun c q=>by rw[As (W3 c _ q)];exact q) fun c ys q=>by rw[As (W3 c _ q)];exact q
        rcases hc' with rfl | hc'
        . exact kk _ _ (t9 _ _ z).1 (t9 _ _ z).2 q
        . exact kk _ _ (t9 _ _ hc').1 (t9 _ _ hc').2 q
  . have lb:b<s.heap.objs.size:=by
     rcases qc6.mp hb with rfl | hb
     . exact oX
     . have z:b=it:=by simpa using hb
       subst z;obtain⟨o,z,_⟩:=h2;exact qa9 z
    rw[As (qc4 lb)];exact(hf b hb).1
 done:=by
  intro X hP hw hK hc i Ac s σ H E I hf st hg;subst hP hw hK;obtain⟨⟨old,h1⟩,h2⟩:=st;obtain⟨xs,hq,hx⟩:=hg;obtain⟨its,rv,p,hz⟩:=I.list hq;obtain⟨f0,f1,f2,f3,f4,f5⟩:=hf it (by simp);have hl:=rv.length;exact wpAny_pyNext_enum_end (I.ok.hd hc) h1 h2 p.isList (by simp;omega) fun h' eb=>⟨rfl,I.turned (t':=s.toks) (fun b o hb z=>eb b o hb z) f0 f1 f3 f4 f5⟩
 self:=fun _ _ _ _ _ st h=>by
  obtain⟨⟨old,h1⟩,h2⟩:=st;exact wpAny_pyIter_enum h1 h
noncomputable def KD(K:W.Frag)(ta:TA):TI:=fun σ H R=>ta σ H fun vs H1=>∃a,vs=[.ref a]/\(∃xs,SqL K H1 a xs)/\R (IQ K a) H1
theorem Pq:bootBuiltins "enumerate"=some (.type "enumerate"):=by decide +kernel
theorem Uv{X:Cx}{K:W.Frag}{es:List Expr}{x1:Nat}{tpos:Pos}{a:Expr}{ta:TA}{p pos:Pos}(hg:Gl X "enumerate")(hm:X.mg "enumerate"=none)(ha:PA X [a] ta)(hK:X.K=K:=by rfl)(hs:starEach [a] X.env=[(false,eval a X.env)]:=by rfl):PI X (.Tuple es x1 tpos) (.Call (.Name "enumerate" p) [a] [] pos) (KD K ta):=by
 subst hK;intro Ac s σ H R I h;refine Call_ (Jd I hg hm Pq (qf0 (Dn (ha pos Ac s σ H _ I h) fun us s1 _z=>?_) hs rfl));obtain⟨vs,H1,I1,r1,q1⟩:=_z;obtain⟨l,e,⟨xs,hq⟩,q⟩:=q1;subst e;cases r1 with
 | cons r rr =>
   cases rr;cases r;obtain⟨its,rv,pl,hz⟩:=I1.list hq;refine call_enumerate_list pl.isList fun h' hen hit hsz hk=>?_;refine wpAny_pyIter_enum hen ⟨s1.heap.objs.size+1,[s1.heap.objs.size+1,s1.heap.objs.size],_,_,H1,rfl,I1.kept (t':=s1.toks) hk,i9 l _ _ (Nat.succ_ne_self _),⟨⟨_,hen⟩,hit⟩,fun b hb=>?_,q⟩
   have lb:s1.heap.objs.size<=b:=by
    rcases qc6.mp hb with rfl | hb
    . exact qk7 _
    . have z:b=s1.heap.objs.size:=by simpa using hb
      rw[z];exact qa0 _
   exact I1.fpOk lb (I1.hok.fresh lb)
section
variable{g:TG}{tc:TT}{te:TE}{D:Addr}{Q:Hp->Prop}{τ:St}{H:Hp}
theorem aH{K:W.Frag}{a:Addr}{xs:List V}(Pv:Nat->List V->St->Hp->Prop)(h0:Pv 0 [] τ H)(hl:∀i ys τ H,i<=xs.length->Pv i ys τ H->SqL K H a xs)
 (hs:∀i x ys τ H p,xs[i]?=some x->Pv i ys τ H->H p=none->g (.ref p) τ (upd H p (.tup [.int i,x])) fun τ2 H2=>tc τ2 H2 fun b H3=>if b=true then te τ2 H3 fun y H4=>H4 D=some (.lst ys)/\ys.length<sizeLine/\Pv (i+1) (ys++[y]) τ2 (upd H4 D (.lst (ys++[y]))) else Pv (i+1) ys τ2 H3)
 (hd:∀ys τ H,Pv xs.length ys τ H->Q H):Ng (IQ K a) g tc te D Q τ H:=by
 refine⟨fun i m ys τ H=>m=xs.length-i/\i<=xs.length/\Pv i ys τ H,⟨xs.length,by simp,qa5 _,h0⟩,?_⟩;rintro i m ys τ H ⟨rfl,hi,pp⟩;have q:=hl i ys τ H hi pp;by_cases hlt:i<xs.length
 . refine .inr ⟨⟨xs,xs[i],q,by simp[hlt]⟩,Pv (i+1),fun ys' τ' H' p'=>⟨xs.length-(i+1),O9m,rfl,hlt,p'⟩,fun x H' y=>?_⟩;obtain⟨p,v,hp,rfl,rfl,y⟩:=y;exact hs i v ys τ _ p (y xs q) pp hp
 . have e:i=xs.length:=O9m
   subst e;exact .inl ⟨⟨xs,q,qa0 _⟩,hd ys τ H pp⟩
theorem Xe{K:W.Frag}{a:Addr}{xs:List V}{g:TG}{tb:TS}{D:Ends}{σ:St}{H:Hp}(Pv:Nat->St->Hp->Prop)(h0:Pv 0 σ H)(hl:∀i σ H,i<=xs.length->Pv i σ H->SqL K H a xs)
 (hs:∀i x σ H p,xs[i]?=some x->Pv i σ H->H p=none->g (.ref p) σ (upd H p (.tup [.int i,x])) fun σ2 H2=>tb { D with nx:=Pv (i+1),ct:=Pv (i+1),bk:=D.nx } σ2 H2) (hd:∀σ H,Pv xs.length σ H->D.nx σ H) :
 ∃W:Nat->Nat->St->Hp->Prop,(∃m,W 0 m σ H)/\∀i m σ H,W i m σ H →
   ((IQ K a).stop i H/\D.nx σ H)\/((IQ K a).go i H/\∃N:St->Hp->Prop,(∀σ' H',N σ' H'->∃m',m'<m/\W (i+1) m' σ' H')/\∀x H',(IQ K a).yld i H x H'->g x σ H' fun σ2 H2=>tb { D with nx:=N,ct:=N,bk:=D.nx } σ2 H2):=by
 refine⟨fun i m σ H=>m=xs.length-i/\i<=xs.length/\Pv i σ H,⟨xs.length,by simp,qa5 _,h0⟩,?_⟩;rintro i m σ H ⟨rfl,hi,pp⟩;have q:=hl i σ H hi pp;by_cases hlt:i<xs.length
 . refine .inr ⟨⟨xs,xs[i],q,by simp[hlt]⟩,Pv (i+1),fun σ' H' p'=>⟨xs.length-(i+1),O9m,rfl,hlt,p'⟩,fun x H' y=>?_⟩;obtain⟨p,v,hp,rfl,rfl,y⟩:=y;exact hs i v σ _ p (y xs q) pp hp
 . have e:i=xs.length:=O9m
   subst e;exact .inl ⟨⟨xs,q,qa0 _⟩,hd σ H pp⟩
end
theorem Bk.turnedN{X:Cx}{Ac:Bj}{σ:St}{H:Hp}{s:Shared}{h':Heap}{t':Nat}{fp:List Addr}(I:Bk X Ac σ H s)(k:∀b o,b ∉ fp->s.heap.get? b=some o->h'.get? b=some o)(hf:∀b∈fp,Lg X Ac H b) :
 Bk X Ac σ H { s with heap:=h',toks:=t' }:=by
 have t9:∀c o,H c=some o->c ∉ fp:=fun c o e hm=>by rw[(hf c hm).1]at e;cases e
 refine I.step (g':=s.gens) (d':=s.drawn) (ch:=fp) (fun b hb=>?_) (fun b o _ _ hc e _=>k b o hc e) (fun b o _ _ hc e _=>⟨o.slots,k b o hc e⟩) (fun _ _ _ _ n=>n)
  (fun b o hc e=>⟨o,k b o hc e⟩) (fun _ _ e=>e) (fun _ _ _ e=>e) (fun b ps e=>⟨#[],by rw[e];simp⟩) (fun m hm=>?_) (fun b u e=>?_) I.bare
 . have f:=hf b hb;exact⟨f.2.2.2.1,f.2.1,f.2.2.2.2.1,f.2.2.2.2.2⟩
 . obtain⟨o,es',ep,ho,r⟩:=hm;exact⟨o,es',ep,k _ o (fun z=>(hf _ z).2.1 rfl) ho,r⟩
 . refine(I.hok b u e).stay (fun c y hc' q=>?_) (fun c q=>q) fun c ys q=>q;rcases hc' with rfl | hc'
   . exact k _ _ (t9 _ _ e) q
   . exact k _ _ (t9 _ _ hc') q
noncomputable def mD(K:W.Frag)(a b:Addr):It :=
 ⟨fun i H=>∃xs ys x y,SqL K H a xs/\SqL K H b ys/\xs[i]?=some x/\ys[i]?=some y,
  fun i H v H'=>∃p x y,H p=none/\v=.ref p/\H'=upd H p (.tup [x,y])/\(∀xs,SqL K H a xs->xs[i]?=some x)/\∀ys,SqL K H b ys->ys[i]?=some y,
  fun i H=>∃xs ys,SqL K H a xs/\SqL K H b ys/\(xs.length<=i\/ys.length<=i)⟩
theorem AZ{P:Program}{w:World}{K:W.Frag}{es:List Expr}{x1:Nat}{tpos:Pos}(a b z TI TO i1 i2:Addr)(D:ZipApart z TI TO i1 i2 a b) :
 S3 P w K (.Tuple es x1 tpos) (mD K a b) [z,TI,TO,i1,i2] z (fun i h=>IsZip h z TI TO .none/\IsPair h TI (.ref i1) (.ref i2)/\(∃c d,IsPair h TO c d)/\h.IsListIter i1 a i/\h.IsListIter i2 b i) where
 mem:=by simp
 obj:=fun i h st c hc=>by
  obtain⟨hz,hTI,⟨u,v,hTO⟩,⟨o1,h1,c1,d1⟩,⟨o2,h2,c2,d2⟩⟩:=st;simp only[qc6,qf9,or_false]at hc;rcases hc with rfl | rfl | rfl | rfl | rfl
  . exact⟨_,hz,fun v q=>by cases (show Data.fields _=Data.cell v from q)⟩
  . exact⟨_,hTI,fun v q=>by cases (show Data.seq _ _=Data.cell v from q)⟩
  . exact⟨_,hTO,fun v q=>by cases (show Data.seq _ _=Data.cell v from q)⟩
  . exact⟨o1,h1,fun v q=>by rw[d1]at q;cases q⟩
  . exact⟨o2,h2,fun v q=>by rw[d2]at q;cases q⟩
 keep:=fun i h h' st k=>by
  obtain⟨hz,hTI,⟨u,v,hTO⟩,h1,h2⟩:=st;exact⟨k z (by simp) _ hz,k TI (by simp) _ hTI,⟨u,v,k TO (by simp) _ hTO⟩,h1.at fun o q=>k i1 (by simp) o q,h2.at fun o q=>k i2 (by simp) o q⟩
 item:=by
  intro X hP hw hK hc i Ac s σ H E I hf st hg;subst hP hw hK;obtain⟨hz,hTI,⟨u0,v0,hTO⟩,h1,h2⟩:=st;obtain⟨xs,ys,x,y,Xb,y3,hx,hy⟩:=hg;obtain⟨ia,ra,pa,_⟩:=I.list Xb;obtain⟨ib,rb,pb,_⟩:=I.list y3;obtain⟨u,hu,ru⟩:=ra.get hx;obtain⟨v,hv,rv⟩:=rb.get hy;have hfresh:H s.heap.objs.size=none:=I.hok.fresh (qa0 _);have JX:=qa9 hz;refine wpAny_pyNext_zip_item D hz hTI hTO h1 h2 pa.isList pb.isList (x:=u) (y:=v) (by simpa using hu) (by simpa using hv) fun h' hz' HN fS h2' htup hsz hk=>?_;refine⟨_,rfl,wpAny_letOwnedTupleGo_zip hz' fun h3 MZ Od=>?_⟩
  replace Od:Heap.SameBut z h' h3:=Od
  have kk:∀c o,c ∉ [z,TI,TO,i1,i2]->s.heap.get? c=some o->h3.get? c=some o:=fun c o hc e=>by
   simp only[qc6,qf9,or_false,not_or]at hc;obtain⟨n1,n2,n3,n4,n5⟩:=hc;exact(Od.2 c n1).trans (hk c o n1 n3 n4 n5 e)
  have kF:h3.get? s.heap.objs.size=some { cls:=.type "tuple",data:=.seq #[u,v] }:=(Od.2 _ (qm4 JX)).trans htup;have hi1:h3.IsListIter i1 a (i+1):=fS.at fun o e=>(Od.2 i1 D.i1z).trans e;have hi2:h3.IsListIter i2 b (i+1):=h2'.at fun o e=>(Od.2 i2 D.i2z).trans e;have HP:IsPair h3 TI (.ref i1) (.ref i2):=(Od.2 TI D.TIz).trans (hk _ _ D.TIz D.TITO D.TIi1 D.TIi2 hTI);have HM:IsPair h3 TO u v:=(Od.2 TO D.TOz).trans HN;have t9:∀c o,H c=some o->c ∉ [z,TI,TO,i1,i2]:=fun c o e hm=>by rw[(hf c hm).1]at e;cases e
  have W3:∀c o,H c=some o->c≠s.heap.objs.size:=fun c o e=>Bb e hfresh;refine⟨.ref s.heap.objs.size,upd H s.heap.objs.size (.tup [x,y]),?_,rfl,⟨s.heap.objs.size,x,y,hfresh,rfl,rfl,fun zs q=>by rw[I.list_inj q Xb];exact hx,fun zs q=>by rw[I.list_inj q y3];exact hy⟩,⟨MZ,HP,⟨_,_,HM⟩,hi1,hi2⟩,fun c hc=>?_⟩
  . refine Bk.step (s:=s) (h':=h3) (t':=s.toks) (H':=upd H s.heap.objs.size (.tup [x,y])) I (g':=s.gens) (d':=s.drawn) (ch:=[z,TI,TO,i1,i2]) (fun c hc=>?_) (fun c o _ _ hc e _=>kk c o hc e) (fun c o _ _ hc e _=>⟨o.slots,kk c o hc e⟩) (fun c o hc e n=>?_) (fun c o hc e=>⟨o,kk c o hc e⟩)
     (fun c zs e=>by rw[As (W3 c _ e)];exact e) (fun c o w' e=>by rw[As (W3 c _ e)];exact e) (fun c ps e=>⟨#[],by rw[As (W3 c _ e),e];simp⟩) (fun m hm=>?_) (fun c w' e=>?_) I.bare
    . have f:=hf c hc;exact⟨f.2.2.2.1,f.2.1,f.2.2.2.2.1,f.2.2.2.2.2⟩
    . rw[As (qc4 (qa9 e))];exact n
    . obtain⟨o,es',ep,ho,r⟩:=hm;exact⟨o,es',ep,kk _ o (fun q=>(hf _ q).2.1 rfl) ho,r⟩
    . by_cases hcs:c=s.heap.objs.size
      . subst hcs;rw[Ae]at e;cases e;exact⟨(by show(2:Nat)<=sizeLine;decide),[u,v],.cons ru (.cons rv .nil),⟨_,kF,rfl,rfl,_,rfl⟩⟩
      . rw[As hcs]at e;refine(I.hok c w' e).stay (fun c' y' hc' q=>?_) (fun c' q=>by rw[As (W3 c' _ q)];exact q) fun c' zs q=>by rw[As (W3 c' _ q)];exact q
        rcases hc' with rfl | hc'
        . exact kk _ _ (t9 _ _ e) q
        . exact kk _ _ (t9 _ _ hc') q
  . have lb:c<s.heap.objs.size:=by
     simp only[qc6,qf9,or_false]at hc;obtain⟨o1,q1,_⟩:=h1;obtain⟨o2,q2,_⟩:=h2;rcases hc with rfl | rfl | rfl | rfl | rfl
     . exact JX
     . exact qa9 hTI
     . exact qa9 hTO
     . exact qa9 q1
     . exact qa9 q2
    rw[As (qc4 lb)];exact(hf c hc).1
 done:=by
  intro X hP hw hK hc i Ac s σ H E I hf st hg;subst hP hw hK;obtain⟨hz,hTI,⟨u0,v0,hTO⟩,h1,h2⟩:=st;obtain⟨xs,ys,Xb,y3,hx⟩:=hg;obtain⟨ia,ra,pa,_⟩:=I.list Xb;obtain⟨ib,rb,pb,_⟩:=I.list y3;have la:=ra.length;have lb:=rb.length;refine wpAny_pyNext_zip_end (I.ok.hd hc) D hz hTI hTO h1 h2 pa.isList pb.isList ?_ fun h' hk=>⟨rfl,I.turnedN (t':=s.toks) (fp:=[z,TI,TO,i1,i2]) (fun c o hc e=>?_) hf⟩
  . rcases hx with q | q
    . exact .inl (by simp;omega)
    . exact .inr (by simp;omega)
  . simp only[qc6,qf9,or_false,not_or]at hc;obtain⟨n1,n2,n3,n4,n5⟩:=hc;exact hk c o n1 n3 n4 n5 e
 self:=fun _ _ _ _ _ st h=>qo2 st.1 h
noncomputable def mZ(K:W.Frag)(ta:TA):TI:=fun σ H R=>ta σ H fun vs H1=>∃a b,vs=[.ref a,.ref b]/\(∃xs,SqL K H1 a xs)/\(∃ys,SqL K H1 b ys)/\R (mD K a b) H1
theorem AL:bootBuiltins "zip"=some (.type "zip"):=by decide +kernel
theorem Qz{X:Cx}{K:W.Frag}{es:List Expr}{x1:Nat}{tpos:Pos}{a b:Expr}{ta:TA}{p pos:Pos}(hg:Gl X "zip")(hm:X.mg "zip"=none)(ha:PA X [a,b] ta)(hK:X.K=K:=by rfl)(hs:starEach [a,b] X.env=[(false,eval a X.env),(false,eval b X.env)]:=by rfl)(hs2:starEach [b] X.env=[(false,eval b X.env)]:=by rfl) :
 PI X (.Tuple es x1 tpos) (.Call (.Name "zip" p) [a,b] [] pos) (mZ K ta):=by
 subst hK;intro Ac s σ H R I h;refine Call_ (Jd I hg hm AL (qf0 (Dn (ha pos Ac s σ H _ I h) fun us s1 ⟨vs,H1,I1,r1,q1⟩=>?_) (by rw[hs,hs2]) (by rw[hs2];rfl)));obtain⟨la,lb,e,⟨xs,Xb⟩,⟨ys,y3⟩,q⟩:=q1;subst e;cases r1 with
 | cons ra rr =>
   cases rr with
   | cons rb rr =>
     cases rr;cases ra;cases rb;obtain⟨ia,_,pa,_⟩:=I1.list Xb;obtain⟨ib,_,pb,_⟩:=I1.list y3;have a1:la<s1.heap.objs.size:=by obtain⟨_,e,_⟩:=pa.isList;exact qa9 e
     have a2:lb<s1.heap.objs.size:=by obtain⟨_,e,_⟩:=pb.isList;exact qa9 e
     refine call_zip_2 pa.isList pb.isList fun h' hz hTI hTO hi1 hi2 hsz hk=>?_;refine qo2 hz ⟨s1.heap.objs.size+4,[s1.heap.objs.size+4,s1.heap.objs.size+2,s1.heap.objs.size+3,s1.heap.objs.size,s1.heap.objs.size+1],_,_,H1,rfl,I1.kept (t':=s1.toks) hk,AZ la lb _ _ _ _ _ (zipApart_new a1 a2),⟨hz,hTI,⟨_,_,hTO⟩,hi1,hi2⟩,fun c hc=>?_,q⟩
     have lc:s1.heap.objs.size<=c:=by
      simp only[qc6,qf9,or_false]at hc;rcases hc with rfl | rfl | rfl | rfl | rfl
      . exact qc9 _ _
      . exact qc9 _ _
      . exact qc9 _ _
      . exact qa0 _
      . exact qc9 _ _
     exact I1.fpOk lc (I1.hok.fresh lc)
section
variable{g:TG}{tc:TT}{te:TE}{D:Addr}{Q:Hp->Prop}{τ:St}{H:Hp}
theorem cN{K:W.Frag}{a b:Addr}{xs ys:List V}{n:Nat}(hn:n=min xs.length ys.length)(Pv:Nat->List V->St->Hp->Prop)(h0:Pv 0 [] τ H)(hl:∀i zs τ H,i<=n->Pv i zs τ H->SqL K H a xs/\SqL K H b ys)
 (hs:∀i x y zs τ H p,xs[i]?=some x->ys[i]?=some y->Pv i zs τ H->H p=none->g (.ref p) τ (upd H p (.tup [x,y])) fun τ2 H2=>tc τ2 H2 fun b H3=>if b=true then te τ2 H3 fun y H4=>H4 D=some (.lst zs)/\zs.length<sizeLine/\Pv (i+1) (zs++[y]) τ2 (upd H4 D (.lst (zs++[y]))) else Pv (i+1) zs τ2 H3)
 (hd:∀zs τ H,Pv n zs τ H->Q H):Ng (mD K a b) g tc te D Q τ H:=by
 refine⟨fun i m zs τ H=>m=n-i/\i<=n/\Pv i zs τ H,⟨n,by simp,qa5 _,h0⟩,?_⟩;rintro i m zs τ H ⟨rfl,hi,pp⟩;obtain⟨qa,qb⟩:=hl i zs τ H hi pp;by_cases hlt:i<n
 . refine .inr ⟨⟨xs,ys,xs[i],ys[i],qa,qb,by simp<;>omega,by simp<;>omega⟩,Pv (i+1),fun ys' τ' H' p'=>⟨n-(i+1),O9m,rfl,hlt,p'⟩,fun x H' y=>?_⟩;obtain⟨p,u,v,hp,rfl,rfl,y1,y2⟩:=y;exact hs i u v zs τ _ p (y1 xs qa) (y2 ys qb) pp hp
 . have e:i=n:=O9m
   subst e;exact .inl ⟨⟨xs,ys,qa,qb,O9m⟩,hd zs τ H pp⟩
end
theorem preSum_sum(ns:List Int):∀k,k<=ns.length->preSum (fun i=>ns.getD i 0) k=(ns.take k).sum
 | 0,_=>by simp[preSum]
 | k+1,h=>by
   show preSum _ k+ns.getD k 0=_;rw[preSum_sum ns k (by omega),List.take_succ,qb0 (by omega),List.sum_append,List.getD_eq_getElem?_getD,qb0 (by omega)];simp
theorem aJ{X:Cx}(hc:X.calm=true):Fd X (.builtin "sum") (fun xs H Q=>∃(p:Addr) (ns:List Int),xs=[.ref p]/\SqL X.K H p (ns.map V.int)/\Q (.int ns.sum) H):=by
 intro Ac s σ H xs us Q I r h;obtain⟨p,ns,rfl,hq,q⟩:=h;obtain⟨u,rfl,ru⟩:=S8 r;cases ru;obtain⟨its,rv,pl,hz⟩:=I.list hq;have hh:X.A.handled=none:=I.ok.hd hc;have l1:=rv.length;rw[qa3]at l1
 have rel:∀(i:Nat) (v:Value),its.toArray[i]?=some v->∃t,v=.int (ns.getD i 0) t:=fun i v e=>by
  have e':its[i]?=some v:=by simpa using e
  have hlt:i<its.length:=(qb2.mp e').1;have hb:ns[i]?=some (ns[i]'(O9m)):=by simp<;>omega
  obtain⟨u,hu,ru⟩:=rv.get (i:=i) (x:=V.int (ns[i]'(O9m))) (by rw[qc1,hb];rfl);rw[e']at hu;cases hu;rw[List.getD_eq_getElem?_getD,hb];exact ru
 refine call_sum_walkG (qn5 pl.isList ?_);refine⟨s.heap.objs.size,[s.heap.objs.size,p],[s.heap.objs.size],its.toArray.size,_,_,fun i=>ns.getD i 0,rfl,Walks.list (show X.A.in1.handled=none from hh) s.heap.objs.size p ?_ its.toArray,⟨⟨_,qb5 _ rfl,rfl,rfl⟩,?_⟩,?_,rel,fun h' tk t' k=>?_⟩
 . obtain⟨o,_,ho,_⟩:=pl;exact qc4 (qa9 ho)
 . exact pl.isList.at fun o e=>qa2 _ e
 . intro b hb;have hb':b=s.heap.objs.size\/b=p:=by simpa using hb
   rw[qh2];rcases hb' with rfl | rfl
   . exact Nat.lt_succ_self _
   . obtain⟨o,_,ho,_⟩:=pl;exact Nat.lt_succ_of_lt (qa9 ho)
 . have I1:Bk X Ac σ H { s with heap:=h',toks:=tk }:=I.kept (fun b o e=>k b o (by simp;exact qc4 (qa9 e)) (qa2 _ e));refine⟨.int ns.sum,H,I1,⟨t',?_⟩,q⟩
   have e:preSum (fun i=>ns.getD i 0) its.toArray.size=ns.sum:=by
    rw[qb4,←l1,preSum_sum ns _ (qa0 _),List.take_length]
   rw[e]
theorem Yr{X:Cx}{K:W.Frag}(hc:X.calm=true)(hK:X.K=K:=by rfl):Fd X (.builtin "sum") (fun xs H Q=>∃(p:Addr) (ns:List Int),xs=[.ref p]/\SqL K H p (ns.map V.int)/\Q (.int ns.sum) H):=by subst hK;exact aJ hc
theorem aM:bootBuiltins "sum"=some (.builtin "sum"):=by decide +kernel
theorem Dh{X:Cx}:Ps X (binaryOp .Mult) (rI IntMulOk fun i j=>.int (i*j)):=LJ fun _ _ _ _ _ _ _ hc q=>mul_int q hc
theorem f7{i:Int}{m:Nat}(h:i.natAbs<2 ^ m):Builtin.Int.intBits i<=m:=by
 unfold Builtin.Int.intBits;split
 . exact qa5 _
 . rename_i h0
   have hne:i.natAbs≠0:=by
    intro z
    exact h0 (by have:i=0:=O9m
                 simp[this])
   exact(Nat.log2_lt hne).mpr h
theorem Ih{i j:Int}{m n:Nat}(hi:i.natAbs<2 ^ m)(hj:j.natAbs<2 ^ n)(h:m+n<=134217728):IntMulOk i j:=by
 have h1:=f7 hi;have h2:=f7 hj
 have h3:¬((Builtin.Int.intBits i:Nat):Int)+((Builtin.Int.intBits j:Nat):Int) > ((bitsLine:Nat):Int):=by
  have:bitsLine=134217728:=by decide
  omega
 unfold IntMulOk;intro hz;simp only[qe5]at hz;have h4:=hz.2;unfold Builtin.Int.intTooBig at h4;exact h3 (by simpa using h4)
theorem N6{i j:Int}(h1:-(2 ^ 64)<i)(h2:i<2 ^ 64):IntMulOk i j:=FA.ok (.inl ⟨h1,h2⟩)
theorem bU{i j:Int}(h1:-(2 ^ 64)<j)(h2:j<2 ^ 64):IntMulOk i j:=FA.ok (.inr ⟨h1,h2⟩)
end L2
namespace L2
open PySem PySem.W PySem.Calls PyProof.Rows
noncomputable def Fz:Nat:=1048576
theorem P4:∀{ns:List Int}{x:Int},x∈ns->WData.weight (.int x)<=WData.weightAll (ns.map WData.int)
 | n::ns,x,h=>by
   rw[ql5];simp only[WData.weightAll];rcases qc6.mp h with rfl | h
   . omega
   . have:=P4 h;omega
theorem aI{ns:List Int}(h:WData.layableAll [WData.list (ns.map WData.int)]=true):∀x∈ns,x.natAbs<2 ^ Fz:=by
 intro x hx
 have h1:decide (WData.weight (WData.list (ns.map WData.int))<=2 ^ 20)=true:=by
  have:WData.layable (WData.list (ns.map WData.int))=true:=by simpa[WData.layableAll]using h
  unfold WData.layable at this;exact(Bool.and_eq_true_iff.mp this).2
 have h2:WData.weightAll (ns.map WData.int)<=1048576:=by
  have:=qd5 h1;simpa only[WData.weight]using this
 have h3:=P4 hx;by_cases h0:x.natAbs=0
 . rw[h0];exact Nat.pow_pos (by decide)
 . have h4:WData.weight (.int x)=x.natAbs.log2+1:=by
    simp only[WData.weight];rw[if_neg fun z=>h0 (by rw[show x=0 by simpa using z];rfl)]
   have h5:x.natAbs.log2<Fz:=by show _<1048576;omega
   exact(Nat.log2_lt h0).mp h5
theorem V1{l:OpenLaw}{n:Nat}{q:Program}{loose:List Str}{XP:(Str->Option Value)->Heap->Prop}{YP:World->Heap->Prop}{d:DefRec}
 (hn:l.most=some n) (hdf:d.params.defaults=[])
 (call:∀(w:World) (s₀ s₁:Shared) (mg mb:Str->Option Value) (fa:Addr) (o:Obj) (pm cd doc:Value) (a:Addr) (vs:List Value) (ns:List Int),(∀x∈ns,x.natAbs<2 ^ Fz) →
   Ground q loose [] XP w s₀ mg mb s₁.heap->YP w s₁.heap →
   s₁.heap.get? fa=some o->o.data=.func (docDef d.name d.params d.body d.scope pm cd doc)->s₁.heap.CodeRec cd d.name->mg d.name=some (.ref fa) →
   s₁.heap.get? a=some { cls:=.type "list",data:=.seq vs.toArray }->IntsAre vs ns->ns.length<=n->s₁.gens=#[] →
   codeAny (model l.prog w) callerA (.call (.ref fa) ⟨[.ref a],[]⟩) (fun r s'=>r=.ok (.ret (.bool true))/\OldK s₁.heap s'.heap/\s'.os=s₁.os/\AllBare s'.gens) s₁) :
 WalkO q loose XP YP l.row.toRowW d [] (fun f vs=>PySem.call f vs):=by
 intro w s₀ s₁ mg mb G Y fa o pm cd doc dV kV ho hd hcd hD hmg hg args vals as hpre hlay hrd hwl hlo;obtain rfl:dV=.none:=Dflts.none hD hdf;obtain rfl:kV=.none:=Dflts.noKw hD;obtain⟨a,vs,ns,rfl,rfl,hobj,hints,hlen⟩:=Att.script_of hn hpre hwl;refine enter_call (codeAny_mono (call w s₀ s₁ mg mb fa o pm cd doc a vs ns (aI hlay) G Y ho (fd_plain hd) hcd hmg hobj hints hlen hg) fun r s' hq=>?_);obtain⟨rfl,h2,h3,h4⟩:=hq;exact⟨.inl ⟨.bool true,.bool true,[],rfl,fun _=>rfl,.bool true,Att.post_true l _,fun _=>⟨List.Pairwise.nil,fun _ hm=>(nomatch hm)⟩⟩,h2,h3,h4⟩
theorem walk_ofB{l:PySem.W.OpenLaw}{n k:Nat}{q:Program}{loose:List Str}{XP:(Str->Option Value)->Heap->Prop}{YP:World->Heap->Prop}{d:DefRec}{K:Params->PySem.W.Frag}{CX:World->cV}{sp:World->Sp}{x:Str}
 (hn:l.most=some n) (hn2:n<=sizeLine) (hdf:d.params.defaults=[]) (hr:Et k callerA)
 (hY:∀(w:World) (h:Heap),YP w h->(K w.params).In h)
 (F:∀(w:World) (mg:Str->Option Value) (fa:Addr) (h:Heap),(K w.params).In h->h.Ns mainGlobals mg->mg d.name=some (.ref fa) →
   ∃fd:FuncData,(∀(s:Shared) (u:Value),BindsTo s fd ⟨[u],[]⟩ [(x,u)]) ∧
     ∀base:Heap,(K w.params).In base->base.Ns mainGlobals mg->By l.prog w (K w.params) mg base (CX w) k fa fd [x] (sp w))
 (CY:∀(w:World) (H:Hp) (a:Addr) (ns:List Int),ns.length<=n->(∀x∈ns,x.natAbs<2 ^ Fz)->ID H->SqL (K w.params) H a (ns.map V.int)->sp w [.ref a] H (fun v _=>v=.bl true) fun _ _ _=>False)
 (NT:∀(w:World) (H:Hp) (s:Shared) (e:Value) (s':Shared),CX w [] H s (fun _ _ _=>False) e s'->False) :
 PySem.W.WalkO q loose XP YP l.row.toRowW d [] (fun f vs=>PySem.call f vs):=by
 refine V1 hn hdf fun w s₀ s₁ mg mb fa o pm cd doc a vs ns Vg G Y ho hd hcd hmg hobj hints hlen hg=>?_;have KX:=hY w _ Y;obtain⟨fd,hb,hF⟩:=F w mg fa _ KX G.T.g hmg;exact bZ KX G.T.g G.T.b G.T.builtins G.T.nolimit hg hobj hints (qa1 hlen hn2) hr hF hb (fun H hO hS=>CY w H a ns hlen Vg hO hS) fun H e s'=>NT w H s₁ e s'
end L2
namespace Hb
noncomputable def Ah(f:Nat->Int):Nat->Int
 | 0=>0
 | n+1=>Ah f n+f n
theorem Aj{f g:Nat->Int}:∀{n:Nat},(∀k,k<n->f k=g k)->Ah f n=Ah g n
 | 0,_=>rfl
 | n+1,h=>by
   show Ah f n+f n=Ah g n+g n;rw[Aj fun k hk=>h k (by omega),h n (by omega)]
theorem Nj:∀n:Nat,Ah (fun _=>0) n=0
 | 0=>rfl
 | n+1=>by show Ah _ n+0=0;rw[Nj n];rfl
theorem B9(f g:Nat->Int):∀n:Nat,Ah (fun k=>f k+g k) n=Ah f n+Ah g n
 | 0=>rfl
 | n+1=>by
   show Ah _ n+(f n+g n)=(Ah f n+f n)+(Ah g n+g n)
   rw[B9 f g n];omega
theorem Ay(c:Int)(f:Nat->Int):∀n:Nat,Ah (fun k=>c*f k) n=c*Ah f n
 | 0=>by show(0:Int)=c*0;rw[qc7]
 | n+1=>by
   show Ah _ n+c*f n=c*(Ah f n+f n);rw[Ay c f n,Int.mul_add]
theorem Ff(c:Int)(f:Nat->Int)(n:Nat):Ah (fun k=>f k*c) n=Ah f n*c:=by
 rw[qd4,←Ay];exact Aj fun k _=>qd4 ..
theorem Cz(f:Nat->Nat->Int)(m:Nat):∀n:Nat,Ah (fun i=>Ah (f i) m) n=Ah (fun j=>Ah (fun i=>f i j) n) m
 | 0=>(Nj m).symm
 | n+1=>by
   show Ah _ n+Ah (f n) m=Ah (fun j=>Ah (fun i=>f i j) n+f n j) m;rw[Cz f m n,B9]
theorem B7(f:Nat->Int)(i:Nat):∀n:Nat,Ah (fun k=>(if k=i then 1 else 0)*f k) n=if i<n then f i else 0
 | 0=>by simp[Ah]
 | n+1=>by
   show Ah _ n+(if n=i then 1 else 0)*f n=_;rw[B7 f i n];by_cases h:n=i
   . subst h;simp
   . by_cases h2:i<n
     . rw[if_pos h2,if_neg h,if_pos (by omega)];omega
     . rw[if_neg h2,if_neg h,if_neg (by omega)];omega
noncomputable def G7(n:Nat)(f:Nat->Int):List Int:=(List.range n).map f
theorem K5(n:Nat)(f:Nat->Int):(G7 n f).length=n:=by unfold G7;rw[qa3,List.length_range]
theorem U9{n i:Nat}{f:Nat->Int}(h:i<n):(G7 n f)[i]?=some (f i):=by
 unfold G7;rw[qc1,List.getElem?_range h];rfl
theorem My(n:Nat)(f:Nat->Int):G7 (n+1) f=G7 n f++[f n]:=by
 unfold G7;rw[List.range_succ,qe7];rfl
theorem Oa{n:Nat}{f g:Nat->Int}(h:∀i,i<n->f i=g i):G7 n f=G7 n g:=by
 unfold G7;refine List.map_congr_left fun i hi=>h i (qj2.mp hi)
theorem EE(n:Nat)(f:Nat->Int):(G7 n f).sum=Ah f n:=by
 induction n with
 | zero=>rfl
 | succ n ih=>rw[My,List.sum_append,ih];simp[Ah]
theorem EF(n:Nat):(List.replicate n [(0:Int)]).flatten=G7 n fun _=>0:=by
 induction n with
 | zero=>rfl
 | succ n ih =>
   rw[My,←ih];clear ih
   induction n with
   | zero=>rfl
   | succ n ih =>
     rw[qh0,qi9,ih];have ih':=ih;rw[qh0,qi9]at ih';rw[←qp3,ih']
theorem eF{n i:Nat}{f:Nat->Int}{v:Int}(h:i<n):(G7 n f).set i v=G7 n fun k=>if k=i then v else f k:=by
 refine qm9 fun j=>?_;rw[qg2];by_cases hj:j<n
 . rw[U9 hj,U9 hj,K5];by_cases e:i=j
   . subst e;simp[h]
   . rw[if_neg e,if_neg (fun z=>e z.symm)]
 . rw[qf4 (by rw[K5];omega),qf4 (by rw[K5];omega)];split
   . split
     . rename_i e _;omega
     . rfl
   . rfl
theorem Zf{i j:Int}{m n:Nat}(hi:i.natAbs<2 ^ m)(hj:j.natAbs<2 ^ n):(i*j).natAbs<2 ^ (m+n):=by
 rw[qa4,qb7];exact ql2 hi hj
theorem cQ{i j:Int}{m:Nat}(hi:i.natAbs<2 ^ m)(hj:j.natAbs<2 ^ m):(i+j).natAbs<2 ^ (m+1):=by
 have h:=qc8 i j;rw[qf1];generalize 2 ^ m=q at *;omega
theorem Fv{i:Int}{m n:Nat}(hi:i.natAbs<2 ^ m)(h:m<=n):i.natAbs<2 ^ n:=qa8 hi (qb9 (by decide) h)
theorem IB{i:Int}{m:Nat}(hi:i.natAbs<2 ^ m):(-i).natAbs<2 ^ m:=by rw[qb3];exact hi
theorem Ze{f:Nat->Int}{m:Nat}:∀{n:Nat},(∀k,k<n->(f k).natAbs<2 ^ m)->(Ah f n).natAbs<2 ^ (m+n)
 | 0,_=>by show(0:Int).natAbs<_;exact Nat.pow_pos (by decide)
 | n+1,h=>by
   have h1:=Ze (n:=n) (f:=f) fun k hk=>h k O9m;show(Ah f n+f n).natAbs<2 ^ (m+n+1);exact cQ h1 (Fv (h n O9m) (qc9 m n))
end Hb
namespace Hb
open PySem L2
noncomputable abbrev VI(n:Nat)(f:Nat->Int):List V:=(G7 n f).map V.int
noncomputable def dL(n:Nat)(f:Nat->Int):L2.D:=.lst (Yl (G7 n f))
noncomputable def dT(h w:Nat)(f:Nat->Nat->Int):L2.D:=.lst ((List.range h).map fun i=>dL w (f i))
section
variable{K:W.Frag}{H H' H1 H2:Hp}
theorem Ba(n:Nat)(f:Nat->Int):(VI n f).length=n:=by rw[qa3,K5]
theorem Ch{n i:Nat}{f:Nat->Int}(h:i<n):(VI n f)[i]?=some (.int (f i)):=by rw[qc1,U9 h];rfl
theorem FY{n i:Nat}{f:Nat->Int}(h:i<n):aT (VI n f) ((i:Nat):Int)=some (.int (f i)):=Bi (Ch h)
theorem V7{n i:Nat}{f:Nat->Int}(h:i<n):aT (VI n f) ((0:Int)+(i:Int))=some (.int (f i)):=by rw[qi7];exact FY h
theorem E9{n i:Nat}{f:Nat->Int}{u:V}(h:(VI n f)[i]?=some u):i<n/\u=.int (f i):=by
 have h1:i<(VI n f).length:=(qb2.mp h).1;rw[Ba]at h1;rw[Ch h1]at h;exact⟨h1,(qe6 h).symm⟩
theorem Er(n:Nat)(f:Nat->Int):VI (n+1) f=VI n f++[.int (f n)]:=by
 show(G7 (n+1) f).map V.int=_;rw[My,qe7];rfl
theorem Fa{n:Nat}{f g:Nat->Int}(h:∀i,i<n->f i=g i):VI n f=VI n g:=by
 show(G7 n f).map V.int=(G7 n g).map V.int;rw[Oa h]
theorem V5(n:Nat):(List.replicate n [V.int 0]).flatten=VI n fun _=>0:=by
 show _=(G7 n fun _=>0).map V.int;rw[←EF,List.map_flatten,List.map_replicate];rfl
theorem On{n i:Nat}{f:Nat->Int}{v:Int}(h:i<n):(VI n f).set i (.int v)=VI n fun k=>if k=i then v else f k:=by
 show((G7 n f).map V.int).set i (.int v)=(G7 n _).map V.int;rw[←eF h,qp6]
theorem fV{v:V}{n:Nat}{f:Nat->Int}(h:Rep K H v (dL n f)):∃a,v=.ref a/\SqL K H a (VI n f):=by
 obtain⟨a,vs,e,q,r⟩:=h;rw[Ky.mp r]at q;exact⟨a,e,q⟩
theorem Na{a:Addr}{n:Nat}{f:Nat->Int}(h:SqL K H a (VI n f)):Rep K H (.ref a) (dL n f):=⟨a,_,rfl,h,Ky.mpr rfl⟩
theorem E7{v:V}{h w:Nat}{f:Nat->Nat->Int}(r:Rep K H v (dT h w f)):∃a us,v=.ref a/\SqL K H a us/\us.length=h/\∀i u,us[i]?=some u->i<h/\∃b,u=.ref b/\SqL K H b (VI w (f i)):=by
 obtain⟨a,us,e,q,r⟩:=r;have hl:us.length=h:=by have:=r.length;simpa using this
 refine⟨a,us,e,q,hl,fun i u hu=>?_⟩;have hi:i<h:=by have:=(qb2.mp hu).1;omega
 obtain⟨d,hd,rd⟩:=r.getV hu;rw[qc1,List.getElem?_range hi]at hd;have e2:d=dL w (f i):=(qe6 hd).symm;subst e2;exact⟨hi,fV rd⟩
theorem cG(n:Nat)(f:Nat->Int):dep (dL n f)=1:=by show deps (Yl _)+1=1;rw[Ol]
theorem Xg(w:Nat)(f:Nat->Nat->Int):∀l:List Nat,deps (l.map fun i=>dL w (f i))<=1
 | []=>qa5 _
 | x::xs=>by
   have h1:=Xg w f xs;have h2:=cG w (f x);show max (dep (dL w (f x))) (deps (xs.map fun i=>dL w (f i)))<=1;omega
theorem HY(h w:Nat)(f:Nat->Nat->Int):dep (dT h w f)<=8:=by
 have:=Xg w f (List.range h);show deps _+1<=8;omega
theorem ER(n:Nat)(f:Nat->Int):dep (dL n f)<=8:=by rw[cG];decide
structure Rows(H H1:Hp)(D:Addr)(as:List Addr)(w:Nat)(f:Nat->Nat->Int):Prop where
 same:Ao H H1
 free:H D=none
 «at»:H1 D=some (.lst (as.map V.ref))
 row:∀j a,as[j]?=some a->H a=none/\a≠D/\H1 a=some (.lst (VI w (f j)))
theorem Rows.nil{D:Addr}{w:Nat}{f:Nat->Nat->Int}(h:H D=none):Rows H (upd H D (.lst [])) D [] w f:=⟨Ao.new h,h,Ae,fun j a e=>by simp at e⟩
theorem Rows.push{D b:Addr}{as:List Addr}{w:Nat}{f:Nat->Nat->Int}(R:Rows H H1 D as w f)(hb:H1 b=none)(s:Ao H1 H2)(h2:H2 b=some (.lst (VI w (f as.length)))):Rows H (upd H2 D (.lst (as.map V.ref++[.ref b]))) D (as++[b]) w f:=by
 have hne:b≠D:=fun z=>by rw[z,R.at]at hb;cases hb
 refine⟨(R.same.trans s).turn R.free,R.free,by rw[Ae,qe7];rfl,fun j a e=>?_⟩;by_cases hj:j<as.length
 . rw[qj3 hj]at e;obtain⟨h1,h2',h3⟩:=R.row j a e;exact⟨h1,h2',by rw[As h2'];exact s _ _ h3⟩
 . have hl:j<(as++[b]).length:=(qb2.mp e).1;have ej:j=as.length:=by simp at hl;omega
   subst ej;have eb:b=a:=by simpa using e
   subst eb;exact⟨R.same.free hb,hne,by rw[As hne];exact h2⟩
theorem Rows.rep{D:Addr}{as:List Addr}{h w:Nat}{f:Nat->Nat->Int}(R:Rows H H1 D as w f)(hl:as.length=h):Rep K H1 (.ref D) (dT h w f):=by
 refine⟨D,_,rfl,.of R.at,?_⟩;subst hl
 have go:∀(bs:List Addr) (n:Nat),(∀j a,bs[j]?=some a->H1 a=some (.lst (VI w (f (n+j)))))->Reps K H1 (bs.map V.ref) ((List.range' n bs.length).map fun i=>dL w (f i)):=by
  intro bs
  induction bs with
  | nil=>intro n _;rfl
  | cons b bs ih =>
    intro n hr;refine⟨.ref b,bs.map V.ref,rfl,Na (.of ?_),?_⟩
    . have:=hr 0 b rfl;simpa using this
    . refine ih (n+1) fun j a e=>?_;have:=hr (j+1) a (by simpa using e);rw[show n+1+j=n+(j+1) by omega];exact this
 have:=go as 0 fun j a e=>by rw[qn6];exact(R.row j a e).2.2
 rw[List.range_eq_range'];exact this
theorem Rows.later{D:Addr}{as:List Addr}{w:Nat}{f:Nat->Nat->Int}(R:Rows H H1 D as w f)(s:Ao H1 H2):Rows H H2 D as w f :=
 ⟨R.same.trans s,R.free,s _ _ R.at,fun j a e=>⟨(R.row j a e).1,(R.row j a e).2.1,s _ _ (R.row j a e).2.2⟩⟩
theorem Rows.earlier{H0:Hp}{D:Addr}{as:List Addr}{w:Nat}{f:Nat->Nat->Int}(s:Ao H0 H)(R:Rows H H1 D as w f):Rows H0 H1 D as w f :=
 ⟨s.trans R.same,s.free R.free,R.at,fun j a e=>⟨s.free (R.row j a e).1,(R.row j a e).2.1,(R.row j a e).2.2⟩⟩
theorem Im{g:TG}{te:TE}{D:Addr}{Q:Hp->Prop}{τ:St}{H:Hp}{K:W.Frag}{a b:Addr}{xs ys:List V}{n:Nat}(hn:n=min xs.length ys.length)(Pv:Nat->List V->St->Hp->Prop)(h0:Pv 0 [] τ H)(hl:∀i zs τ H,i<=n->Pv i zs τ H->SqL K H a xs/\SqL K H b ys)
 (hs:∀i x y zs τ H p,xs[i]?=some x->ys[i]?=some y->Pv i zs τ H->H p=none->g (.ref p) τ (upd H p (.tup [x,y])) fun τ2 H2=>te τ2 H2 fun y H4=>H4 D=some (.lst zs)/\zs.length<sizeLine/\Pv (i+1) (zs++[y]) τ2 (upd H4 D (.lst (zs++[y]))))
 (hd:∀zs τ H,Pv n zs τ H->Q H):Ng (mD K a b) g l0 te D Q τ H:=cN hn Pv h0 hl (fun i x y zs τ H p e1 e2 pp hp=>hs i x y zs τ H p e1 e2 pp hp) hd
end
noncomputable def spreadV(ns:List Int)(k:Int):Int:=if k<(ns.length:Int) then ns.getD k.toNat 0 else if ns.length=0 then k*k+3*k else ns.getD (k%(ns.length:Int)).toNat 0*(48271+k*k)+k
noncomputable def DZ(H:Hp)(n:Nat)(f:Nat->Int)(Q:V->Hp->Prop):Prop:=∀(D:Addr) (H':Hp),H D=none->Ao H H'->H' D=some (.lst (VI n f))->Q (.ref D) H'
noncomputable def gS(H:Hp)(h w:Nat)(f:Nat->Nat->Int)(Q:V->Hp->Prop):Prop:=∀(D:Addr) (as:List Addr) (H':Hp),as.length=h->Rows H H' D as w f->Q (.ref D) H'
section
variable(K:W.Frag)
noncomputable def Px:Sp:=fun vs H Q _=>∃(a:Addr) (ns:List Int),vs=[.ref a]/\SqL K H a (ns.map V.int)/\ns.length<=63/\(∀x∈ns,x.natAbs<2 ^ Fz)/\∀H',Q (.bl true) H'
noncomputable def Qb:Sp:=fun vs H Q _=>∃(a b:Int) (x y:Addr) (n:Nat) (p q:Nat->Int),vs=[.int a,.ref x,.int b,.ref y]/\SqL K H x (VI n p)/\SqL K H y (VI n q)/\n<=1000/\(∀j,j<n->IntMulOk a (p j)/\IntMulOk b (q j))/\DZ H n (fun j=>a*p j+b*q j) Q
noncomputable def Tc:Sp:=fun vs H Q _=>∃(v:V) (h w j:Nat) (f:Nat->Nat->Int),vs=[v,.int j]/\Rep K H v (dT h w f)/\h<=1000/\j<w/\DZ H h (fun i=>f i j) Q
noncomputable def Gp:Sp:=fun vs H Q _=>∃(v:V) (h w:Nat) (f:Nat->Nat->Int),vs=[v,.int w]/\Rep K H v (dT h w f)/\h<=1000/\w<=1000/\gS H w h (fun i j=>f j i) Q
noncomputable def Qa(_K:W.Frag):Sp:=fun vs H Q _=>∃n i:Nat,vs=[.int n,.int i]/\n<=1000/\DZ H n (fun j=>if j=i then 1 else 0) Q
noncomputable def Zx(_K:W.Frag):Sp:=fun vs H Q _=>∃n:Nat,vs=[.int n]/\n<=1000/\gS H n n (fun i j=>if j=i then 1 else 0) Q
noncomputable def Lh:Sp:=fun vs H Q _=>∃(v:V) (x:Addr) (h w:Nat) (f:Nat->Nat->Int) (a:Nat->Int),vs=[v,.ref x]/\Rep K H v (dT h w f)/\SqL K H x (VI w a)/\h<=1000/\w<=1000/\(∀i k,i<h->k<w->IntMulOk (f i k) (a k))/\DZ H h (fun i=>Ah (fun k=>f i k*a k) w) Q
noncomputable def Ov:Sp:=fun vs H Q _=>∃(a:Addr) (ns:List Int) (k:Int),vs=[.ref a,.int k]/\SqL K H a (ns.map V.int)/\0<=k/\k<=100000/\ns.length<=63/\Q (.int (spreadV ns k)) H
noncomputable def Nl:Sp:=fun vs H Q _=>∃(v:V) (h w:Nat) (f:Nat->Nat->Int),vs=[v]/\Rep K H v (dT h w f)/\h<=1000/\gS H h w f Q
noncomputable def Is:Sp:=fun vs H Q _=>∃(v:V) (n:Nat) (f:Nat->Int),vs=[v,.int n]/\Rep K H v (dL n f)/\Q (.bl true) H
end
end Hb
namespace L2
open PySem PySem.Spec PyProof.Rows
structure G8(P:Program)(w:World)(K:W.Frag)(mg:Str->Option Value)(base:Heap)(C:Addr)(m:Str)(ps:List Str)(k:Nat)(sp:Sp):Prop where
 ex:∃(f:Addr) (fd:FuncData),cU K C m f/\Ir K fd ps []/\By P w K mg base Ex k f fd ps sp
structure Zi(P:Program)(w:World)(K:W.Frag)(mg:Str->Option Value)(base:Heap)(C:Addr)(ps:List Str)(k:Nat)(sp:Sp):Prop where
 ex:∃(f:Addr) (fd:FuncData),Mk K C f/\Ir K fd ps []/\By P w K mg base Ex k f fd ps sp
section
variable{X:Cx}{K:W.Frag}{j k:Nat}{C:Addr}{ps:List Str}{sp:Sp}{x m f:Str}{p pos apos pos':Pos}{e o value:Expr}{es:List Expr}{ta tv:TE}{t:TA}
theorem C4{pl:Sem Bool}(he:PE X o ta)(c:Cls X.K C)(h:G8 X.prog X.w X.K X.mg X.base C m ps j sp)(hr:Et k X.A)(ha:PA X (e::es) t)(hk:j<=k:=by decide)
 (hst:starEach (e::es) X.env=(false,eval e X.env)::starEach es X.env:=by rfl) (hpl:(backTo pos (starEach es X.env)).any (·.1)=false:=by rfl)
 (ht:eval (.Call (.Attribute o m apos) (e::es) [] pos) X.env=(do
   let ov ←eval o X.env
   standAt apos.atName
   let (f,first) ←holding [ov] (getMethod ov m pl)
   callWith pos f first (backTo pos (starEach (e::es) X.env)) (backToKw pos (keywordEach [] X.env))):=by rfl) :
 PE X (.Call (.Attribute o m apos) (e::es) [] pos) (Zr C m sp [] E0 ta t):=by
 obtain⟨f,fd,h1,h2,h3⟩:=h.ex;exact DS he c h1 h3 (hr.mono hk) h2 .nil Wt ha hst hpl ht
theorem Ig{pl:Sem Bool}(he:PE X o ta)(c:Cls X.K C)(h:G8 X.prog X.w X.K X.mg X.base C m ps j sp)(hr:Et k X.A)(hk:j<=k:=by decide)
 (ht:eval (.Call (.Attribute o m apos) [] [] pos) X.env=(do
   let ov ←eval o X.env
   standAt apos.atName
   let (f,first) ←holding [ov] (getMethod ov m pl)
   callWith pos f first (backTo pos (starEach [] X.env)) (backToKw pos (keywordEach [] X.env))):=by rfl) :
 PE X (.Call (.Attribute o m apos) [] [] pos) (Zr C m sp [] E0 ta GF):=by
 obtain⟨f,fd,h1,h2,h3⟩:=h.ex;exact bL he c h1 h3 (hr.mono hk) h2 .nil Wt ht
theorem Kb(h:Zi X.prog X.w X.K X.mg X.base C ps j sp)(hr:Et k X.A)(hg:Gl X x)(hm:X.mg x=some (.ref C))(ha:PA X (e::es) t)(hk:j+1<=k:=by decide)(hdb:(x==("__debug__":Str))=false:=by decide)
 (he:starEach (e::es) X.env=(false,eval e X.env)::starEach es X.env:=by rfl) (hpl:(backTo pos (starEach es X.env)).any (·.1)=false:=by rfl):PE X (.Call (.Name x p) (e::es) [] pos) (FD C sp [] E0 t):=by
 obtain⟨f,fd,h1,h2,h3⟩:=h.ex;exact DT h1 h3 (hr.mono hk) hg hm h2 .nil Wt ha hdb he hpl
theorem At(he:PE X e ta)(hK:X.K=K:=by rfl)(hb:attributeBase e f X.env (eval e X.env)=eval e X.env:=by rfl):PE X (.Attribute e f pos) (tFld K ta f):=by subst hK;exact GO he hb
theorem D9(ha:PE X o ta)(hv:PE X value tv)(hK:X.K=K:=by rfl)(hs:swapsWith value (some (.Attribute o f pos')) pos.line X.env=pure false:=by rfl):PS X (.Assign [.Attribute o f pos'] value pos) (jJ K ta tv f):=by subst hK;exact GL ha hv hs
end
noncomputable abbrev TJ:=St->Hp->(Hp->Prop)->Prop
section
variable{X:Cx}{e v₁ v₂:Expr}{es rest:List Expr}{te:TE}{tj:TJ}{pos:Pos}
end
end L2
namespace Hb
open PySem L2
inductive Tn where
 | mi (i:Nat) | sw (i j:Nat) | ad (i j:Nat) (n:Int)
noncomputable def Y7:Tn->L2.D
 | .mi i=>.tup [.str "minus",.int i]
 | .sw i j=>.tup [.str "swap",.int i,.int j]
 | .ad i j n=>.tup [.str "add",.int i,.int j,.int n]
noncomputable def K9(m:Nat):Tn->Prop
 | .mi i=>i<m
 | .sw i j=>i<m/\j<m/\i≠j
 | .ad i j _=>i<m/\j<m/\i≠j
noncomputable def Eb:Tn->(Nat->Nat->Int)->Nat->Nat->Int
 | .mi i,f=>fun r c=>if r=i then -(f i c) else f r c
 | .sw i j,f=>fun r c=>if r=j then f i c else if r=i then f j c else f r c
 | .ad i j n,f=>fun r c=>if r=i then 1*f i c+n*f j c else f r c
noncomputable def tN:Tn->Tn
 | .ad i j n=>.ad i j (-n)
 | t=>t
noncomputable def CV:Tn->Tn
 | .ad i j n=>.ad j i (-n)
 | t=>t
noncomputable def gE(t:Tn)(f:Nat->Nat->Int):Nat->Nat->Int:=fun r c=>Eb t (fun a b=>f b a) c r
noncomputable def bT(B:Nat)(f:Nat->Nat->Int):Prop:=∀r c,(f r c).natAbs<2 ^ B
noncomputable def tB(B:Nat):Tn->Prop
 | .ad _ _ n=>n.natAbs<2 ^ B
 | _=>True
theorem bT.mono{B B':Nat}{f:Nat->Nat->Int}(h:bT B f)(hb:B<=B'):bT B' f:=fun r c=>Fv (h r c) hb
theorem tB.mono{B B':Nat}{t:Tn}(h:tB B t)(hb:B<=B'):tB B' t:=by
 cases t with
 | ad i j n=>exact Fv (show n.natAbs<2 ^ B from h) hb
 | _=>trivial
theorem Ie{f:Str}{v:V}:∀{fs:List (Str × V)}{x:V},fs.lookup f=some x->(putF f v fs).length=fs.length
 | [],x,h=>by cases h
 | (g,y)::r,x,h=>by
   unfold putF;by_cases e:g=f
   . rw[if_pos e];rfl
   . rw[if_neg e,qe4,qe4];rw[ql3]at h;have e2:(f==g)=false:=by simpa using fun z=>e z.symm
     rw[e2]at h;rw[Ie h]
noncomputable def Jr(H:Hp)(Z:Addr->Prop):Hp:=fun a=>@ite _ (Z a) (Classical.propDecidable _) none (H a)
section
variable{K:W.Frag}{H H' H1:Hp}{Z:Addr->Prop}
theorem Gh{a:Addr}(h:¬Z a):Jr H Z a=H a:=by unfold Jr;rw[if_neg h]
theorem Rj{a:Addr}(h:Z a):Jr H Z a=none:=by unfold Jr;rw[if_pos h]
theorem Fl:Ao (Jr H Z) H:=fun a o e=>by
 by_cases h:Z a
 . rw[Rj h]at e;cases e
 . rw[Gh h]at e;exact e
theorem Tt(h:∀a o,¬Z a->H a=some o->H' a=some o):Ao (Jr H Z) (Jr H' Z):=fun a o e=>by
 by_cases hz:Z a
 . rw[Rj hz]at e;cases e
 . rw[Gh hz]at e ⊢;exact h a o hz e
theorem bG(s:Ao H H'):Ao (Jr H Z) (Jr H' Z):=Tt fun a o _ e=>s a o e
theorem Xn{a:Addr}{us:List V}{h w:Nat}{f:Nat->Nat->Int}(hq:SqL K H a us)(hl:us.length=h)(hr:∀i,i<h->∃b,us[i]?=some (.ref b)/\SqL K H b (VI w (f i))):Rep K H (.ref a) (dT h w f):=by
 refine⟨a,us,rfl,hq,?_⟩;subst hl
 have go:∀(vs:List V) (n:Nat),(∀j,j<vs.length->∃b,vs[j]?=some (.ref b)/\SqL K H b (VI w (f (n+j))))->Reps K H vs ((List.range' n vs.length).map fun i=>dL w (f i)):=by
  intro vs
  induction vs with
  | nil=>intro n _;rfl
  | cons v vs ih =>
    intro n hv;obtain⟨b,e,hb⟩:=hv 0 (by simp);have ev:v=.ref b:=by simpa using e
    subst ev;refine⟨.ref b,vs,rfl,Na (by simpa using hb),?_⟩;refine ih (n+1) fun j hj=>?_;obtain⟨b',e',hb'⟩:=hv (j+1) (by simpa using hj);refine⟨b',by simpa using e',?_⟩;rw[show n+1+j=n+(j+1) by omega];exact hb'
 have:=go us 0 fun j hj=>by rw[qn6];exact hr j hj
 rw[List.range_eq_range'];exact this
theorem Rows.hid{D:Addr}{as:List Addr}{h w:Nat}{f:Nat->Nat->Int}(R:Rows H H1 D as w f)(hl:as.length=h)(hz:∀a,Z a->H a≠none):Rep K (Jr H1 Z) (.ref D) (dT h w f):=by
 have nz:∀a,H a=none->¬Z a:=fun a e z=>hz a z e;refine Xn (us:=as.map V.ref) (.of ?_) (by rw[qa3];exact hl) fun i hi=>?_
 . rw[Gh (nz D R.free)];exact R.at
 . have hi':i<as.length:=O9m
   obtain⟨h1,_,h3⟩:=R.row i as[i] (qb0 hi');refine⟨as[i],by rw[qc1,qb0 hi'];rfl,.of ?_⟩;rw[Gh (nz _ h1)];exact h3
end
section
variable(K:W.Frag)
noncomputable def Dv:Sp:=fun vs H Q _=>∃(a:Addr) (n:Nat) (f:Nat->Int),vs=[.ref a,.int n]/\SqL K H a (VI n f)/\n<=1000/\∀H',Ao H H'->Q (.bl true) H'
noncomputable def Ot:Sp:=fun vs H Q _=>∃(v:V) (h w:Nat) (f:Nat->Nat->Int),vs=[v,.int w]/\Rep K H v (dT h w f)/\h<=40/\w<=1000/\∀H',Ao H H'->Q (.bl true) H'
noncomputable def Td:Sp:=fun vs H Q _=>∃(u:V) (t:Tn),vs=[u]/\Rep K H u (Y7 t)/\∀(v:V) (H':Hp),Ao H H'->Rep K H' v (Y7 (CV t))->Q v H'
variable(CL CT:Addr)
end
section
variable{K:W.Frag}{CL CT:Addr}{H H':Hp}{Z:Addr->Prop}{p L R dn:Addr}{h w B:Nat}{f:Nat->Nat->Int}{ds:List (Bool × Tn)}
noncomputable def Kp(H H':Hp):Prop:=∀a,H a≠none->H' a≠none
theorem Kp.trans{H H1 H2:Hp}(x:Kp H H1)(y:Kp H1 H2):Kp H H2:=fun a e=>y a (x a e)
theorem Kp.of{H H1:Hp}(s:Ao H H1):Kp H H1:=fun a e z=>e (s.free z)
theorem Kp.upd{H:Hp}{p:Addr}{o:HO}:Kp H (upd H p o):=fun a e z=>by
 by_cases hap:a=p
 . rw[hap,Ae]at z;cases z
 . rw[As hap]at z;exact e z
theorem Kp.x{H H1:Hp}{p:Addr}{o:HO}(s:SameX p H H1)(hp:H1 p=some o):Kp H H1:=fun a e z=>by
 by_cases hap:a=p
 . rw[hap,hp]at z;cases z
 . cases q:H a with
   | none=>exact e q
   | some o'=>rw[s a o' hap q]at z;cases z
end
section
variable(K:W.Frag)
noncomputable def Mm:Sp:=fun vs H Q _=>∃(c n:Int) (m:Nat),vs=[.int c,.int m,.int n]/\m<=60/\(m=0->Q .non H) ∧
 (0<m->∀(t:Tn) (v:V) (H':Hp),K9 m t->(∀B,n.natAbs<2 ^ B->tB B t)->Ao H H'->Rep K H' v (Y7 t)->Q v H')
noncomputable def Nk:Sp:=Gp K
noncomputable def Hx:Sp:=fun vs H Q _=>∃(v u:V) (h w B:Nat) (f:Nat->Nat->Int) (t:Tn),vs=[v,u]/\Rep K H v (dT h w f)/\Rep K H u (Y7 t)/\K9 h t/\bT B f/\tB B t/\B<=1000000/\h<=1000/\w<=1000 ∧
 ∀(D:Addr) (H':Hp),H D=none->Ao H H'->Rep K (Jr H' fun a=>H a≠none) (.ref D) (dT h w (Eb t f))->Q (.ref D) H'
noncomputable def Ou:Sp:=fun vs H Q _=>∃(v u:V) (h w B:Nat) (f:Nat->Nat->Int) (b:Bool) (t:Tn),vs=[v,.int w,.bl b,u]/\Rep K H v (dT h w f)/\Rep K H u (Y7 t)/\K9 (if b then h else w) t/\bT B f/\tB B t/\B<=1000000/\h<=1000/\w<=1000 ∧
 ∀(D:Addr) (H':Hp),H D=none->Ao H H'->Rep K (Jr H' fun a=>H a≠none) (.ref D) (dT h w (if b then Eb t f else gE t f))->Q (.ref D) H'
end
section
variable{K:W.Frag}{CL CT:Addr}{H H':Hp}{Z:Addr->Prop}{p L R dn:Addr}{h w B:Nat}{f:Nat->Nat->Int}{ds:List (Bool × Tn)}
theorem Yd{A e m:Int}(h0:0<=A)(h1:A<m)(h2:0<=e)(h3:e<m-1):(A+1+e)%m≠A/\0<=(A+1+e)%m/\(A+1+e)%m<m:=by
 refine⟨?_,qi0 _ O9m,qi6 _ O9m⟩;by_cases hs:A+1+e<m
 . rw[Int.emod_eq_of_lt (by omega) hs];omega
 . have:(A+1+e)%m=A+1+e-m:=by
    have e1:A+1+e=(A+1+e-m)+m:=O9m
    rw[e1,Int.add_emod_right,Int.emod_eq_of_lt (by omega) (by omega)];omega
   omega
end
end Hb
namespace L2
open PySem PySem.Spec PyProof.Rows PySem.W
section
variable{X:Cx}
noncomputable def Nh(_i j:Int):Prop:=j≠0/\j.natAbs.log2<9000
theorem Nh.of{i j:Int}(h0:j≠0)(h:j.natAbs<2 ^ 9000):Nh i j:=⟨h0,(Nat.log2_lt O9m).mpr h⟩
theorem Fx:Ps X (binaryOp .FloorDiv) (rI Nh fun i j=>.int (i.fdiv j)):=LJ fun _ _ _ _ _ _ _ hc q=>floordiv_int hc.1 q (.inl (PyProof.noPylong_of_log2 hc.2))
noncomputable def insAt(k:Nat)(y:α)(xs:List α):List α:=xs.take k++y::xs.drop k
noncomputable def DM:V->List V->Hp->VK->Prop:=fun x vs H Q=>∃(l:Addr) (xs:List V) (k:Nat) (y:V),x=.ref l/\vs=[.int k,y]/\H l=some (.lst xs)/\k<=xs.length/\xs.length<sizeLine/\Q .non (upd H l (.lst (insAt k y xs)))
theorem N7:oE X "list.insert" DM:=by
 intro Ac s σ H x vs v us Q I rx rv h;obtain⟨l,xs,k,y,rfl,rfl,hH,hk,hz,q⟩:=h;cases rx;obtain⟨u1,u2,rfl,r1,r2⟩:=Zo rv;obtain⟨t,rfl⟩:=r1;obtain⟨z,its,n,r,hl,e⟩:=I.lstM hH
 have hsl:((k:Nat):Int)<2 ^ 63:=by
  have h1:k<=sizeLine:=O9m
  have h2:sizeLine<=2 ^ 62:=by decide +kernel
  have h3:=qa1 h1 h2;omega
 have hfit:¬(!Builtin.List.listFitsIndex (k:Int))=true:=by
  rw[fitsIndex_both (by omega) hsl];exact qc0
 have hsz:its.toArray.size<=sizeLine:=by rw[qb4];omega
 obtain⟨ki,hki⟩:∃ki:Int,ki=(k:Int):=⟨_,rfl⟩
 rw[←hki]at hfit ⊢;have hm:=AutoSeq1.list_insert_list_int_val_1 l its.toArray n ki t u2 hfit hsz;refine call_meets F.slot_list_insert ⟨_,e,rfl⟩ F.entry_list_insert (F.args_list_insert_3 _ _ _) hm ⟨e,?_⟩;refine⟨.non,_,I.lset (its':=insAt k u2 its) hH e ?_ ?_ ?_,rfl,q⟩
 . have RS:k<=its.length:=O9m
   have hkn:ki.toNat=k:=O9m
   simp only[qb4,hkn];rw[if_neg (by omega),Nat.min_eq_left RS];apply Array.ext';simp only[insAt,Array.toList_append,Array.toList_push,Array.toList_extract,List.extract_eq_drop_take,List.drop_zero,Nat.sub_zero];rw[qp3,qk6 (i:=its.length-k) (by rw[qi3];omega)];rfl
 . exact(r.take k).append (.cons r2 (r.drop k))
 . unfold insAt;rw[qf3,qe4,qg0,qi3];omega
structure LB(K:Frag)(D:Addr)(m:Str)(f:Addr):Prop where
 rd:readsIn K D (.type "type")=true
 fc:findCls K (.ref D) (.type "type") m=some (.val (.ref f))
 ga:specialIn K (.ref D) "__getattribute__"=some (some (.builtin "type.__getattribute__"))
 kp:W.keepIn K (.ref f)=true
structure iG(P:Program)(w:World)(K:Frag)(mg:Str->Option Value)(base:Heap)(C:Addr)(m:Str)(ps:List Str)(k:Nat)(sp:Sp):Prop where
 ex:∃(f:Addr) (fd:FuncData),LB K C m f/\Ir K fd ps []/\By P w K mg base Ex k f fd ps sp
theorem dU{j k:Nat}{C:Addr}{ps:List Str}{sp:Sp}{x m:Str}{np apos pos:Pos}{e:Expr}{es:List Expr}{t:TA}{pl:Sem Bool}(h:iG X.prog X.w X.K X.mg X.base C m ps j sp)(hr:Et k X.A)(hg:Gl X x)(hm:X.mg x=some (.ref C))(ha:PA X (e::es) t)(hk:j<=k:=by decide)
 (hdb:(x==("__debug__":Str))=false:=by decide) (hst:starEach (e::es) X.env=(false,eval e X.env)::starEach es X.env:=by rfl) (hpl:(backTo pos (starEach es X.env)).any (·.1)=false:=by rfl)
 (ht:eval (.Call (.Attribute (.Name x np) m apos) (e::es) [] pos) X.env=(do
   let ov ←eval (.Name x np) X.env
   standAt apos.atName
   let (f,first) ←holding [ov] (getMethod ov m pl)
   callWith pos f first (backTo pos (starEach (e::es) X.env)) (backToKw pos (keywordEach [] X.env))):=by rfl) :
 PE X (.Call (.Attribute (.Name x np) m apos) (e::es) [] pos) (tCall sp [] E0 t):=by
 obtain⟨f,fd,B,hb,F⟩:=h.ex;intro Ac s σ H Q I h;refine ql0 (pl:=pl) (Pz I hg hm ?_ hdb) ht;refine method_cls I.kIn B.ga (cls_value I.kIn B.rd B.fc rfl ?_);refine qm3 (h₀:=X.base) I.ok.mod.kin B.kp (Dn (ha pos Ac _ σ H _ (I.tok _) h) fun us s1 ⟨vs,H1,I1,r,q⟩=>⟨I1.kIn,?_⟩) hst hpl;exact Ur F (hr.mono hk) hb .nil Wt I1 r q
end
end L2
namespace L2
open PySem PySem.Spec PyProof.Rows
section
variable{prog:Program}{w:World}{A:Around}{E:Value->Shared->Prop}{s:Shared}
theorem Jq{j t:Addr}{n:Nat}{vs:Array Value}{x:Value}{Q:Value->Shared->Prop}(g:s.heap.IsTupleIter j t n)(gt:s.heap.IsTuple t vs)(gx:vs[n]?=some x)
 (k:∀h',h'.IsTupleIter j t (n+1)->Heap.SameBut j s.heap h'->Q x { s with heap:=h' }):wpAny (model prog w) A (Builtin.SmallTypes.nextOf (.ref j)) Q E s:=by
 obtain⟨o,q1,q2,q3⟩:=id g;obtain⟨p,p1,_,m,p2⟩:=gt;unfold Builtin.SmallTypes.nextOf;refine qa6 (wpAny_callSpecial?_slot (name:=Str.ofString "__next__") g.typeIs qj8 (qo3 qj8 g.typeIs F.entry_tuple_iterator_next ?_ (F.args_tuple_iterator_next_1 _)));show wpAny _ _ (field (.ref j) 0>>=_) _ _ s;refine qa6 (qi1 q1 q3 (x:=.ref t) rfl ?_);show wpAny _ _ (if (Value.ref t==Value.none)=true then _ else _) _ _ s;rw[if_neg (show ¬((Value.ref t==Value.none)=true) from qc0)];show wpAny _ _ (field (.ref j) 1>>=_) _ _ s;refine qa6 (qi1 q1 q3 (x:=.int n 0) rfl ?_);show wpAny _ _ (seqItems? (.ref t)>>=_) _ _ s;refine qa6 (qj9 p1 p2 ?_);simp only[qb6,gx];refine qa6 (wpAny_setField q1 q3 (by simp) (qd8 ⟨x,rfl,qd8 (k _ ?_ (Heap.SameBut.update ..))⟩));exact⟨_,Heap.get?_update_self _ q1 (Obj.isFreed_of_fields (Obj.data_mapFields q3 _)),(Obj.cls_mapFields ..).trans q2,by rw[Obj.data_mapFields q3];simp[rawInt]⟩
theorem Rc{j t:Addr}{n:Nat}{vs:Array Value}{Q:Value->Shared->Prop}(hn:A.handled=none)(g:s.heap.IsTupleIter j t n)(gt:s.heap.IsTuple t vs)(gx:vs[n]?=none)
 (k:∀h' e,Heap.ExtBut j s.heap h'->(∃o,h'.get? e=some o/\o.cls=.type "StopIteration")->E (.ref e) { s with heap:=h' }):wpAny (model prog w) A (Builtin.SmallTypes.nextOf (.ref j)) Q E s:=by
 obtain⟨o,q1,q2,q3⟩:=id g;obtain⟨p,p1,_,m,p2⟩:=gt;unfold Builtin.SmallTypes.nextOf;refine qa6 (wpAny_callSpecial?_slot (name:=Str.ofString "__next__") g.typeIs qj8 (qo3 qj8 g.typeIs F.entry_tuple_iterator_next ?_ (F.args_tuple_iterator_next_1 _)));show wpAny _ _ (field (.ref j) 0>>=_) _ _ s;refine qa6 (qi1 q1 q3 (x:=.ref t) rfl ?_);show wpAny _ _ (if (Value.ref t==Value.none)=true then _ else _) _ _ s;rw[if_neg (show ¬((Value.ref t==Value.none)=true) from qc0)];show wpAny _ _ (field (.ref j) 1>>=_) _ _ s;refine qa6 (qi1 q1 q3 (x:=.int n 0) rfl ?_);show wpAny _ _ (seqItems? (.ref t)>>=_) _ _ s;refine qa6 (qj9 p1 p2 ?_);simp only[qb6,gx];refine qa6 (wpAny_rule (qa6 (wpAny_setField q1 q3 (by simp) ?_)));show wpAny _ _ (newExc (.type "StopIteration") []>>=_) _ _ _;refine qa6 ?_;simp only[newExc,newTuple];refine qa6 (wpAny_newObj_type ?_ (by size_fits));refine qa6 (m:=firstArgMember _ _) (wpAny_of_eq (a:=Value.none) (by first | rfl | (simp only[firstArgMember];rfl)) ?_);refine wpAny_newObj_type ?_ (by size_fits);simp only[raiseNew];refine qa6 (wpAny_handled ?_)
 first | rw[show A.in1.handled=none from hn] | rw[hn]
 refine qa6 (qd8 (wpAny_throw ?_));exact k _ _ (((Heap.SameBut.update ..).extBut.push _).push _) ⟨_,qb5 _ rfl,rfl⟩
theorem i5{z a b i1 i2 t1 t2:Addr}{n m:Nat}{xs ys:Array Value}{x y u v:Value}{Q:Value->Shared->Prop}(D:ZipApart z a b i1 i2 t1 t2)(gz:IsZip s.heap z a b .none)(ga:IsPair s.heap a (.ref i1) (.ref i2))(gb:IsPair s.heap b u v)
 (g1:s.heap.IsTupleIter i1 t1 n) (g2:s.heap.IsTupleIter i2 t2 m) (e1:s.heap.IsTuple t1 xs) (e2:s.heap.IsTuple t2 ys) (gx:xs[n]?=some x) (gy:ys[m]?=some y)
 (k:∀h',IsZip h' z a b (rawInt s.heap.objs.size)->IsPair h' b x y->h'.IsTupleIter i1 t1 (n+1)->h'.IsTupleIter i2 t2 (m+1)->IsPair h' s.heap.objs.size x y->h'.objs.size=s.heap.objs.size+1 →
   (∀c o,c≠z->c≠b->c≠i1->c≠i2->s.heap.get? c=some o->h'.get? c=some o)->Q (.ref s.heap.objs.size) { s with heap:=h' }) :
 wpAny (model prog w) A (Builtin.«zip.__next__» ⟨[.ref z],[]⟩) (fun fin s'=>∃r,fin=.done (.ret r)/\Q r s') E s:=by
 show wpAny _ _ (field (.ref z) 2>>=_) _ _ _;refine qa6 (qi1 gz rfl (x:=.bool false) rfl ?_);show wpAny _ _ (field (.ref z) 3>>=_) _ _ _;refine qa6 (qi1 gz rfl (x:=.ref a) rfl ?_);refine qa6 (qj9 ga rfl ?_);show wpAny _ _ (Builtin.SmallTypes.ownedTupleIsFree (.ref z)>>=_) _ _ _;refine qa6 ?_;unfold Builtin.SmallTypes.ownedTupleIsFree;refine qa6 (qi1 gz rfl (x:=.none) rfl (qd8 ?_));simp only[if_true];refine qa6 (wpAny_rule ?_);refine qa6 (qi1 gz rfl (x:=.ref b) rfl ?_);refine qa6 (qk9 gz (by simp) fun k1 HR w1=>?_)
 replace HR:IsZip k1 z a b .ellipsis:=HR
 refine qa6 ?_;simp only[List.zipIdx_cons,List.zipIdx_nil,List.forIn_cons,List.forIn_nil];refine qa6 (qa6 (wpAny_onRaise ?_));show wpAny _ _ (Builtin.SmallTypes.nextOf (.ref i1)>>=_) _ _ _;refine qa6 (Jq (g1.extBut w1.extBut D.i1z) (e1.extBut w1.extBut D.l1z) gx fun k2 f1 w2=>qd8 ?_);have PY:IsPair k2 b u v:=w2.extBut _ _ D.TOi1 (w1.extBut _ _ D.TOz gb);refine qa6 (qj9 PY rfl ?_);refine qa6 (wpAny_updateSeq_pair PY fun k3 nV w3=>?_)
 replace nV:IsPair k3 b x v:=nV
 refine qa6 (wpAny_letGo (qd8 ?_));refine qa6 (qa6 (wpAny_onRaise ?_));show wpAny _ _ (Builtin.SmallTypes.nextOf (.ref i2)>>=_) _ _ _;refine qa6 (Jq (((g2.extBut w1.extBut D.i2z).extBut w2.extBut D.i12.symm).extBut w3.extBut D.TOi2.symm) (((e2.extBut w1.extBut D.l2z).extBut w2.extBut D.l2i1).extBut w3.extBut D.l2TO) gy fun k4 f2 w4=>qd8 ?_);have pY:IsPair k4 b x v:=w4.extBut _ _ D.TOi2 nV;refine qa6 (qj9 pY rfl ?_);refine qa6 (wpAny_updateSeq_pair pY fun k5 lX w5=>?_)
 replace lX:IsPair k5 b x y:=lX
 refine qa6 (wpAny_letGo (qd8 (qd8 ?_)));refine qa6 (qj9 lX rfl ?_);refine qa6 (wpAny_newTuple ?_);have sz:k5.objs.size=s.heap.objs.size:=by rw[w5.1,w4.1,w3.1,w2.1,w1.1]
 have pX:IsZip k5 z a b .ellipsis:=w5.extBut _ _ D.TOz.symm (w4.extBut _ _ D.i2z.symm (w3.extBut _ _ D.TOz.symm (w2.extBut _ _ D.i1z.symm HR)));have kp:∀c o,c≠z->c≠b->c≠i1->c≠i2->s.heap.get? c=some o->k5.get? c=some o:=fun c o c1 c2 c3 c4 e=>w5.extBut _ _ c2 (w4.extBut _ _ c4 (w3.extBut _ _ c2 (w2.extBut _ _ c3 (w1.extBut _ _ c1 e))));have SR:k5.IsTupleIter i1 t1 (n+1):=((f1.extBut w3.extBut D.TOi1.symm).extBut w4.extBut D.i12).extBut w5.extBut D.TOi1.symm;have SQ:k5.IsTupleIter i2 t2 (m+1):=f2.extBut w5.extBut D.TOi2.symm;have lz:z<k5.objs.size:=qa9 pX;show wpAny _ _ (Builtin.SmallTypes.ownedTupleHandOut (.ref z) (.ref k5.objs.size)>>=_) _ _ _;refine qa6 ?_;unfold Builtin.SmallTypes.ownedTupleHandOut;have SN:IsZip (k5.push { cls:=.type "tuple",data:=.seq #[x,y] }) z a b .ellipsis:=qa2 _ pX;refine qa6 (qk9 SN (by simp) fun k7 NU w7=>?_)
 replace NU:IsZip k7 z a b (rawInt k5.objs.size):=NU
 refine qk9 NU (by simp) fun k8 LW w8=>?_
 replace LW:IsZip k8 z a b (rawInt k5.objs.size):=LW
 have up:∀c o,c≠z->k5.get? c=some o->k8.get? c=some o:=fun c o c1 e=>w8.extBut _ _ c1 (w7.extBut _ _ c1 (qa2 _ e));have gt:IsPair k8 k5.objs.size x y:=w8.extBut _ _ (qm4 lz) (w7.extBut _ _ (qm4 lz) (qb5 _ rfl));have s8:k8.objs.size=k5.objs.size+1:=by rw[w8.1,w7.1,qh2]
 rw[sz]at LW gt s8;refine qd8 ⟨_,rfl,?_⟩;show Q (.ref k5.objs.size) _;rw[sz];exact k k8 LW (up _ _ D.TOz lX) (SR.at fun o e=>up _ o D.i1z e) (SQ.at fun o e=>up _ o D.i2z e) gt s8 fun c o c1 c2 c3 c4 e=>up c o c1 (kp c o c1 c2 c3 c4 e)
theorem AV{z a b i1 i2 t1 t2:Addr}{n m:Nat}{xs ys:Array Value}{u v:Value}{Q:PySem.Fin->Shared->Prop}(hn:A.handled=none)(D:ZipApart z a b i1 i2 t1 t2)(gz:IsZip s.heap z a b .none)(ga:IsPair s.heap a (.ref i1) (.ref i2))(gb:IsPair s.heap b u v)
 (g1:s.heap.IsTupleIter i1 t1 n) (g2:s.heap.IsTupleIter i2 t2 m) (e1:s.heap.IsTuple t1 xs) (e2:s.heap.IsTuple t2 ys) (gx:xs[n]?=none)
 (k:∀h' e,(∀c o,c≠z->c≠b->c≠i1->c≠i2->s.heap.get? c=some o->h'.get? c=some o)->(∃o,h'.get? e=some o/\o.cls=.type "StopIteration")->E (.ref e) { s with heap:=h' }) :
 wpAny (model prog w) A (Builtin.«zip.__next__» ⟨[.ref z],[]⟩) Q E s:=by
 show wpAny _ _ (field (.ref z) 2>>=_) _ _ _;refine qa6 (qi1 gz rfl (x:=.bool false) rfl ?_);show wpAny _ _ (field (.ref z) 3>>=_) _ _ _;refine qa6 (qi1 gz rfl (x:=.ref a) rfl ?_);refine qa6 (qj9 ga rfl ?_);show wpAny _ _ (Builtin.SmallTypes.ownedTupleIsFree (.ref z)>>=_) _ _ _;refine qa6 ?_;unfold Builtin.SmallTypes.ownedTupleIsFree;refine qa6 (qi1 gz rfl (x:=.none) rfl (qd8 ?_));simp only[if_true];refine qa6 (wpAny_rule ?_);refine qa6 (qi1 gz rfl (x:=.ref b) rfl ?_);refine qa6 (qk9 gz (by simp) fun k1 HR w1=>?_)
 replace HR:IsZip k1 z a b .ellipsis:=HR
 refine qa6 ?_;simp only[List.zipIdx_cons,List.zipIdx_nil,List.forIn_cons,List.forIn_nil];refine qa6 (qa6 (wpAny_onRaise ?_));show wpAny _ _ (Builtin.SmallTypes.nextOf (.ref i1)>>=_) _ _ _;refine qa6 (Rc hn (g1.extBut w1.extBut D.i1z) (e1.extBut w1.extBut D.l1z) gx fun k2 e w2 he=>?_);obtain⟨oe,ge,ce⟩:=he;have PX:IsZip k2 z a b .ellipsis:=w2 _ _ D.i1z.symm HR;have ne:e≠z:=fun q=>by subst q;rw[PX]at ge;cases ge;simp at ce
 refine qk9 PX (by simp) fun k3 _ w3=>k k3 e (fun c o c1 _ c3 _ q=>w3.extBut _ _ c1 (w2 _ _ c3 (w1.extBut _ _ c1 q))) ⟨oe,w3.extBut _ _ ne ge,ce⟩
theorem Rb{z a b i1 i2 t1 t2:Addr}{n m:Nat}{xs ys:Array Value}{x y u v:Value}{Q:Option Value->Shared->Prop}(D:ZipApart z a b i1 i2 t1 t2)(gz:IsZip s.heap z a b .none)(ga:IsPair s.heap a (.ref i1) (.ref i2))(gb:IsPair s.heap b u v)
 (g1:s.heap.IsTupleIter i1 t1 n) (g2:s.heap.IsTupleIter i2 t2 m) (e1:s.heap.IsTuple t1 xs) (e2:s.heap.IsTuple t2 ys) (gx:xs[n]?=some x) (gy:ys[m]?=some y)
 (k:∀h',IsZip h' z a b (rawInt s.heap.objs.size)->IsPair h' b x y->h'.IsTupleIter i1 t1 (n+1)->h'.IsTupleIter i2 t2 (m+1)->IsPair h' s.heap.objs.size x y->h'.objs.size=s.heap.objs.size+1 →
   (∀c o,c≠z->c≠b->c≠i1->c≠i2->s.heap.get? c=some o->h'.get? c=some o)->Q (some (.ref s.heap.objs.size)) { s with heap:=h' }):wpAny (model prog w) A (pyNext (.ref z)) Q E s:=by
 have ht:s.TypeIs (.ref z) "zip":=⟨_,gz,rfl⟩
 unfold pyNext;exact qa6 (wpAny_attempt (wpAny_callSpecial?_slot (name:=Str.ofString "__next__") ht qp0 (qo3 qp0 ht F.entry_zip_next (i5 D gz ga gb g1 g2 e1 e2 gx gy fun h' a1 a2 a3 a4 a5 a6 a7=>qd8 (k h' a1 a2 a3 a4 a5 a6 a7)) (F.args_zip_next_1 _))))
theorem Si{z a b i1 i2 t1 t2:Addr}{n m:Nat}{xs ys:Array Value}{u v:Value}{Q:Option Value->Shared->Prop}(hn:A.handled=none)(D:ZipApart z a b i1 i2 t1 t2)(gz:IsZip s.heap z a b .none)(ga:IsPair s.heap a (.ref i1) (.ref i2))(gb:IsPair s.heap b u v)
 (g1:s.heap.IsTupleIter i1 t1 n) (g2:s.heap.IsTupleIter i2 t2 m) (e1:s.heap.IsTuple t1 xs) (e2:s.heap.IsTuple t2 ys) (gx:xs[n]?=none)
 (k:∀h',(∀c o,c≠z->c≠b->c≠i1->c≠i2->s.heap.get? c=some o->h'.get? c=some o)->Q none { s with heap:=h' }):wpAny (model prog w) A (pyNext (.ref z)) Q E s:=by
 have ht:s.TypeIs (.ref z) "zip":=⟨_,gz,rfl⟩
 unfold pyNext;refine qa6 (wpAny_attempt (wpAny_callSpecial?_slot (name:=Str.ofString "__next__") ht qp0 (qo3 qp0 ht F.entry_zip_next (AV hn D gz ga gb g1 g2 e1 e2 gx fun h' e kp he=>?_) (F.args_zip_next_1 _))));obtain⟨o,q1,q2⟩:=he;exact qa6 (wpAny_isInstance (T:="StopIteration") (b:=true) ⟨o,q1,q2⟩ isSubtype_stop (qd8 (k _ kp)))
end
noncomputable abbrev zt1(h:Heap)(a:Addr):Heap:=h.push { cls:=.type "tuple_iterator",data:=.fields #[.ref a,.int 0 0] }
noncomputable abbrev lD(h:Heap)(a b:Addr):Heap:=(zt1 h a).push { cls:=.type "tuple_iterator",data:=.fields #[.ref b,.int 0 0] }
noncomputable abbrev LC(h:Heap)(a b:Addr):Heap:=(lD h a b).push { cls:=.type "tuple",data:=.seq #[.ref h.objs.size,.ref (zt1 h a).objs.size] }
noncomputable abbrev lC(h:Heap)(a b:Addr):Heap:=(LC h a b).push { cls:=.type "tuple",data:=.seq #[.none,.none] }
noncomputable abbrev gA(h:Heap)(a b:Addr):Heap:=(lC h a b).push { cls:=.type "zip",data:=.fields #[.none,.bool false,.bool false,.ref (lD h a b).objs.size,.ref (LC h a b).objs.size] }
theorem aV(a b:Addr)(xs ys:Array Value):Meets (Builtin.«zip.__new__» ⟨[.type "zip",.ref a,.ref b],[]⟩) (fun _ R s=>s.heap.IsTuple a xs/\s.heap.IsTuple b ys/\R (.ok (.ret (.ref (lC s.heap a b).objs.size))) { s with heap:=gA s.heap a b }) :=
 .of_wp fun prog w A R s h=>by
  obtain⟨hp,g,d,tk,os⟩:=s;obtain⟨h1,h2,h⟩:=h;have hsub:=sub_zip;have g1:Heap.IsTuple (Shared.heap ⟨hp,g,d,tk,os⟩) a xs:=h1;have g2:Heap.IsTuple (Shared.heap ⟨hp.push { cls:=.type "tuple_iterator",data:=.fields #[.ref a,.int 0 0] },g,d,tk,os⟩) b ys:=Heap.IsTuple.push h2 _
  wp_walk using wpAny_pyIter_tuple g1,wpAny_pyIter_tuple g2
  exact⟨_,rfl,h⟩
section
variable{prog:Program}{w:World}{A:Around}{E:Value->Shared->Prop}{s:Shared}
theorem AI{a b:Addr}{xs ys:Array Value}{Q:Value->Shared->Prop}(h1:s.heap.IsTuple a xs)(h2:s.heap.IsTuple b ys)
 (k:∀h',IsZip h' (s.heap.objs.size+4) (s.heap.objs.size+2) (s.heap.objs.size+3) .none->IsPair h' (s.heap.objs.size+2) (.ref s.heap.objs.size) (.ref (s.heap.objs.size+1)) →
   IsPair h' (s.heap.objs.size+3) .none .none->h'.IsTupleIter s.heap.objs.size a 0->h'.IsTupleIter (s.heap.objs.size+1) b 0->h'.objs.size=s.heap.objs.size+5 →
   (∀c o,s.heap.get? c=some o->h'.get? c=some o)->Q (.ref (s.heap.objs.size+4)) { s with heap:=h' }):wpAny (model prog w) A (call (.type "zip") [.ref a,.ref b]) Q E s:=by
 refine callType_new F.called_zip (by decide) (F.typeCall_zip_2 _ _) (F.newCall_zip_2 _ _) (fun obj=>F.args_object_init_3 obj _ _) F.entry_zip_new (aV a b xs ys) ⟨h1,h2,?_⟩;have z1:(zt1 s.heap a).objs.size=s.heap.objs.size+1:=qh2 ..;have z2:(lD s.heap a b).objs.size=s.heap.objs.size+2:=by rw[qh2,z1]
 have z3:(LC s.heap a b).objs.size=s.heap.objs.size+3:=by rw[qh2,z2]
 have z4:(lC s.heap a b).objs.size=s.heap.objs.size+4:=by rw[qh2,z3]
 have z5:(gA s.heap a b).objs.size=s.heap.objs.size+5:=by rw[qh2,z4]
 have q5:(gA s.heap a b).get? (lC s.heap a b).objs.size=some _:=qb5 _ rfl;have q4:(gA s.heap a b).get? (LC s.heap a b).objs.size=some _:=qa2 _ (qb5 _ rfl);have q3:(gA s.heap a b).get? (lD s.heap a b).objs.size=some _:=qa2 _ (qa2 _ (qb5 _ rfl));have q2:(gA s.heap a b).get? (zt1 s.heap a).objs.size=some _:=qa2 _ (qa2 _ (qa2 _ (qb5 _ rfl)));have q1:(gA s.heap a b).get? s.heap.objs.size=some _:=qa2 _ (qa2 _ (qa2 _ (qa2 _ (qb5 _ rfl))));show _/\_;rw[z2,z3,z4]at q5;rw[z1,z2]at q3;rw[z3]at q4;rw[z1]at q2;rw[z4];exact⟨⟨_,q5,rfl⟩,k _ q5 q3 q4 ⟨_,q1,rfl,rfl⟩ ⟨_,q2,rfl,rfl⟩ z5 fun c o x=>qa2 _ (qa2 _ (qa2 _ (qa2 _ (qa2 _ x))))⟩
end
noncomputable def Ityp(K:W.Frag)(a b:Addr):It :=
 ⟨fun i H=>∃xs ys x y,Du K H a xs/\Du K H b ys/\xs[i]?=some x/\ys[i]?=some y,
  fun i H v H'=>∃p x y,H p=none/\v=.ref p/\H'=upd H p (.tup [x,y])/\(∀xs,Du K H a xs->xs[i]?=some x)/\∀ys,Du K H b ys->ys[i]?=some y,
  fun i H=>∃xs ys,Du K H a xs/\Du K H b ys/\xs.length<=i⟩
theorem i6{P:Program}{w:World}{K:W.Frag}{es:List Expr}{x1:Nat}{tpos:Pos}(a b z TI TO i1 i2:Addr)(D:ZipApart z TI TO i1 i2 a b) :
 S3 P w K (.Tuple es x1 tpos) (Ityp K a b) [z,TI,TO,i1,i2] z (fun i h=>IsZip h z TI TO .none/\IsPair h TI (.ref i1) (.ref i2)/\(∃c d,IsPair h TO c d)/\h.IsTupleIter i1 a i/\h.IsTupleIter i2 b i) where
 mem:=by simp
 obj:=fun i h st c hc=>by
  obtain⟨hz,hTI,⟨u,v,hTO⟩,⟨o1,h1,c1,d1⟩,⟨o2,h2,c2,d2⟩⟩:=st;simp only[qc6,qf9,or_false]at hc;rcases hc with rfl | rfl | rfl | rfl | rfl
  . exact⟨_,hz,fun v q=>by cases (show Data.fields _=Data.cell v from q)⟩
  . exact⟨_,hTI,fun v q=>by cases (show Data.seq _ _=Data.cell v from q)⟩
  . exact⟨_,hTO,fun v q=>by cases (show Data.seq _ _=Data.cell v from q)⟩
  . exact⟨o1,h1,fun v q=>by rw[d1]at q;cases q⟩
  . exact⟨o2,h2,fun v q=>by rw[d2]at q;cases q⟩
 keep:=fun i h h' st k=>by
  obtain⟨hz,hTI,⟨u,v,hTO⟩,h1,h2⟩:=st;exact⟨k z (by simp) _ hz,k TI (by simp) _ hTI,⟨u,v,k TO (by simp) _ hTO⟩,h1.at fun o q=>k i1 (by simp) o q,h2.at fun o q=>k i2 (by simp) o q⟩
 item:=by
  intro X hP hw hK hc i Ac s σ H E I hf st hg;subst hP hw hK;obtain⟨hz,hTI,⟨u0,v0,hTO⟩,h1,h2⟩:=st;obtain⟨xs,ys,x,y,Xb,y3,hx,hy⟩:=hg;obtain⟨ia,ra,pa,_⟩:=I.tuple Xb;obtain⟨ib,rb,pb,_⟩:=I.tuple y3;obtain⟨u,hu,ru⟩:=ra.get hx;obtain⟨v,hv,rv⟩:=rb.get hy;have hfresh:H s.heap.objs.size=none:=I.hok.fresh (qa0 _);have JX:=qa9 hz;refine Rb D hz hTI hTO h1 h2 (show s.heap.IsTuple a ia.toArray from pa) (show s.heap.IsTuple b ib.toArray from pb) (x:=u) (y:=v) (by simpa using hu) (by simpa using hv) fun h' hz' HN fS h2' htup hsz hk=>?_;refine⟨_,rfl,wpAny_letOwnedTupleGo_zip hz' fun h3 MZ Od=>?_⟩
  replace Od:Heap.SameBut z h' h3:=Od
  have kk:∀c o,c ∉ [z,TI,TO,i1,i2]->s.heap.get? c=some o->h3.get? c=some o:=fun c o hc e=>by
   simp only[qc6,qf9,or_false,not_or]at hc;obtain⟨n1,n2,n3,n4,n5⟩:=hc;exact(Od.2 c n1).trans (hk c o n1 n3 n4 n5 e)
  have kF:h3.get? s.heap.objs.size=some { cls:=.type "tuple",data:=.seq #[u,v] }:=(Od.2 _ (qm4 JX)).trans htup;have hi1:h3.IsTupleIter i1 a (i+1):=fS.at fun o e=>(Od.2 i1 D.i1z).trans e;have hi2:h3.IsTupleIter i2 b (i+1):=h2'.at fun o e=>(Od.2 i2 D.i2z).trans e;have HP:IsPair h3 TI (.ref i1) (.ref i2):=(Od.2 TI D.TIz).trans (hk _ _ D.TIz D.TITO D.TIi1 D.TIi2 hTI);have HM:IsPair h3 TO u v:=(Od.2 TO D.TOz).trans HN;have t9:∀c o,H c=some o->c ∉ [z,TI,TO,i1,i2]:=fun c o e hm=>by rw[(hf c hm).1]at e;cases e
  have W3:∀c o,H c=some o->c≠s.heap.objs.size:=fun c o e=>Bb e hfresh;refine⟨.ref s.heap.objs.size,upd H s.heap.objs.size (.tup [x,y]),?_,rfl,⟨s.heap.objs.size,x,y,hfresh,rfl,rfl,fun zs q=>by rw[I.tuple_inj q Xb];exact hx,fun zs q=>by rw[I.tuple_inj q y3];exact hy⟩,⟨MZ,HP,⟨_,_,HM⟩,hi1,hi2⟩,fun c hc=>?_⟩
  . refine Bk.step (s:=s) (h':=h3) (t':=s.toks) (H':=upd H s.heap.objs.size (.tup [x,y])) I (g':=s.gens) (d':=s.drawn) (ch:=[z,TI,TO,i1,i2]) (fun c hc=>?_) (fun c o _ _ hc e _=>kk c o hc e) (fun c o _ _ hc e _=>⟨o.slots,kk c o hc e⟩) (fun c o hc e n=>?_) (fun c o hc e=>⟨o,kk c o hc e⟩)
     (fun c zs e=>by rw[As (W3 c _ e)];exact e) (fun c o w' e=>by rw[As (W3 c _ e)];exact e) (fun c ps e=>⟨#[],by rw[As (W3 c _ e),e];simp⟩) (fun m hm=>?_) (fun c w' e=>?_) I.bare
    . have f:=hf c hc;exact⟨f.2.2.2.1,f.2.1,f.2.2.2.2.1,f.2.2.2.2.2⟩
    . rw[As (qc4 (qa9 e))];exact n
    . obtain⟨o,es',ep,ho,r⟩:=hm;exact⟨o,es',ep,kk _ o (fun q=>(hf _ q).2.1 rfl) ho,r⟩
    . by_cases hcs:c=s.heap.objs.size
      . subst hcs;rw[Ae]at e;cases e;exact⟨(by show(2:Nat)<=sizeLine;decide),[u,v],.cons ru (.cons rv .nil),⟨_,kF,rfl,rfl,_,rfl⟩⟩
      . rw[As hcs]at e;refine(I.hok c w' e).stay (fun c' y' hc' q=>?_) (fun c' q=>by rw[As (W3 c' _ q)];exact q) fun c' zs q=>by rw[As (W3 c' _ q)];exact q
        rcases hc' with rfl | hc'
        . exact kk _ _ (t9 _ _ e) q
        . exact kk _ _ (t9 _ _ hc') q
  . have lb:c<s.heap.objs.size:=by
     simp only[qc6,qf9,or_false]at hc;obtain⟨o1,q1,_⟩:=h1;obtain⟨o2,q2,_⟩:=h2;rcases hc with rfl | rfl | rfl | rfl | rfl
     . exact JX
     . exact qa9 hTI
     . exact qa9 hTO
     . exact qa9 q1
     . exact qa9 q2
    rw[As (qc4 lb)];exact(hf c hc).1
 done:=by
  intro X hP hw hK hc i Ac s σ H E I hf st hg;subst hP hw hK;obtain⟨hz,hTI,⟨u0,v0,hTO⟩,h1,h2⟩:=st;obtain⟨xs,ys,Xb,y3,hx⟩:=hg;obtain⟨ia,ra,pa,_⟩:=I.tuple Xb;obtain⟨ib,rb,pb,_⟩:=I.tuple y3;have la:=ra.length;have lb:=rb.length;refine Si (I.ok.hd hc) D hz hTI hTO h1 h2 (show s.heap.IsTuple a ia.toArray from pa) (show s.heap.IsTuple b ib.toArray from pb) ?_ fun h' hk=>⟨rfl,I.turnedN (t':=s.toks) (fp:=[z,TI,TO,i1,i2]) (fun c o hc e=>?_) hf⟩
  . simp;omega
  . simp only[qc6,qf9,or_false,not_or]at hc;obtain⟨n1,n2,n3,n4,n5⟩:=hc;exact hk c o n1 n3 n4 n5 e
 self:=fun _ _ _ _ _ st h=>qo2 st.1 h
noncomputable def kB(K:W.Frag)(ta:TA):TI:=fun σ H R=>ta σ H fun vs H1=>∃a b,vs=[.ref a,.ref b]/\(∃xs,Du K H1 a xs)/\(∃ys,Du K H1 b ys)/\R (Ityp K a b) H1
theorem Zd:bootBuiltins "zip"=some (.type "zip"):=by decide +kernel
theorem dQ{X:Cx}{K:W.Frag}{es:List Expr}{x1:Nat}{tpos:Pos}{a b:Expr}{ta:TA}{p pos:Pos}(hg:Gl X "zip")(hm:X.mg "zip"=none)(ha:PA X [a,b] ta)(hK:X.K=K:=by rfl)(hs:starEach [a,b] X.env=[(false,eval a X.env),(false,eval b X.env)]:=by rfl)(hs2:starEach [b] X.env=[(false,eval b X.env)]:=by rfl) :
 PI X (.Tuple es x1 tpos) (.Call (.Name "zip" p) [a,b] [] pos) (kB K ta):=by
 subst hK;intro Ac s σ H R I h;refine Call_ (Jd I hg hm Zd (qf0 (Dn (ha pos Ac s σ H _ I h) fun us s1 ⟨vs,H1,I1,r1,q1⟩=>?_) (by rw[hs,hs2]) (by rw[hs2];rfl)));obtain⟨la,lb,e,⟨xs,Xb⟩,⟨ys,y3⟩,q⟩:=q1;subst e;cases r1 with
 | cons ra rr =>
   cases rr with
   | cons rb rr =>
     cases rr;cases ra;cases rb;obtain⟨ia,_,pa,_⟩:=I1.tuple Xb;obtain⟨ib,_,pb,_⟩:=I1.tuple y3;have a1:la<s1.heap.objs.size:=by obtain⟨_,e,_⟩:=pa;exact qa9 e
     have a2:lb<s1.heap.objs.size:=by obtain⟨_,e,_⟩:=pb;exact qa9 e
     refine AI (show s1.heap.IsTuple la ia.toArray from pa) (show s1.heap.IsTuple lb ib.toArray from pb) fun h' hz hTI hTO hi1 hi2 hsz hk=>?_;refine qo2 hz ⟨s1.heap.objs.size+4,[s1.heap.objs.size+4,s1.heap.objs.size+2,s1.heap.objs.size+3,s1.heap.objs.size,s1.heap.objs.size+1],_,_,H1,rfl,I1.kept (t':=s1.toks) hk,i6 la lb _ _ _ _ _ (zipApart_new a1 a2),⟨hz,hTI,⟨_,_,hTO⟩,hi1,hi2⟩,fun c hc=>?_,q⟩
     have lc:s1.heap.objs.size<=c:=by
      simp only[qc6,qf9,or_false]at hc;rcases hc with rfl | rfl | rfl | rfl | rfl
      . exact qc9 _ _
      . exact qc9 _ _
      . exact qc9 _ _
      . exact qa0 _
      . exact qc9 _ _
     exact I1.fpOk lc (I1.hok.fresh lc)
section
variable{g:TG}{tc:TT}{te:TE}{D:Addr}{Q:Hp->Prop}{τ:St}{H:Hp}
theorem aF{K:W.Frag}{a b:Addr}{xs ys:List V}{n:Nat}(hn:xs.length=n/\ys.length=n)(Pv:Nat->List V->St->Hp->Prop)(h0:Pv 0 [] τ H)(hl:∀i zs τ H,i<=n->Pv i zs τ H->Du K H a xs/\Du K H b ys)
 (hs:∀i x y zs τ H p,xs[i]?=some x->ys[i]?=some y->Pv i zs τ H->H p=none->g (.ref p) τ (upd H p (.tup [x,y])) fun τ2 H2=>tc τ2 H2 fun b H3=>if b=true then te τ2 H3 fun y H4=>H4 D=some (.lst zs)/\zs.length<sizeLine/\Pv (i+1) (zs++[y]) τ2 (upd H4 D (.lst (zs++[y]))) else Pv (i+1) zs τ2 H3)
 (hd:∀zs τ H,Pv n zs τ H->Q H):Ng (Ityp K a b) g tc te D Q τ H:=by
 refine⟨fun i m zs τ H=>m=n-i/\i<=n/\Pv i zs τ H,⟨n,by simp,qa5 _,h0⟩,?_⟩;rintro i m zs τ H ⟨rfl,hi,pp⟩;obtain⟨qa,qb⟩:=hl i zs τ H hi pp;by_cases hlt:i<n
 . refine .inr ⟨⟨xs,ys,xs[i],ys[i],qa,qb,by simp<;>omega,by simp<;>omega⟩,Pv (i+1),fun ys' τ' H' p'=>⟨n-(i+1),O9m,rfl,hlt,p'⟩,fun x H' y=>?_⟩;obtain⟨p,u,v,hp,rfl,rfl,y1,y2⟩:=y;exact hs i u v zs τ _ p (y1 xs qa) (y2 ys qb) pp hp
 . have e:i=n:=O9m
   subst e;exact .inl ⟨⟨xs,ys,qa,qb,O9m⟩,hd zs τ H pp⟩
end
section
variable{κ:Type}[DecidableEq κ]
end
noncomputable abbrev KT(H:Hp):List (List Key × V)->List (List Key × Addr × Value)->Prop:=Paired fun p q=>p.1=q.1/\H q.2.1=some (.tup (p.1.map kV))/\RelV p.2 q.2.2
section
variable{P:Program}{w:World}{H:Hp}{h:Heap}{a:Addr}
end
section
variable{X:Cx}{Ac:Bj}{σ:St}{H:Hp}{s:Shared}{a:Addr}{y v:V}{u r:Value}{o:Option V}{A:Around}{E:Value->Shared->Prop}
end
section
variable{X:Cx}{Ac:Bj}{σ:St}{H:Hp}{s:Shared}{a:Addr}{Tq:List (Key × V)}{k:Key}{u:Value}{A:Around}{E:Value->Shared->Prop}
end
section
variable{X:Cx}{o i e value:Expr}{pos pos' tpos:Pos}{td ty tv:TE}
end
section
variable{X:Cx}{pos:Pos}
end
structure M2(X:Cx)(o:Expr)(m:Str)(apos:Pos)(e f:Expr)(cpos:Pos):Prop where
 base:attributeBase o m X.env (eval o X.env)=eval o X.env
 few:((backTo cpos (starEach [e,f] X.env)).all (fun x=>!x.1)&&(backToKw cpos (keywordEach [] X.env)).all (fun x=>x.1.isSome)
  && decide (([e,f]:List Expr).length+([]:List Keyword).length+(if ([]:List Keyword).isEmpty then 0 else 1)<30))=true
 line:(apos.endLine==cpos.line)=true
 trees:backTo cpos (starEach [e,f] X.env)=[(false,eval e X.env),(false,eval f X.env)]
section
variable{X:Cx}{Ac:Bj}{σ:St}{H:Hp}{s:Shared}{a:Addr}{y d:V}{u r:Value}{o:Option V}{A:Around}{E:Value->Shared->Prop}
end
section
variable{X:Cx}{o e f:Expr}{apos cpos:Pos}{td ty tx:TE}
end
section
variable{X:Cx}{Ac:Bj}{σ:St}{H:Hp}{s:Shared}{a:Addr}{Tq:List (Key × V)}{A:Around}{E:Value->Shared->Prop}
end
section
variable{X:Cx}{Ac:Bj}{σ:St}{H:Hp}{s:Shared}{a:Addr}{y:V}{u:Value}{A:Around}{E:Value->Shared->Prop}
end
section
variable{X:Cx}
end
end L2
namespace L2
open PySem PySem.Spec PyProof.Rows PySem.SeqAt
end L2
namespace L2
open PySem PySem.Spec PyProof.Rows
section
variable{prog:Program}{w:World}{A:Around}{E:Value->Shared->Prop}
variable{KT:Type}[DecidableEq KT]{knd:KeyKind prog w KT}
end
end L2
namespace L2
open PySem PySem.Spec PyProof.Rows PySem.SeqAt
end L2
namespace L2
open PySem PySem.Spec PyProof.Rows
section
variable{X:Cx}{Ac:Bj}{σ:St}{H:Hp}{s:Shared}{a:Addr}{Tq:List (Key × V)}
end
section
variable{g:TG}{tc:TT}{te:TE}{D:Addr}{Q:Hp->Prop}{τ:St}{H:Hp}
end
end L2
namespace L2
open PySem PySem.Spec PyProof.Rows PySem.SeqAt
section
variable{X:Cx}{Ac:Bj}{σ:St}{H:Hp}{s:Shared}{a:Addr}{ms:List (Int × Int)}
end
section
variable{X:Cx}{n:Nat}{K:W.Frag}
end
end L2
namespace L2
open PySem PySem.Spec PyProof.Rows
theorem u1{n c:Nat}(h:n+8<c):n+1<c:=O9m
section
variable{P:Program}{w:World}{K:W.Frag}{mg:Str->Option Value}{base:Heap}
end
section
variable{X:Cx}{x:Str}{ps:List Str}{j k:Nat}{sp:Sp}{p pos:Pos}{e:Expr}{es:List Expr}{t:TA}
end
noncomputable def KZ(hi:Int)(n:Nat):It:=⟨fun i _=>i<n,fun i H x H'=>H'=H/\x=.int (hi-i),fun i _=>n<=i⟩
theorem Ka(a b:Int):Builtin.Range.rangeSize a b (-1)=if b<a then a-b else 0:=by
 unfold Builtin.Range.rangeSize;rw[if_neg (by decide)];split
 . show(a-b-1) / 1+1=a-b;rw[Int.ediv_one];omega
 . rfl
theorem X6{a b:Int}(ha:-(2 ^ 61)<=a)(ha':a<2 ^ 61)(hb:-(2 ^ 61)<=b)(hb':b<2 ^ 61):Builtin.Range.small a b (-1)=true:=by
 unfold Builtin.Range.small;rw[Ka];simp only[Builtin.Range.rangeFitsLong,qe5,Bool.or_eq_true,decide_eq_true_eq,qp2];split<;>simp<;>omega
theorem j3{P:Program}{w:World}{K:W.Frag}{tg:Expr}(it:Addr)(hi:Int)(n:Nat):S3 P w K tg (KZ hi n) [it] it (fun i h=>IsRangeIter h it (hi+(i:Nat)*(-1)) ((n:Int)-(i:Nat)) (-1)) where
 mem:=by simp
 obj:=fun i h st b hb=>by
  have e:b=it:=by simpa using hb
  subst e
  exact⟨_,st,fun v z=>by
   have z':Data.fields _=Data.cell v:=z;cases z'⟩
 keep:=fun i h h' st k=>k it (by simp) _ st
 item:=by
  intro X hP hw hK hc i Ac s σ H E I hf st hg;subst hP hw hK;obtain⟨f0,f1,f2,f3,f4,f5⟩:=hf it (by simp);have W:=Walks.range (prog:=X.prog) (w:=X.w) (I.ok.hd hc) it hi (-1) n;refine W.item i s _ _ hg st fun v h' tk hv st' kk=>?_;obtain⟨t,rfl⟩:=hv;have I1:Bk X Ac σ H { s with heap:=h',toks:=tk }:=I.turned (fun b o hb e=>kk b o (by simpa using hb) e) f0 f1 f3 f4 f5;refine⟨_,rfl,b8 (s:={ s with heap:=h',toks:=tk }) (n:="range_iterator") st' rfl rfl (by decide) ⟨.int (hi-i),H,I1,⟨t,?_⟩,⟨rfl,rfl⟩,st',fun b hb=>(hf b hb).1⟩⟩;rw[show hi+(i:Int)*(-1)=hi-i by omega]
 done:=by
  intro X hP hw hK hc i Ac s σ H E I hf st hg;subst hP hw hK;obtain⟨f0,f1,f2,f3,f4,f5⟩:=hf it (by simp);exact wpAny_pyNext_range_end (I.ok.hd hc) st (by have:n<=i:=hg;omega) fun h' eb=>⟨rfl,I.turned (t':=s.toks) (fun b o hb e=>eb b o hb e) f0 f1 f3 f4 f5⟩
 self:=fun _ _ _ _ _ st h=>wpAny_pyIter_rangeiter st h
noncomputable def kE(ta:TA):TI:=fun σ H R=>ta σ H fun vs H1=>∃(n:Nat),vs=[.int ((n:Int)-1),.int (-1),.int (-1)]/\n<=1000000/\R (KZ ((n:Int)-1) n) H1
theorem dR{X:Cx}{tg:Expr}{a b c:Expr}{ta:TA}{p pos:Pos}(hg:Gl X "range")(hm:X.mg "range"=none)(ha:PA X [a,b,c] ta)(hs:starEach [a,b,c] X.env=[(false,eval a X.env),(false,eval b X.env),(false,eval c X.env)]:=by rfl)(hs2:starEach [b,c] X.env=[(false,eval b X.env),(false,eval c X.env)]:=by rfl) :
 PI X tg (.Call (.Name "range" p) [a,b,c] [] pos) (kE ta):=by
 intro Ac s σ H R I h;refine Call_ (Jd I hg hm boot_range (qf0 (Dn (ha pos Ac s σ H _ I h) fun us s1 ⟨vs,H1,I1,r1,q1⟩=>?_) (by rw[hs,hs2]) (by rw[hs2];rfl)));obtain⟨n,e,hn,q⟩:=q1;subst e;cases r1 with
 | cons r rr =>
   cases rr with
   | cons r' rr =>
     cases rr with
     | cons r'' rr =>
     cases rr;obtain⟨t,rfl⟩:=r;obtain⟨t',rfl⟩:=r';obtain⟨t'',rfl⟩:=r'';refine call_range_3 (by decide) ?_ (Or.inl (PyProof.noPylong_small O9m));refine wpAny_pyIter_range (IsRange.new ..) (X6 O9m O9m O9m O9m) ?_;have I2:Bk X Ac σ H1 { s1 with heap:=s1.heap.push { cls:=.type "range",data:=.fields #[.int ((n:Int)-1) t,.int (-1) t',.int (-1) t''] },toks:=s1.toks }:=I1.kept fun b o e=>qa2 _ e
     refine⟨(s1.heap.push { cls:=.type "range",data:=.fields #[.int ((n:Int)-1) t,.int (-1) t',.int (-1) t''] }).objs.size,[_],_,_,H1,rfl,
      I2.kept (t':=s1.toks) fun b o e=>qa2 _ e,j3 _ ((n:Int)-1) n,?_,fun b hb=>?_,q⟩
     . have e1:((n:Int)-1)+((0:Nat):Int)*(-1)=(n:Int)-1:=by simp
       have e2:(n:Int)-((0:Nat):Int)=Builtin.Range.rangeSize ((n:Int)-1) (-1) (-1):=by rw[Ka];split<;>omega
       show IsRangeIter _ _ (((n:Int)-1)+((0:Nat):Int)*(-1)) ((n:Int)-((0:Nat):Int)) (-1);rw[e1,e2];exact qb5 _ rfl
     . have e:b=(s1.heap.push { cls:=.type "range",data:=.fields #[.int ((n:Int)-1) t,.int (-1) t',.int (-1) t''] }).objs.size:=by simpa using hb
       subst e;exact I2.fpOk (qa0 _) (I2.hok.fresh (qa0 _))
theorem cD{hi:Int}{n:Nat}{g:TG}{tb:TS}{D:Ends}{σ:St}{H:Hp}(Pv:Nat->St->Hp->Prop)(h0:Pv 0 σ H)
 (hs:∀i σ H,i<n->Pv i σ H->g (.int (hi-i)) σ H fun σ2 H2=>tb { D with nx:=Pv (i+1),ct:=Pv (i+1),bk:=D.nx } σ2 H2) (hd:∀σ H,Pv n σ H->D.nx σ H) :
 ∃W:Nat->Nat->St->Hp->Prop,(∃m,W 0 m σ H)/\∀i m σ H,W i m σ H →
   ((KZ hi n).stop i H/\D.nx σ H)\/((KZ hi n).go i H/\∃N:St->Hp->Prop,(∀σ' H',N σ' H'->∃m',m'<m/\W (i+1) m' σ' H')/\∀x H',(KZ hi n).yld i H x H'->g x σ H' fun σ2 H2=>tb { D with nx:=N,ct:=N,bk:=D.nx } σ2 H2):=by
 refine⟨fun i m σ H=>m=n-i/\i<=n/\Pv i σ H,⟨n,by simp,qa5 _,h0⟩,?_⟩;rintro i m σ H ⟨hm,hi',hp⟩;by_cases hlt:i<n
 . refine .inr ⟨hlt,Pv (i+1),fun σ' H' h=>⟨n-(i+1),O9m,rfl,O9m,h⟩,?_⟩;rintro x H' ⟨rfl,rfl⟩;exact hs i σ _ hlt hp
 . refine .inl ⟨by show n<=i;omega,hd σ H (by have:i=n:=O9m
                                              subst this;exact hp)⟩
end L2
namespace Lat
open Hb
noncomputable abbrev Mat:=Nat->Nat->Int
theorem Bc{f:Nat->Int}{n:Nat}(h:∀k,k<n->f k=0):Ah f n=0:=by rw[Aj h,Nj]
theorem Bm{f:Nat->Int}:∀{n j:Nat},j<n->(∀k,k<n->k≠j->f k=0)->Ah f n=f j
 | n+1,j,hj,h=>by
   show Ah f n+f n=f j;by_cases e:j=n
   . subst e;rw[Bc fun k hk=>h k (by omega) (by omega)];omega
   . rw[Bm (n:=n) (j:=j) (by omega) fun k hk=>h k (by omega),h n (by omega) (fun z=>e z.symm)];omega
noncomputable def In(w n:Nat)(R:Mat)(v:Nat->Int):Prop:=∃x:Nat->Int,∀c,c<w->v c=Ah (fun k=>x k*R k c) n
theorem In.row{w n:Nat}{R:Mat}{j:Nat}(hj:j<n):In w n R (R j):=⟨fun k=>if k=j then 1 else 0,fun c _=>by
 rw[B7 (fun k=>R k c) j n,if_pos hj]⟩
theorem In.zero(w n:Nat)(R:Mat):In w n R (fun _=>0):=⟨fun _=>0,fun c _=>by rw[Bc];intro k _;simp⟩
theorem In.mix{w n:Nat}{R:Mat}{u v:Nat->Int}(hu:In w n R u)(hv:In w n R v)(a b:Int):In w n R (fun c=>a*u c+b*v c):=by
 obtain⟨x,hx⟩:=hu;obtain⟨y,hy⟩:=hv;refine⟨fun k=>a*x k+b*y k,fun c hc=>?_⟩;show a*u c+b*v c=_;rw[hx c hc,hy c hc,←Ay,←Ay,←B9];refine Aj fun k _=>?_;rw[Int.add_mul,qe0,qe0]
theorem In.congr{w n:Nat}{R:Mat}{u v:Nat->Int}(hu:In w n R u)(h:∀c,c<w->u c=v c):In w n R v:=by
 obtain⟨x,hx⟩:=hu;exact⟨x,fun c hc=>by rw[←h c hc];exact hx c hc⟩
structure Db(w r:Nat)(R:Mat)(t:Nat->Nat):Prop where
 lt:∀j,j<r->t j<w
 inc:∀j k,j<k->k<r->t j<t k
 zero:∀j c,j<r->c<t j->R j c=0
 pos:∀j,j<r->0<R j (t j)
 red:∀k j,k<j->j<r->0<=R k (t j)/\R k (t j)<R j (t j)
theorem Db.mono{w r:Nat}{R:Mat}{t:Nat->Nat}(h:Db w r R t):∀j k,j<=k->k<r->t j<=t k:=fun j k h1 h2=>by
 rcases qe3 j k with z | z
 . exact qc2 (h.inc j k z h2)
 . rw[show j=k by omega];exact qa0 _
theorem Db.ge{w r:Nat}{R:Mat}{t:Nat->Nat}(h:Db w r R t):∀j,j<r->j<=t j
 | 0,_=>qa5 _
 | j+1,hj=>by
   have:=h.ge j O9m;have:=h.inc j (j+1) O9m hj;omega
theorem Db.lead{w r:Nat}{R:Mat}{t:Nat->Nat}(h:Db w r R t){v x:Nat->Int}(hx:∀c,c<w->v c=Ah (fun k=>x k*R k c) r) :
 ∀j,j<=r->(∀k,k<j->v (t k)=0)->(∀k,k<j->x k=0)/\(j<r->v (t j)=x j*R j (t j)):=by
 intro j
 induction j with
 | zero =>
   intro _ _;refine⟨fun k hk=>O9m,fun hr=>?_⟩;rw[hx _ (h.lt 0 hr),Bm hr fun k hk hne=>?_];rw[h.zero k _ hk (h.inc 0 k (by omega) hk)];simp
 | succ j ih =>
   intro hj hv;obtain⟨h1,h2⟩:=ih O9m fun k hk=>hv k O9m
   have rL:x j=0:=by
    have e:=h2 O9m;rw[hv j (by omega)]at e;rcases ql9.mp e.symm with z | z
    . exact z
    . have:=h.pos j O9m;omega
   have hall:∀k,k<j+1->x k=0:=fun k hk=>by
    by_cases e:k=j
    . rw[e];exact rL
    . exact h1 k O9m
   refine⟨hall,fun hr=>?_⟩;rw[hx _ (h.lt _ hr),Bm hr fun k hk hne=>?_];by_cases e:k<j+1
   . rw[hall k e];simp
   . rw[h.zero k _ hk (h.inc (j+1) k (by omega) hk)];simp
theorem Db.only{w r:Nat}{R:Mat}{t:Nat->Nat}(h:Db w r R t){v:Nat->Int}(hv:In w r R v){j:Nat}(hj:j<r)(h0:∀k,k<j->v (t k)=0)(h1:v (t j)=R j (t j))(h2:∀k,j<k->k<r->v (t k)=0):∀c,c<w->v c=R j c:=by
 obtain⟨x,hx⟩:=hv;obtain⟨a1,a2⟩:=h.lead hx j O9m h0
 have xj:x j=1:=by
  have e:=a2 hj;rw[h1]at e;have p:=h.pos j hj;have:(x j-1)*R j (t j)=0:=by rw[Int.sub_mul];omega
  rcases ql9.mp this with z | z<;>omega
 have rest:∀m,m<=r->∀k,j<k->k<m->x k=0:=by
  intro m
  induction m with
  | zero=>intro _ k _ hk;omega
  | succ m ih =>
    intro hm k hjk hk;by_cases e:k<m
    . exact ih O9m k hjk e
    have ek:k=m:=O9m
    subst ek;have hv2:=h2 k hjk O9m
    have e2:v (t k)=R j (t k)+x k*R k (t k):=by
     rw[hx _ (h.lt k (by omega))]
     have:Ah (fun i=>x i*R i (t k)) r=Ah (fun i=>((if i=j then 1 else 0)*R i (t k))+((if i=k then 1 else 0)*(x k*R k (t k)))) r:=by
      refine Aj fun i hi=>?_;by_cases e1:i=j
      . subst e1;rw[xj,if_pos rfl,if_neg (by omega)];simp
      . rw[if_neg e1];by_cases e3:i=k
        . subst e3;rw[if_pos rfl];simp
        . rw[if_neg e3];by_cases e4:i<j
          . rw[a1 i e4];simp
          . by_cases e5:i<k
            . rw[ih (by omega) i (by omega) e5];simp
            . rw[h.zero i _ hi (h.inc k i (by omega) hi)];simp
     rw[this,B9,B7 (fun i=>R i (t k)) j r,if_pos hj,B7 (fun _=>x k*R k (t k)) k r,if_pos (by omega)]
    rw[hv2]at e2;obtain⟨r0,r1⟩:=h.red j k hjk O9m;have p:=h.pos k O9m;rcases Int.lt_trichotomy (x k) 0 with z | z | z
    . have:x k*R k (t k)<=-1*R k (t k):=qg5 O9m O9m;omega
    . exact z
    . have:1*R k (t k)<=x k*R k (t k):=qg5 O9m O9m;omega
 intro c hc;rw[hx c hc,Bm hj fun k hk hne=>?_,xj,qb8];by_cases e:k<j
 . rw[a1 k e];simp
 . rw[rest r (qa0 _) k (by omega) hk];simp
structure C7(n w:Nat)(T T':Mat):Prop where
 fwd:∀i,i<n->In w n T (T' i)
 bwd:∀i,i<n->In w n T' (T i)
 st:∃r t,r<=n/\Db w r T' t/\∀i c,r<=i->i<n->c<w->T' i c=0
theorem In.sub{w n r:Nat}{R:Mat}{v:Nat->Int}(h:In w n R v)(hr:r<=n)(hz:∀i c,r<=i->i<n->c<w->R i c=0):In w r R v:=by
 obtain⟨x,hx⟩:=h;refine⟨x,fun c hc=>?_⟩;rw[hx c hc]
 have:∀m,r<=m->m<=n->Ah (fun k=>x k*R k c) m=Ah (fun k=>x k*R k c) r:=by
  intro m
  induction m with
  | zero=>intro h1 _;rw[show r=0 by omega]
  | succ m ih =>
    intro h1 h2;by_cases e:r=m+1
    . rw[e]
    . show Ah _ m+x m*R m c=_;rw[ih (by omega) (by omega),hz m c (by omega) (by omega) hc];simp
 exact this n hr (qa0 _)
noncomputable def Iq(n w k:Nat)(T:Mat):Prop:=k<=n/\k<=w/\(∀j,j<k->0<T j j)/\(∀j c,j<k->c<w->c≠j->T j c=0)/\(∀i j,i<n->j<k->i≠j->T i j=0)
theorem Iq.flip{n w k:Nat}{T:Mat}(h:Iq n w k T):Iq w n k (fun i j=>T j i):=⟨h.2.1,h.1,h.2.2.1,fun j c hj hc hne=>h.2.2.2.2 c j hc hj hne,fun i j hi hj hne=>h.2.2.2.1 j i hj hi hne⟩
noncomputable def g9(n w k:Nat)(T:Mat):Prop:=Iq n w k T/\k<n/\k<w/\0<T k k/\∀c,c<w->c≠k->T k c=0
theorem C7.keep{n w:Nat}{T T':Mat}(s:C7 n w T T'):∀{k:Nat},Iq n w k T->Iq n w k T'/\(∀j c,j<k->c<w->T' j c=T j c)/\∀r t,r<=n->Db w r T' t->(∀i c,r<=i->i<n->c<w->T' i c=0)->k<=r/\∀j,j<k->t j=j:=by
 intro k
 induction k with
 | zero =>
   intro h;exact⟨⟨qa5 _,qa5 _,fun j hj=>O9m,fun j c hj=>O9m,fun i j _ hj=>O9m⟩,fun j c hj=>O9m,fun r t _ _ _=>⟨qa5 _,fun j hj=>O9m⟩⟩
 | succ k ih =>
   intro h;obtain⟨hn,hw,hp,hr,hc⟩:=h;obtain⟨c1,c2,c3⟩:=ih ⟨O9m,O9m,fun j hj=>hp j O9m,fun j c hj=>hr j c O9m,fun i j hi hj=>hc i j hi O9m⟩
   have key:∀r t,r<=n->Db w r T' t->(∀i c,r<=i->i<n->c<w->T' i c=0)->k<r/\t k=k/\(∀c,c<w->T' k c=T k c):=by
    intro r t Yv hst hz;obtain⟨kr,ht⟩:=c3 r t Yv hst hz;have hin:=(s.bwd k O9m).sub Yv hz;obtain⟨x,hx⟩:=id hin;have v0:∀l,l<k->T k (t l)=0:=fun l hl=>by rw[ht l hl];exact hc k l O9m O9m O9m
    obtain⟨x0,_⟩:=hst.lead hx k kr v0;have hpk:=hp k O9m
    have hlt:k<r:=by
     refine qg8 fun z=>?_
     have:T k k=0:=by
      rw[hx k (by omega)];exact Bc fun l hl=>by rw[x0 l (by omega)];simp
     omega
    have htk:t k=k:=by
     have g:=hst.ge k hlt;refine qf6 (qe9 fun z=>?_) g
     have:T k k=0:=by
      rw[hx k (by omega)];refine Bc fun l hl=>?_;by_cases e:l<k
      . rw[x0 l e];simp
      . rw[hst.zero l k hl (qa8 z (hst.mono k l (by omega) hl))];simp
     omega
    obtain⟨_,a2⟩:=hst.lead hx k kr v0;have e1:=a2 hlt;rw[htk]at e1;have pk:=hst.pos k hlt;rw[htk]at pk;obtain⟨y,hy⟩:=s.fwd k O9m
    have e2:T' k k=y k*T k k:=by
     rw[hy k (by omega)];exact Bm O9m fun l hl hne=>by rw[hc l k hl (by omega) hne];simp
    have same:T k k=T' k k:=by
     have d1:T' k k∣T k k:=⟨x k,by rw[e1,qd4]⟩
     have d2:T k k∣T' k k:=⟨y k,by rw[e2,qd4]⟩
     exact Int.le_antisymm (qj0 pk d2) (qj0 hpk d1)
    refine⟨hlt,htk,fun c hcw=>?_⟩;exact(hst.only hin hlt v0 (by rw[htk];exact same) (fun l hl1 hl2=>hr k (t l) O9m (hst.lt l hl2) (by have:=hst.inc k l hl1 hl2;omega)) c hcw).symm
   obtain⟨r,t,Yv,hst,hz⟩:=s.st;obtain⟨k1,k2,k3⟩:=key r t Yv hst hz;refine⟨⟨hn,hw,fun j hj=>?_,fun j c hj hcw hne=>?_,fun i j hi hj hne=>?_⟩,fun j c hj hcw=>?_,fun r t Yv hst hz=>?_⟩
   . by_cases e:j=k
     . subst e;rw[k3 j (by omega)];exact hp j O9m
     . exact c1.2.2.1 j O9m
   . by_cases e:j=k
     . subst e;rw[k3 c hcw];exact hr j c O9m hcw hne
     . exact c1.2.2.2.1 j c O9m hcw hne
   . by_cases e:j=k
     . subst e;by_cases e2:i<j
       . exact c1.2.2.2.1 i j e2 O9m O9m
       . by_cases e3:i<r
         . exact hst.zero i j e3 (by have:=hst.inc j i O9m e3;omega)
         . exact hz i j O9m hi O9m
     . exact c1.2.2.2.2 i j hi O9m hne
   . by_cases e:j=k
     . subst e;exact k3 c hcw
     . exact c2 j c O9m hcw
   . obtain⟨a,b,_⟩:=key r t Yv hst hz;obtain⟨_,ht⟩:=c3 r t Yv hst hz;refine⟨a,fun j hj=>?_⟩;by_cases e:j=k
     . rw[e];exact b
     . exact ht j O9m
noncomputable def Oo(n w:Nat)(T Ip:Mat):Prop:=∃T',C7 n w T T'/\C7 w n (fun i j=>T' j i) (fun i j=>Ip j i)
noncomputable def Straight(n w:Nat)(T:Mat):Prop:=∀i j,i<n->j<w->i≠j->T i j=0
theorem Oo.next{n w k:Nat}{T Ip:Mat}(s:Oo n w T Ip)(h:Iq n w k T):Iq n w k Ip/\(Straight n w Ip\/g9 n w k Ip):=by
 obtain⟨T',s1,s2⟩:=s;obtain⟨h1,_,h3⟩:=s1.keep h;obtain⟨g1,_,g3⟩:=s2.keep h1.flip;have hc:Iq n w k Ip:=g1.flip;refine⟨hc,?_⟩;obtain⟨r,t,Yv,hst,hz⟩:=s1.st;obtain⟨q,u,KG,Sl,cB⟩:=s2.st;obtain⟨kr,ht⟩:=h3 r t Yv hst hz;obtain⟨kq,hu⟩:=g3 q u KG Sl cB;by_cases e:k<r
 . right;have p:=hst.pos k e;have tw:=hst.lt k e;have tk:k<=t k:=hst.ge k e;have hin:=(s2.bwd (t k) tw).sub KG cB;obtain⟨x,hx⟩:=id hin
   have v0:∀l,l<k->(fun j=>T' j (t k)) (u l)=0:=fun l hl=>by
    show T' (u l) (t k)=0;rw[hu l hl];exact h1.2.2.2.1 l (t k) hl tw O9m
   obtain⟨x0,_⟩:=Sl.lead hx k kq v0;have hkn:k<n:=O9m
   have iK:k<q:=by
    refine qg8 fun z=>?_
    have:T' k (t k)=0:=by
     show(fun j=>T' j (t k)) k=0;rw[hx k hkn];exact Bc fun l hl=>by rw[x0 l (by omega)];simp
    omega
   have lT:u k=k:=by
    refine qf6 (qe9 fun z=>?_) (Sl.ge k iK)
    have:T' k (t k)=0:=by
     show(fun j=>T' j (t k)) k=0;rw[hx k hkn];refine Bc fun l hl=>?_;by_cases e2:l<k
     . rw[x0 l e2];simp
     . show x l*Ip k l=0;rw[show Ip k l=0 from Sl.zero l k hl (qa8 z (Sl.mono k l (by omega) hl))];simp
    omega
   have p2:=Sl.pos k iK;rw[lT]at p2;refine⟨hc,hkn,O9m,p2,fun c hcw hne=>?_⟩;rcases qe3 c k with z | z
   . exact hc.2.2.2.2 k c hkn z O9m
   . by_cases e3:c<q
     . exact Sl.zero c k e3 (by have:=Sl.inc k c O9m e3;omega)
     . exact cB c k O9m hcw hkn
 . left;have tH:∀i c,k<=i->i<n->c<w->T' i c=0:=fun i c hi hin hcw=>hz i c O9m hin hcw;intro i j hi hj hne;rcases qe3 i k with z | z
   . exact hc.2.2.2.1 i j z hj (fun w=>hne w.symm)
   . obtain⟨y,hy⟩:=s2.fwd j hj;have:Ip i j=Ah (fun l=>y l*T' i l) w:=hy i hi;rw[this];exact Bc fun l hl=>by rw[tH i l z hi hl];simp
theorem Oo.less{n w k:Nat}{T Ip:Mat}(s:Oo n w T Ip)(h:g9 n w k T):Iq n w (k+1) Ip\/(g9 n w k Ip/\Ip k k∣T k k/\Ip k k<T k k):=by
 obtain⟨hcl,hn,hw,hp,hr⟩:=h;have s0:=s;obtain⟨T',s1,s2⟩:=s;obtain⟨h1,_,h3⟩:=s1.keep hcl;obtain⟨r,t,Yv,hst,hz⟩:=s1.st;obtain⟨kr,ht⟩:=h3 r t Yv hst hz;have hin:=(s1.bwd k hn).sub Yv hz;obtain⟨x,hx⟩:=id hin;have v0:∀l,l<k->T k (t l)=0:=fun l hl=>by rw[ht l hl];exact hr l O9m O9m
 obtain⟨x0,a2⟩:=hst.lead hx k kr v0
 have hlt:k<r:=by
  refine qg8 fun z=>?_
  have:T k k=0:=by
   rw[hx k hw];exact Bc fun l hl=>by rw[x0 l (by omega)];simp
  omega
 have htk:t k=k:=by
  refine qf6 (qe9 fun z=>?_) (hst.ge k hlt)
  have:T k k=0:=by
   rw[hx k hw];refine Bc fun l hl=>?_;by_cases e:l<k
   . rw[x0 l e];simp
   . rw[hst.zero l k hl (qa8 z (hst.mono k l (by omega) hl))];simp
  omega
 have e1:=a2 hlt;rw[htk]at e1;have pk:=hst.pos k hlt;rw[htk]at pk;have d1:T' k k∣T k k:=⟨x k,by rw[e1,qd4]⟩
 have qZ:=qj0 hp d1
 have below:∀i,i<n->i≠k->T' i k=0:=fun i hi hne=>by
  rcases qe3 i k with z | z
  . exact h1.2.2.2.1 i k z hw O9m
  . by_cases e3:i<r
    . exact hst.zero i k e3 (by have:=hst.inc k i O9m e3;omega)
    . exact hz i k O9m hi hw
 by_cases same:T' k k=T k k
 . left;have row:∀c,c<w->T k c=T' k c:=hst.only hin hlt v0 (by rw[htk];exact same.symm) (fun l hl1 hl2=>hr (t l) (hst.lt l hl2) (by have:=hst.inc k l hl1 hl2;omega))
   have TF:Iq n w (k+1) T':=by
    refine⟨O9m,O9m,fun j hj=>?_,fun j c hj hcw hne=>?_,fun i j hi hj hne=>?_⟩
    . by_cases e:j=k
      . subst e;exact pk
      . exact h1.2.2.1 j O9m
    . by_cases e:j=k
      . subst e;rw[←row c hcw];exact hr c hcw hne
      . exact h1.2.2.2.1 j c O9m hcw hne
    . by_cases e:j=k
      . subst e;exact below i hi hne
      . exact h1.2.2.2.2 i j hi O9m hne
   exact(s2.keep TF.flip).1.flip
 . right;have jY:T' k k<T k k:=O9m
   obtain⟨hc2,q2⟩:=s0.next hcl;obtain⟨g1,_,g3⟩:=s2.keep h1.flip;obtain⟨q,u,KG,Sl,cB⟩:=s2.st;obtain⟨kq,hu⟩:=g3 q u KG Sl cB;have NI:=(s2.bwd k hw).sub KG cB;obtain⟨y,hy⟩:=id NI
   have w0:∀l,l<k->(fun j=>T' j k) (u l)=0:=fun l hl=>by
    show T' (u l) k=0;rw[hu l hl];exact h1.2.2.2.1 l k hl hw O9m
   obtain⟨y0,b2⟩:=Sl.lead hy k kq w0;have pH:T' k k=Ah (fun l=>y l*Ip k l) q:=hy k hn
   have iK:k<q:=by
    refine qg8 fun z=>?_
    have:T' k k=0:=by
     rw[pH];exact Bc fun l hl=>by rw[y0 l (by omega)];simp
    omega
   have lT:u k=k:=by
    refine qf6 (qe9 fun z=>?_) (Sl.ge k iK)
    have:T' k k=0:=by
     rw[pH];refine Bc fun l hl=>?_;by_cases e2:l<k
     . rw[y0 l e2];simp
     . rw[show Ip k l=0 from Sl.zero l k hl (qa8 z (Sl.mono k l (by omega) hl))];simp
    omega
   have e3:T' (u k) k=y k*Ip (u k) k:=b2 iK;rw[lT]at e3;have p2:0<Ip (u k) k:=Sl.pos k iK;rw[lT]at p2;have d2:Ip k k∣T' k k:=⟨y k,by rw[e3,qd4]⟩
   have oY:=qj0 pk d2;refine⟨⟨hc2,hn,hw,p2,fun c hcw hne=>?_⟩,qo9 d2 d1,O9m⟩;rcases qe3 c k with z | z
   . exact hc2.2.2.2.2 k c hn z O9m
   . by_cases e4:c<q
     . exact Sl.zero c k e4 (by have:=Sl.inc k c O9m e4;omega)
     . exact cB c k O9m hcw hn
noncomputable def Mp(i:Nat):Int:=if i%2=0 then 1 else -1
theorem Qk(i:Nat):Mp (i+1)=- Mp i:=by
 unfold Mp;by_cases h:i%2=0
 . rw[if_neg (by omega),if_pos h]
 . rw[if_pos (by omega),if_neg h];rfl
theorem Mo(i:Nat):(Mp i).natAbs=1:=by unfold Mp;split<;>rfl
noncomputable def D8(A:Mat)(i:Nat):Mat:=fun r c=>A (if r<i then r else r+1) (c+1)
noncomputable def det:Nat->Mat->Int
 | 0,_=>1
 | n+1,A=>Ah (fun i=>Mp i*A i 0*det n (D8 A i)) (n+1)
theorem Bu:∀{n:Nat}{A B:Mat},(∀r c,r<n->c<n->A r c=B r c)->det n A=det n B
 | 0,_,_,_=>rfl
 | n+1,A,B,h=>by
   refine Aj fun i hi=>?_;rw[h i 0 hi (by omega),Bu (n:=n) (A:=D8 A i) (B:=D8 B i)];intro r c hr hc;exact h _ _ (by split<;>omega) O9m
noncomputable def Bp(A:Mat)(p:Nat)(u:Nat->Int):Mat:=fun r c=>if r=p then u c else A r c
theorem Bd(A:Mat)(p:Nat)(u:Nat->Int)(c:Nat):Bp A p u p c=u c:=if_pos rfl
theorem Bl{A:Mat}{p r:Nat}{u:Nat->Int}(h:r≠p)(c:Nat):Bp A p u r c=A r c:=if_neg h
theorem Mx{A:Mat}{p i:Nat}{u:Nat->Int}(h:i≠p):D8 (Bp A p u) i=Bp (D8 A i) (if p<i then p else p-1) (fun c=>u (c+1)):=by
 funext r c
 show(if (if r<i then r else r+1)=p then u (c+1) else A (if r<i then r else r+1) (c+1))=if r=(if p<i then p else p-1) then u (c+1) else A (if r<i then r else r+1) (c+1)
 have e:((if r<i then r else r+1)=p)↔(r=(if p<i then p else p-1)):=by
  split<;>split<;>omega
 by_cases z:r=(if p<i then p else p-1)
 . rw[if_pos z,if_pos (e.mpr z)]
 . rw[if_neg z,if_neg fun w=>z (e.mp w)]
theorem Fr{A:Mat}{p:Nat}{u:Nat->Int}:D8 (Bp A p u) p=D8 A p:=by
 funext r c
 show(if (if r<p then r else r+1)=p then u (c+1) else A (if r<p then r else r+1) (c+1))=A (if r<p then r else r+1) (c+1);rw[if_neg (by split<;>omega)]
theorem Dc:∀{n p:Nat} (A:Mat) (u v:Nat->Int) (a b:Int),p<n->det n (Bp A p fun c=>a*u c+b*v c)=a*det n (Bp A p u)+b*det n (Bp A p v)
 | n+1,p,A,u,v,a,b,hp=>by
   show Ah _ (n+1)=a*Ah _ (n+1)+b*Ah _ (n+1);rw[←Ay,←Ay,←B9];refine Aj fun i hi=>?_;by_cases e:i=p
   . subst e;rw[Bd,Bd,Bd,Fr,Fr,Fr]
     grind
   . rw[Bl e,Bl e,Bl e,Mx e,Mx e,Mx e];rw[Dc (D8 A i) (fun c=>u (c+1)) (fun c=>v (c+1)) a b (by split<;>omega)]
     grind
theorem Em(A:Mat)(p:Nat):Bp A p (A p)=A:=by
 funext r c
 unfold Bp;split
 . rename_i h;rw[h]
 . rfl
theorem B5{A:Mat}{p q:Nat}(h:p≠q)(u v:Nat->Int):Bp (Bp A p u) q v=Bp (Bp A q v) p u:=by
 funext r c
 unfold Bp;by_cases e:r=q
 . rw[if_pos e,if_neg (by omega),if_pos e]
 . rw[if_neg e,if_neg e]
theorem Vq:∀{n p:Nat}{A:Mat},p+1<n->(∀c,c<n->A p c=A (p+1) c)->det n A=0
 | n+1,p,A,hp,h=>by
   show Ah (fun i=>Mp i*A i 0*det n (D8 A i)) (n+1)=0
   have same:det n (D8 A p)=det n (D8 A (p+1)):=Bu fun r c hr hc=>by
    show A (if r<p then r else r+1) (c+1)=A (if r<p+1 then r else r+1) (c+1);by_cases e:r=p
    . subst e;rw[if_neg (by omega),if_pos (by omega)];exact(h _ O9m).symm
    . by_cases e2:r<p
      . rw[if_pos e2,if_pos (by omega)]
      . rw[if_neg e2,if_neg (by omega)]
   have two:Ah (fun i=>Mp i*A i 0*det n (D8 A i)) (n+1)=Ah (fun i=>((if i=p then 1 else 0)*(Mp p*A p 0*det n (D8 A p)))+((if i=p+1 then 1 else 0)*(Mp (p+1)*A (p+1) 0*det n (D8 A (p+1))))) (n+1):=by
    refine Aj fun i hi=>?_;by_cases e1:i=p
    . subst e1;rw[if_pos rfl,if_neg (by omega)];simp
    . by_cases e2:i=p+1
      . subst e2;rw[if_neg (by omega),if_pos rfl];simp
      . rw[if_neg e1,if_neg e2]
        have z:det n (D8 A i)=0:=by
         refine Vq (p:=if p<i then p else p-1) (by split<;>omega) fun c hc=>?_;show A (if (if p<i then p else p-1)<i then(if p<i then p else p-1) else(if p<i then p else p-1)+1) (c+1)=A (if (if p<i then p else p-1)+1<i then(if p<i then p else p-1)+1 else(if p<i then p else p-1)+1+1) (c+1);by_cases e3:p<i
         . rw[if_pos e3,if_pos e3,if_pos (by omega)];exact h _ O9m
         . rw[if_neg e3,if_neg (by omega),if_neg (by omega),show p-1+1=p by omega];exact h _ O9m
        rw[z];simp
   rw[two,B9,B7 (fun _=>Mp p*A p 0*det n (D8 A p)) p (n+1),if_pos (by omega),B7 (fun _=>Mp (p+1)*A (p+1) 0*det n (D8 A (p+1))) (p+1) (n+1),if_pos (by omega)];rw[Qk,←same,←h 0 (by omega)]
   grind
theorem T3{n p:Nat}{A:Mat}(hp:p+1<n)(u v:Nat->Int):det n (Bp (Bp A p u) (p+1) v)=- det n (Bp (Bp A p v) (p+1) u):=by
 have ne:p≠p+1:=O9m
 have z:∀w:Nat->Int,det n (Bp (Bp A p w) (p+1) w)=0:=fun w=>Vq hp fun c _=>by rw[Bl ne,Bd,Bd]
 have e0:=z fun c=>1*u c+1*v c;rw[Dc (Bp A p _) u v 1 1 hp,B5 ne,B5 ne,Dc (Bp A (p+1) u) u v 1 1 (by omega),Dc (Bp A (p+1) v) u v 1 1 (by omega)]at e0;rw[←B5 ne,←B5 ne,←B5 ne,←B5 ne,z u,z v]at e0;omega
theorem Vp:∀(d:Nat) {n p:Nat}{A:Mat},p+d+1<n->(∀c,c<n->A p c=A (p+d+1) c)->det n A=0
 | 0,n,p,A,hp,h=>Vq hp h
 | d+1,n,p,A,hp,h=>by
   have e:A=Bp (Bp A (p+d+1) (A (p+d+1))) (p+d+1+1) (A (p+d+1+1)):=by rw[Em,Em]
   rw[e,T3 (by omega)];rw[Vp d (p:=p) (by omega) fun c hc=>?_]
   . rfl
   . rw[Bl (by omega),Bl (by omega),Bl (by omega),Bd];exact h c hc
theorem C0{n p q:Nat}{A:Mat}(hp:p<n)(hq:q<n)(hne:p≠q)(h:∀c,c<n->A p c=A q c):det n A=0:=by
 rcases qe3 p q with z | z
 . exact Vp (q-p-1) (p:=p) O9m (by rw[show p+(q-p-1)+1=q by omega];exact h)
 . exact Vp (p-q-1) (p:=q) O9m (by rw[show q+(p-q-1)+1=p by omega];exact fun c hc=>(h c hc).symm)
theorem EO{n p q:Nat}(A:Mat)(hp:p<n)(hq:q<n)(hne:p≠q)(k:Int):det n (Bp A p fun c=>A p c+k*A q c)=det n A:=by
 have:=Dc A (A p) (A q) 1 k hp;rw[Em,C0 (A:=Bp A p (A q)) hp hq hne fun c _=>by rw[Bd,Bl (fun z=>hne z.symm)]]at this;rw[←show(fun c=>1*A p c+k*A q c)=fun c=>A p c+k*A q c from funext fun c=>by rw[qb8],this];omega
theorem Xf{n p q:Nat}{A:Mat}(hp:p<n)(hq:q<n)(ne:p≠q)(u v:Nat->Int):det n (Bp (Bp A p u) q v)=- det n (Bp (Bp A p v) q u):=by
 have z:∀w:Nat->Int,det n (Bp (Bp A p w) q w)=0:=fun w=>C0 hp hq ne fun c _=>by rw[Bl ne,Bd,Bd]
 have e0:=z fun c=>1*u c+1*v c;rw[Dc (Bp A p _) u v 1 1 hq,B5 ne,B5 ne,Dc (Bp A q u) u v 1 1 hp,Dc (Bp A q v) u v 1 1 hp]at e0;rw[←B5 ne,←B5 ne,←B5 ne,←B5 ne,z u,z v]at e0;omega
theorem c8{n p:Nat}(A:Mat)(hp:p<n):det n (Bp A p fun c=>- A p c)=- det n A:=by
 have:=Dc A (A p) (A p) (-1) 0 hp;rw[Em]at this;rw[show(fun c=>- A p c)=fun c=>-1*A p c+0*A p c from funext fun c=>by omega,this];omega
theorem AA{n p q:Nat}(A:Mat)(hp:p<n)(hq:q<n)(ne:p≠q)(a b c d:Int)(h:a*d-b*c=1) :
 det n (Bp (Bp A p fun k=>a*A p k+b*A q k) q fun k=>c*A p k+d*A q k)=det n A:=by
 have z:∀w:Nat->Int,det n (Bp (Bp A p w) q w)=0:=fun w=>C0 hp hq ne fun c _=>by rw[Bl ne,Bd,Bd]
 have e:det n (Bp (Bp A p (A p)) q (A q))=det n A:=by rw[Em,Em]
 have e2:=Xf (A:=A) hp hq ne (A p) (A q);rw[Dc _ (A p) (A q) c d hq,B5 ne,B5 ne,Dc (Bp A q (A p)) (A p) (A q) a b hp,Dc (Bp A q (A q)) (A p) (A q) a b hp];rw[←B5 ne,←B5 ne,←B5 ne,←B5 ne,z (A p),z (A q)];rw[e]at e2 ⊢;have e3:det n (Bp (Bp A p (A q)) q (A p))=- det n A:=O9m
 rw[e3]
 grind
noncomputable def prodN(f:Nat->Int):Nat->Int
 | 0=>1
 | n+1=>prodN f n*f n
theorem Oz(f:Nat->Int):∀n,prodN f (n+1)=f 0*prodN (fun k=>f (k+1)) n
 | 0=>by simp[prodN]
 | n+1=>by
   show prodN f (n+1)*f (n+1)=f 0*(prodN (fun k=>f (k+1)) n*f (n+1));rw[Oz f n,qe0]
theorem M7:∀{n:Nat}{A:Mat},(∀r c,r<n->c<r->A r c=0)->det n A=prodN (fun j=>A j j) n
 | 0,_,_=>rfl
 | n+1,A,h=>by
   show Ah (fun i=>Mp i*A i 0*det n (D8 A i)) (n+1)=_;rw[Bm (j:=0) (by omega) fun k hk hne=>by rw[h k 0 hk (by omega)];simp,Oz]
   rw[M7 (n:=n) (A:=D8 A 0) fun r c hr hc=>by
    show A (if r<0 then r else r+1) (c+1)=0;rw[if_neg (by omega)];exact h _ _ (by omega) (by omega)]
   show 1*A 0 0*prodN (fun j=>A (if j<0 then j else j+1) (j+1)) n=_;rw[qb8];rfl
noncomputable def FT:Nat->Nat
 | 0=>1
 | n+1=>(n+1)*FT n
theorem Mj{f:Nat->Int}{M:Nat}:∀{n:Nat},(∀k,k<n->(f k).natAbs<=M)->(Ah f n).natAbs<=n*M
 | 0,_=>by simp[Ah]
 | n+1,h=>by
   have a:=Mj (n:=n) fun k hk=>h k O9m;have b:=h n O9m;have c:=qc8 (Ah f n) (f n);show(Ah f n+f n).natAbs<=(n+1)*M;rw[qd3,qd1];omega
theorem cF:∀{n:Nat}{A:Mat}{B:Nat},(∀r c,r<n->c<n->(A r c).natAbs<=B)->(det n A).natAbs<=FT n*B ^ n
 | 0,_,_,_=>by simp[det,FT]
 | n+1,A,B,h=>by
   show(Ah _ (n+1)).natAbs<=(n+1)*FT n*B ^ (n+1)
   have:(Ah (fun i=>Mp i*A i 0*det n (D8 A i)) (n+1)).natAbs<=(n+1)*(B*(FT n*B ^ n)):=by
    refine Mj fun i hi=>?_;rw[qa4,qa4,Mo,qd1];exact qd0 (h i 0 hi O9m) (cF fun r c hr hc=>h _ _ (by split<;>omega) O9m)
   refine qa1 this (ql1 ?_);rw[qf1]
   grind
structure Fn(i:Nat)(R:Mat)(t:Nat->Nat):Prop where
 inc:∀j k,j<k->k<i->t j<t k
 zero:∀j c,j<i->c<t j->R j c=0
 pos:∀j,j<i->0<R j (t j)
theorem Db.s0{w r:Nat}{R:Mat}{t:Nat->Nat}(h:Db w r R t):Fn r R t:=⟨h.inc,h.zero,h.pos⟩
theorem Fn.low{i:Nat}{R:Mat}{t:Nat->Nat}(h:Fn i R t){j l:Nat}(hj:j<i)(hl:l<j):R j (t l)=0:=h.zero j _ hj (h.inc l j hl hj)
theorem Jj:∀{n p:Nat}{A:Mat},p<n->(∀c,c<n->A p c=0)->det n A=0:=fun {n p A} hp h=>by
 have:=Dc A (A p) (A p) 0 0 hp;rw[show(fun c=>0*A p c+0*A p c)=fun _=>(0:Int) from funext fun c=>by omega]at this
 rw[show det n A=det n (Bp A p fun _=>0) from Bu fun r c hr hc=>by
  unfold Bp;split
  . rename_i e;rw[e];exact h c hc
  . rfl,this]
 omega
theorem Cg{f:Nat->Int}:∀{n:Nat},(∀k,k<n->0<f k)->0<prodN f n
 | 0,_=>by show(0:Int)<1;decide
 | n+1,h=>Int.mul_pos (Cg fun k hk=>h k O9m) (h n O9m)
noncomputable def pb(R:Mat)(t:Nat->Nat)(k:Nat):Nat->Int
 | 0=>1
 | m+1=>R (k+1+m) (t (k+1+m))*pb R t k m
noncomputable def Lo(R:Mat)(t:Nat->Nat)(k:Nat):Nat->(Nat->Int)
 | 0=>R k
 | m+1=>fun c=>R (k+1+m) (t (k+1+m))*Lo R t k m c+(-(Lo R t k m (t (k+1+m))))*R (k+1+m) c
section
variable{i:Nat}{R:Mat}{t:Nat->Nat}(h:Fn i R t)
include h
theorem BL{k:Nat}:∀{m:Nat},k+m<i->0<pb R t k m
 | 0,_=>by show(0:Int)<1;decide
 | m+1,hm=>Int.mul_pos (h.pos _ O9m) (BL O9m)
theorem Vx{k l:Nat}(hl:l<k):∀{m:Nat},k+m<i->Lo R t k m (t l)=0
 | 0,hm=>h.low hm hl
 | m+1,hm=>by
   show R (k+1+m) (t (k+1+m))*Lo R t k m (t l)+(-(Lo R t k m (t (k+1+m))))*R (k+1+m) (t l)=0;rw[Vx hl (by omega),h.low (j:=k+1+m) (l:=l) (by omega) (by omega)];simp
theorem Xp{k:Nat}:∀{m:Nat},k+m<i->Lo R t k m (t k)=pb R t k m*R k (t k)
 | 0,_=>by show R k (t k)=1*R k (t k);omega
 | m+1,hm=>by
   show R (k+1+m) (t (k+1+m))*Lo R t k m (t k)+(-(Lo R t k m (t (k+1+m))))*R (k+1+m) (t k)=R (k+1+m) (t (k+1+m))*pb R t k m*R k (t k);rw[Xp (by omega),h.low (j:=k+1+m) (l:=k) (by omega) (by omega),qe0];simp
theorem Vw{k:Nat}:∀{m l:Nat},k+m<i->k<l->l<=k+m->Lo R t k m (t l)=0
 | 0,l,_,h1,h2=>O9m
 | m+1,l,hm,h1,h2=>by
   show R (k+1+m) (t (k+1+m))*Lo R t k m (t l)+(-(Lo R t k m (t (k+1+m))))*R (k+1+m) (t l)=0;by_cases e:l=k+1+m
   . subst e;rw[qd4,qk8];omega
   . rw[Vw (by omega) h1 (by omega),h.low (j:=k+1+m) (l:=l) (by omega) (by omega)];simp
theorem CO{W:Nat}{k:Nat}:∀{m:Nat},k+m<i->In W i R (Lo R t k m)
 | 0,hm=>In.row hm
 | m+1,hm=>(CO O9m).mix (In.row O9m) _ _
theorem e9{k:Nat}(s:Nat->Nat):∀{m:Nat},k+m<i->det i (Bp (fun r c=>R r (s c)) k fun c=>Lo R t k m (s c))=pb R t k m*det i (fun r c=>R r (s c))
 | 0,hm=>by
   show det i (Bp (fun r c=>R r (s c)) k ((fun r c=>R r (s c)) k))=1*_;rw[Em];omega
 | m+1,hm=>by
   show det i (Bp (fun r c=>R r (s c)) k fun c=>R (k+1+m) (t (k+1+m))*Lo R t k m (s c)+(-(Lo R t k m (t (k+1+m))))*R (k+1+m) (s c))=_;rw[Dc (fun r c=>R r (s c)) (fun c=>Lo R t k m (s c)) (fun c=>R (k+1+m) (s c)) _ _ (by omega),e9 s (by omega)];rw[C0 (p:=k) (q:=k+1+m) (A:=Bp (fun r c=>R r (s c)) k fun c=>R (k+1+m) (s c)) (by omega) (by omega) (by omega) fun c _=>by rw[Bd,Bl (by omega)]];show _=R (k+1+m) (t (k+1+m))*pb R t k m*_;rw[qe0];omega
end
theorem skip_prod{f:Nat->Int}{k:Nat}:∀(n:Nat),k<=n->prodN (fun l=>f (if l<k then l else l+1)) n=prodN f k*prodN (fun l=>f (k+1+l)) (n-k)
 | 0,h=>by
   have:k=0:=O9m
   subst this;simp[prodN]
 | n+1,h=>by
   by_cases e:k=n+1
   . subst e;rw[show n+1-(n+1)=0 by omega];show prodN _ (n+1)=prodN f (n+1)*1
     have:∀m,m<=n+1->prodN (fun l=>f (if l<n+1 then l else l+1)) m=prodN f m:=by
      intro m
      induction m with
      | zero=>intro _;rfl
      | succ m ih =>
        intro hm;show prodN _ m*f (if m<n+1 then m else m+1)=prodN f m*f m;rw[ih (by omega),if_pos (by omega)]
     rw[this _ (qa0 _)];omega
   . show prodN _ n*f (if n<k then n else n+1)=_;rw[skip_prod n (by omega),if_neg (by omega),show n+1-k=(n-k)+1 by omega];show _=prodN f k*(prodN (fun l=>f (k+1+l)) (n-k)*f (k+1+(n-k)));rw[show k+1+(n-k)=n+1 by omega,qe0]
theorem Ux(R:Mat)(t:Nat->Nat)(k:Nat):∀m,pb R t k m=prodN (fun l=>R (k+1+l) (t (k+1+l))) m
 | 0=>rfl
 | m+1=>by
   show R (k+1+m) (t (k+1+m))*pb R t k m=prodN _ m*R (k+1+m) (t (k+1+m));rw[Ux R t k m,qd4]
noncomputable def Ti(t:Nat->Nat)(k c:Nat):Nat->Nat
 | 0=>c
 | l+1=>t (if l<k then l else l+1)
theorem iA{i:Nat}{R:Mat}{t:Nat->Nat}(h:Fn i R t){k c:Nat}(hk:k<i){D:Nat}(hD:(det i fun r l=>R r (Ti t k c l)).natAbs<=D):(Lo R t k (i-1-k) c).natAbs<=D:=by
 have hm:k+(i-1-k)<i:=O9m
 have e1:=e9 h (k:=k) (Ti t k c) hm
 have RM:∀l,l<i->l≠k->Lo R t k (i-1-k) (t l)=0:=fun l hl hne=>by
  rcases qe3 l k with z | z
  . exact Vx h z hm
  . exact Vw h hm O9m O9m
 obtain⟨n,rfl⟩:∃n,i=n+1:=⟨i-1,O9m⟩
 have e2:det (n+1) (Bp (fun r l=>R r (Ti t k c l)) k fun l=>Lo R t k (n+1-1-k) (Ti t k c l))=Mp k*Lo R t k (n+1-1-k) c*prodN (fun l=>R (if l<k then l else l+1) (t (if l<k then l else l+1))) n:=by
  show Ah (fun j=>Mp j*Bp _ k _ j 0*det n (D8 (Bp _ k _) j)) (n+1)=_;rw[Bm (j:=k) hk fun j hj hne=>?_]
  . rw[Bd,Fr]
    congr 1
    refine M7 fun r l hr hl=>?_;show R (if r<k then r else r+1) (t (if l<k then l else l+1))=0;refine h.low (by split<;>omega) ?_;split<;>split<;>omega
  . rw[Mx hne,Jj (p:=if k<j then k else k-1) (by split<;>omega) fun l hl=>?_]
    . simp
    . rw[Bd];show Lo R t k (n+1-1-k) (t (if l<k then l else l+1))=0;exact RM _ (by split<;>omega) (by split<;>omega)
 rw[e1]at e2;rw[skip_prod (f:=fun l=>R l (t l)) n (by omega),←Ux,show n+1-1-k=n-k by omega]at e2;rw[show n+1-1-k=n-k by omega];have pp:=BL h (k:=k) (m:=n-k) O9m;have qp:0<prodN (fun l=>R l (t l)) k:=Cg fun j hj=>h.pos j O9m;have e3:=congrArg Int.natAbs e2;rw[qa4,qa4,qa4,qa4,Mo,qd1]at e3;have p1:0<(pb R t k (n-k)).natAbs:=O9m
 have q1:1<=(prodN (fun l=>R l (t l)) k).natAbs:=O9m
 have:(pb R t k (n-k)).natAbs*(Lo R t k (n-k) c).natAbs<=(pb R t k (n-k)).natAbs*D:=by
  calc (pb R t k (n-k)).natAbs*(Lo R t k (n-k) c).natAbs<=(Lo R t k (n-k) c).natAbs*((prodN (fun l=>R l (t l)) k).natAbs*(pb R t k (n-k)).natAbs):=by
        rw[qn7 (pb R t k (n-k)).natAbs];exact qc5 _ (qk5 _ q1)
   _=(pb R t k (n-k)).natAbs*(det (n+1) fun r l=>R r (Ti t k c l)).natAbs:=e3.symm
   _<=_:=qc5 _ hD
 exact Nat.le_of_mul_le_mul_left this p1
theorem Tv{i:Nat}{R:Mat}{t:Nat->Nat}(h:Fn i R t):det i (fun r l=>R r (t l))=prodN (fun l=>R l (t l)) i:=M7 fun r c hr hc=>h.low hr hc
theorem Qu{f:Nat->Int}:∀{n j:Nat},(∀k,k<n->0<f k)->j<n->f j<=prodN f n
 | n+1,j,h,hj=>by
   have p:=Cg (n:=n) fun k hk=>h k O9m;have q:=h n O9m;show f j<=prodN f n*f n;by_cases e:j=n
   . subst e;have:1*f j<=prodN f j*f j:=qg5 O9m O9m;omega
   . have ih:=Qu (n:=n) (j:=j) (fun k hk=>h k O9m) O9m;have:prodN f n*1<=prodN f n*f n:=qi5 O9m O9m;omega
theorem eL{i:Nat}{R:Mat}{t:Nat->Nat}(h:Fn i R t){D:Nat}(hD:(det i fun r l=>R r (t l)).natAbs<=D){j:Nat}(hj:j<i):R j (t j)<=D:=by
 rw[Tv h]at hD;have a:=Qu (f:=fun l=>R l (t l)) (fun k hk=>h.pos k hk) hj;have b:=Cg (f:=fun l=>R l (t l)) (n:=i) (fun k hk=>h.pos k hk);omega
theorem Fn.none{W i:Nat}{R:Mat}{t:Nat->Nat}(h:Fn i R t)(ht:∀j,j<i->t j<W){v:Nat->Int}(hv:In W i R v)(h0:∀j,j<i->v (t j)=0):∀c,c<W->v c=0:=by
 obtain⟨x,hx⟩:=hv
 have x0:∀m,m<=i->∀j,j<m->x j=0:=by
  intro m
  induction m with
  | zero=>intro _ j hj;omega
  | succ m ih =>
    intro hm j hj;by_cases e:j<m
    . exact ih O9m j e
    have ej:j=m:=O9m
    subst ej;have e1:=hx (t j) (ht j O9m);rw[h0 j (by omega),Bm (j:=j) (by omega) fun k hk hne=>?_]at e1
    . rcases ql9.mp e1.symm with z | z
      . exact z
      . have:=h.pos j O9m;omega
    . by_cases e2:k<j
      . rw[ih (by omega) k e2];simp
      . rw[h.low hk (by omega)];simp
 intro c hc;rw[hx c hc];exact Bc fun k hk=>by rw[x0 i (qa0 _) k hk];simp
theorem In.sum{W i:Nat}{R:Mat}{a:Nat->Int}{U:Mat}:∀{m:Nat},(∀j,j<m->In W i R (U j))->In W i R (fun c=>Ah (fun j=>a j*U j c) m)
 | 0,_=>In.zero W i R
 | m+1,h=>by
   have:=(In.sum (a:=a) (U:=U) (m:=m) fun j hj=>h j O9m).mix (h m O9m) 1 (a m)
   exact this.congr fun c _=>by
    show 1*Ah (fun j=>a j*U j c) m+a m*U m c=Ah (fun j=>a j*U j c) m+a m*U m c;omega
theorem L4(f:Nat->Int):∀(n k:Nat),k<n->prodN f n=prodN f k*(prodN (fun l=>f (k+1+l)) (n-1-k)*f k)
 | n+1,k,h=>by
   by_cases e:k=n
   . subst e;rw[show k+1-1-k=0 by omega];show prodN f k*f k=prodN f k*(1*f k);rw[qb8]
   . show prodN f n*f n=_;rw[L4 f n k (by omega),show n+1-1-k=(n-1-k)+1 by omega];show _=prodN f k*(prodN _ (n-1-k)*f (k+1+(n-1-k))*f k);rw[show k+1+(n-1-k)=n by omega]
     grind
theorem JY{f:Nat->Int}:∀{n k:Nat},(∀l,l<n->0<f l)->k<n->prodN f k*f k<=prodN f n:=fun {n k} h hk=>by
 rw[L4 f n k hk];have a:=Cg (n:=k) fun l hl=>h l O9m;have b:0<prodN (fun l=>f (k+1+l)) (n-1-k):=Cg fun l hl=>h _ O9m;have c:=h k hk;have d:1*f k<=prodN (fun l=>f (k+1+l)) (n-1-k)*f k:=qg5 O9m O9m;rw[qb8]at d;exact qi5 d O9m
theorem DH{W i:Nat}{R:Mat}{t:Nat->Nat}(h:Fn i R t)(ht:∀j,j<i->t j<W){v:Nat->Int}(hv:In W i R v){κ D c:Nat}(hc:c<W)(hκ:∀j,j<i->(v (t j)).natAbs<=κ*(R j (t j)).natAbs)
 (hD:∀k,k<i->(det i fun r l=>R r (Ti t k c l)).natAbs<=D):(v c).natAbs<=i*(κ*D):=by
 have hp:∀l,l<i->0<(fun l=>R l (t l)) l:=fun l hl=>h.pos l hl;have EP:=Cg (n:=i) hp
 have key:prodN (fun l=>R l (t l)) i*v c=Ah (fun j=>(v (t j)*prodN (fun l=>R l (t l)) j)*Lo R t j (i-1-j) c) i:=by
  have hin:In W i R (fun c=>prodN (fun l=>R l (t l)) i*v c+(-1)*Ah (fun j=>(v (t j)*prodN (fun l=>R l (t l)) j)*Lo R t j (i-1-j) c) i) :=
   hv.mix (In.sum (a:=fun j=>v (t j)*prodN (fun l=>R l (t l)) j) (U:=fun j=>Lo R t j (i-1-j)) fun j hj=>CO h O9m) _ _
  have:=h.none ht hin (fun m hm=>?_) c hc
  . show _=_;have t:prodN (fun l=>R l (t l)) i*v c+(-1)*Ah (fun j=>(v (t j)*prodN (fun l=>R l (t l)) j)*Lo R t j (i-1-j) c) i=0:=this;omega
  . show prodN (fun l=>R l (t l)) i*v (t m)+(-1)*Ah (fun j=>(v (t j)*prodN (fun l=>R l (t l)) j)*Lo R t j (i-1-j) (t m)) i=0;rw[Bm (j:=m) hm fun j hj hne=>?_]
    . rw[Xp h (by omega),Ux,L4 (fun l=>R l (t l)) i m hm]
      grind
    . have:Lo R t j (i-1-j) (t m)=0:=by
       rcases qe3 m j with z | z
       . exact Vx h z O9m
       . exact Vw h O9m O9m O9m
      rw[this];simp
 have e:=congrArg Int.natAbs key;rw[qa4]at e
 have le:(Ah (fun j=>(v (t j)*prodN (fun l=>R l (t l)) j)*Lo R t j (i-1-j) c) i).natAbs<=i*((prodN (fun l=>R l (t l)) i).natAbs*(κ*D)):=by
  refine Mj fun j hj=>?_;rw[qa4,qa4];have a1:=hκ j hj;have a2:=iA h hj (hD j hj);have a3:=JY hp hj;have a4:=Cg (n:=j) fun l hl=>hp l O9m;have a5:=hp j hj
  have a6:(prodN (fun l=>R l (t l)) j).natAbs*(R j (t j)).natAbs<=(prodN (fun l=>R l (t l)) i).natAbs:=by
   rw[←qa4];have:0<prodN (fun l=>R l (t l)) j*R j (t j):=Int.mul_pos a4 a5;omega
  calc (v (t j)).natAbs*(prodN (fun l=>R l (t l)) j).natAbs*(Lo R t j (i-1-j) c).natAbs
   ≤ κ*(R j (t j)).natAbs*(prodN (fun l=>R l (t l)) j).natAbs*D:=qd0 (qb1 _ a1) a2
   _=(prodN (fun l=>R l (t l)) j).natAbs*(R j (t j)).natAbs*(κ*D):=by grind
   _<=_:=qb1 _ a6
 rw[←e]at le;have E1:0<(prodN (fun l=>R l (t l)) i).natAbs:=O9m
 refine Nat.le_of_mul_le_mul_left (qa1 le (ql1 ?_)) E1
 grind
theorem In.trans{W n m:Nat}{R R':Mat}{v:Nat->Int}(hv:In W n R v)(h:∀j,j<n->In W m R' (R j)):In W m R' v:=by
 obtain⟨x,hx⟩:=hv;exact(In.sum (a:=x) (U:=R) h).congr fun c hc=>(hx c hc).symm
noncomputable def AU(W n:Nat)(R R':Mat):Prop:=(∀j,j<n->In W n R (R' j))/\(∀j,j<n->In W n R' (R j))
theorem AU.refl(W n:Nat)(R:Mat):AU W n R R:=⟨fun j hj=>In.row hj,fun j hj=>In.row hj⟩
theorem AU.trans{W n:Nat}{R S T:Mat}(h1:AU W n R S)(h2:AU W n S T):AU W n R T:=⟨fun j hj=>(h2.1 j hj).trans h1.1,fun j hj=>(h1.2 j hj).trans h2.2⟩
noncomputable def Dq(n:Nat)(R R':Mat):Prop:=∀s:Nat->Nat,(det n fun r l=>R' r (s l)).natAbs=(det n fun r l=>R r (s l)).natAbs
theorem Dq.refl(n:Nat)(R:Mat):Dq n R R:=fun _=>rfl
theorem Dq.trans{n:Nat}{R S T:Mat}(h1:Dq n R S)(h2:Dq n S T):Dq n R T:=fun s=>(h2 s).trans (h1 s)
theorem Ia(R:Mat)(p:Nat)(u:Nat->Int)(s:Nat->Nat):(fun r l=>Bp R p u r (s l))=Bp (fun r l=>R r (s l)) p (fun l=>u (s l)):=by
 funext r l
 unfold Bp;split<;>rfl
noncomputable def addR(R:Mat)(p q:Nat)(k:Int):Mat:=Bp R p fun c=>1*R p c+k*R q c
theorem B6(R:Mat)(p q:Nat)(k:Int)(c:Nat):addR R p q k p c=1*R p c+k*R q c:=Bd ..
theorem Ck{R:Mat}{p q r:Nat}{k:Int}(h:r≠p)(c:Nat):addR R p q k r c=R r c:=Bl h c
theorem EV{n p q:Nat}(R:Mat)(hp:p<n)(hq:q<n)(ne:p≠q)(k:Int):Dq n R (addR R p q k):=fun s=>by
 unfold addR;rw[Ia];have:=EO (fun r l=>R r (s l)) hp hq ne k;rw[show(fun l=>1*R p (s l)+k*R q (s l))=fun l=>R p (s l)+k*R q (s l) from funext fun l=>by rw[qb8],this]
theorem eV{W n p q:Nat}(R:Mat)(hp:p<n)(hq:q<n)(ne:p≠q)(k:Int):AU W n R (addR R p q k):=by
 refine⟨fun j hj=>?_,fun j hj=>?_⟩
 . by_cases e:j=p
   . subst e;exact((In.row hj).mix (In.row hq) 1 k).congr fun c _=>(B6 R j q k c).symm
   . exact(In.row hj).congr fun c _=>(Ck e c).symm
 . by_cases e:j=p
   . subst e;refine((In.row (R:=addR R j q k) hj).mix (In.row (R:=addR R j q k) hq) 1 (-k)).congr fun c _=>?_;rw[B6,Ck (fun z=>ne z.symm)];show 1*(1*R j c+k*R q c)+-k*R q c=R j c;rw[qk8];omega
   . exact(In.row (R:=addR R p q k) hj).congr fun c _=>Ck e c
noncomputable def Es(R:Mat)(p:Nat):Mat:=Bp R p fun c=>- R p c
theorem EB{n p:Nat}(R:Mat)(hp:p<n):Dq n R (Es R p):=fun s=>by
 unfold Es;rw[Ia,c8 (fun r l=>R r (s l)) hp,qb3]
theorem EA{W n p:Nat}(R:Mat)(hp:p<n):AU W n R (Es R p):=by
 refine⟨fun j hj=>?_,fun j hj=>?_⟩
 . by_cases e:j=p
   . subst e;exact((In.row hj).mix (In.row hj) (-1) 0).congr fun c _=>by unfold Es;rw[Bd];omega
   . exact(In.row hj).congr fun c _=>(Bl e c).symm
 . by_cases e:j=p
   . subst e;exact((In.row (R:=Es R j) hj).mix (In.row (R:=Es R j) hj) (-1) 0).congr fun c _=>by unfold Es;rw[Bd];omega
   . exact(In.row (R:=Es R p) hj).congr fun c _=>Bl e c
noncomputable def blendR(R:Mat)(p q:Nat)(a b c d:Int):Mat:=Bp (Bp R p fun k=>a*R p k+b*R q k) q fun k=>c*R p k+d*R q k
theorem Eo{R:Mat}{p q:Nat}(ne:p≠q)(a b c d:Int)(k:Nat):blendR R p q a b c d p k=a*R p k+b*R q k:=by unfold blendR;rw[Bl ne,Bd]
theorem Fu(R:Mat)(p q:Nat)(a b c d:Int)(k:Nat):blendR R p q a b c d q k=c*R p k+d*R q k:=by unfold blendR;rw[Bd]
theorem Cw{R:Mat}{p q r:Nat}(h1:r≠p)(h2:r≠q)(a b c d:Int)(k:Nat):blendR R p q a b c d r k=R r k:=by unfold blendR;rw[Bl h2,Bl h1]
theorem AN{n p q:Nat}(R:Mat)(hp:p<n)(hq:q<n)(ne:p≠q){a b c d:Int}(h:a*d-b*c=1):Dq n R (blendR R p q a b c d):=fun s=>by
 unfold blendR;rw[Ia,Ia];rw[AA (fun r l=>R r (s l)) hp hq ne a b c d h]
theorem aN{W n p q:Nat}(R:Mat)(hp:p<n)(hq:q<n)(ne:p≠q){a b c d:Int}(h:a*d-b*c=1):AU W n R (blendR R p q a b c d):=by
 refine⟨fun j hj=>?_,fun j hj=>?_⟩
 . by_cases e:j=p
   . subst e;exact((In.row hj).mix (In.row hq) a b).congr fun k _=>(Eo ne a b c d k).symm
   . by_cases e2:j=q
     . subst e2;exact((In.row hp).mix (In.row hj) c d).congr fun k _=>(Fu R p j a b c d k).symm
     . exact(In.row hj).congr fun k _=>(Cw e e2 a b c d k).symm
 . by_cases e:j=p
   . subst e;refine((In.row (R:=blendR R j q a b c d) hj).mix (In.row (R:=blendR R j q a b c d) hq) d (-b)).congr fun k _=>?_;rw[Eo ne,Fu];have:R j k=(a*d-b*c)*R j k:=by rw[h,qb8]
     grind
   . by_cases e2:j=q
     . subst e2;refine((In.row (R:=blendR R p j a b c d) hp).mix (In.row (R:=blendR R p j a b c d) hj) (-c) a).congr fun k _=>?_;rw[Eo ne,Fu];have:R j k=(a*d-b*c)*R j k:=by rw[h,qb8]
       grind
     . exact(In.row (R:=blendR R p q a b c d) hj).congr fun k _=>Cw e e2 a b c d k
noncomputable def moveR(R:Mat)(i s:Nat):Mat:=fun r c=>if r<s then R r c else if r=s then R i c else if r<=i then R (r-1) c else R r c
theorem W6{n:Nat}:∀(d:Nat) (R:Mat) {i s:Nat},i<n->i=s+d->Dq n R (moveR R i s)
 | 0,R,i,s,hi,e=>by
   have:moveR R i s=R:=by
    funext r c
    unfold moveR;by_cases e1:r<s
    . rw[if_pos e1]
    . rw[if_neg e1];by_cases e2:r=s
      . rw[if_pos e2,e2,show i=s by omega]
      . rw[if_neg e2,if_neg (by omega)]
   rw[this];exact Dq.refl n R
 | d+1,R,i,s,hi,e=>by
   obtain⟨j,rfl⟩:∃j,i=j+1:=⟨i-1,O9m⟩
   have h1:Dq n R (Bp (Bp R j (R (j+1))) (j+1) (R j)):=fun t=>by
    rw[Ia,Ia,T3 (by omega),qb3]
    rw[show Bp (Bp (fun r l=>R r (t l)) j fun l=>R j (t l)) (j+1) (fun l=>R (j+1) (t l))=fun r l=>R r (t l) from by
     have:=Em (fun r l=>R r (t l)) j;rw[show(fun l=>R j (t l))=(fun r l=>R r (t l)) j from rfl,this];exact Em (fun r l=>R r (t l)) (j+1)]
   have h2:=W6 (n:=n) d (Bp (Bp R j (R (j+1))) (j+1) (R j)) (i:=j) (s:=s) O9m O9m
   have e3:moveR (Bp (Bp R j (R (j+1))) (j+1) (R j)) j s=moveR R (j+1) s:=by
    funext r c
    unfold moveR;by_cases e1:r<s
    . rw[if_pos e1,if_pos e1,Bl (by omega),Bl (by omega)]
    . rw[if_neg e1,if_neg e1];by_cases e2:r=s
      . rw[if_pos e2,if_pos e2,Bl (show j≠j+1 by omega),Bd]
      . rw[if_neg e2,if_neg e2];by_cases e4:r<=j
        . rw[if_pos e4,if_pos (show r<=j+1 by omega),Bl (show r-1≠j+1 by omega),Bl (show r-1≠j by omega)]
        . rw[if_neg e4];by_cases e5:r=j+1
          . subst e5;rw[Bd,if_pos (by omega)];rfl
          . rw[if_neg (show ¬r<=j+1 by omega),Bl e5,Bl (show r≠j by omega)]
   rw[e3]at h2;exact h1.trans h2
theorem BU{W n:Nat}(R:Mat){i s:Nat}(hi:i<n)(hs:s<=i):AU W n R (moveR R i s):=by
 refine⟨fun j hj=>?_,fun j hj=>?_⟩
 . by_cases e1:j<s
   . exact(In.row hj).congr fun c _=>by unfold moveR;rw[if_pos e1]
   . by_cases e2:j=s
     . exact(In.row hi).congr fun c _=>by unfold moveR;rw[if_neg e1,if_pos e2]
     . by_cases e3:j<=i
       . exact(In.row (R:=R) (j:=j-1) O9m).congr fun c _=>by unfold moveR;rw[if_neg e1,if_neg e2,if_pos e3]
       . exact(In.row hj).congr fun c _=>by unfold moveR;rw[if_neg e1,if_neg e2,if_neg e3]
 . by_cases e1:j<s
   . exact(In.row (R:=moveR R i s) hj).congr fun c _=>by unfold moveR;rw[if_pos e1]
   . by_cases e2:j=i
     . exact(In.row (R:=moveR R i s) (j:=s) O9m).congr fun c _=>by unfold moveR;rw[if_neg (by omega),if_pos rfl,e2]
     . by_cases e3:j<i
       . exact(In.row (R:=moveR R i s) (j:=j+1) O9m).congr fun c _=>by unfold moveR;rw[if_neg (by omega),if_neg (by omega),if_pos (by omega)];rfl
       . exact(In.row (R:=moveR R i s) hj).congr fun c _=>by unfold moveR;rw[if_neg (by omega),if_neg (by omega),if_neg (by omega)]
theorem Gk{f g:Nat->Int}{n p q:Nat}(hp:p<n)(hq:q<n)(ne:p≠q)(h:∀k,k<n->k≠p->k≠q->f k=g k)(e:f p+f q=g p+g q):Ah f n=Ah g n:=by
 have z:Ah (fun k=>f k+-1*g k) n=(f p-g p)+(f q-g q):=by
  have e1:Ah (fun k=>f k+-1*g k) n=Ah (fun k=>(if k=p then 1 else 0)*(f p-g p)+(if k=q then 1 else 0)*(f q-g q)) n:=by
   refine Aj fun k hk=>?_;by_cases e1:k=p
   . subst e1;rw[if_pos rfl,if_neg ne];omega
   . rw[if_neg e1];by_cases e2:k=q
     . subst e2;rw[if_pos rfl];omega
     . rw[if_neg e2,h k hk e1 e2];omega
  rw[e1,B9,B7 (fun _=>f p-g p) p n,if_pos hp,B7 (fun _=>f q-g q) q n,if_pos hq]
 rw[B9,Ay]at z;omega
noncomputable def pT(n:Nat)(B R:Mat)(a b:Nat):Int:=Ah (fun k=>B k a*R k b) n
theorem Yc{n p q:Nat}(B R:Mat)(hp:p<n)(hq:q<n)(ne:p≠q)(k:Int)(a b:Nat):pT n (addR B q p (-k)) (addR R p q k) a b=pT n B R a b:=by
 refine Gk hp hq ne (fun j _ h1 h2=>by rw[Ck h2,Ck h1]) ?_;rw[Ck (r:=p) (p:=q) ne,B6 R p q k,B6 B q p (-k),Ck (fun z=>ne z.symm)]
 grind
theorem gP{n p:Nat}(B R:Mat)(a b:Nat):pT n (Es B p) (Es R p) a b=pT n B R a b:=by
 refine Aj fun k _=>?_;by_cases e:k=p
 . subst e;unfold Es;rw[Bd,Bd,Int.neg_mul_neg]
 . unfold Es;rw[Bl e,Bl e]
theorem Wv{n p q:Nat}(B R:Mat)(hp:p<n)(hq:q<n)(ne:p≠q){a b c d:Int}(h:a*d-b*c=1)(x y:Nat):pT n (blendR B p q d (-c) (-b) a) (blendR R p q a b c d) x y=pT n B R x y:=by
 refine Gk hp hq ne (fun j _ h1 h2=>by rw[Cw h1 h2,Cw h1 h2]) ?_;rw[Eo ne,Eo ne,Fu,Fu];have e1:B p x*R p y=(a*d-b*c)*(B p x*R p y):=by rw[h,qb8]
 have e2:B q x*R q y=(a*d-b*c)*(B q x*R q y):=by rw[h,qb8]
 grind
theorem Ta(f:Nat->Int):∀(d:Nat) {n i s:Nat},i<n->i=s+d->Ah (fun r=>if r<s then f r else if r=s then f i else if r<=i then f (r-1) else f r) n=Ah f n
 | 0,n,i,s,hi,e=>Aj fun r _=>by
   by_cases e1:r<s
   . rw[if_pos e1]
   . rw[if_neg e1];by_cases e2:r=s
     . rw[if_pos e2,e2,show i=s by omega]
     . rw[if_neg e2,if_neg (by omega)]
 | d+1,n,i,s,hi,e=>by
   rw[←Ta f d (n:=n) (i:=i) (s:=s+1) hi (by omega)];refine Gk (p:=s) (q:=s+1) O9m O9m O9m (fun r _ h1 h2=>?_) ?_
   . by_cases e1:r<s
     . rw[if_pos e1,if_pos (by omega)]
     . rw[if_neg e1,if_neg h1,if_neg (show ¬r<s+1 by omega),if_neg h2]
   . rw[if_neg (by omega),if_pos rfl,if_neg (by omega),if_neg (by omega),if_pos (by omega),if_pos (by omega),if_neg (by omega),if_pos rfl];show f i+f (s+1-1)=f s+f i;rw[show s+1-1=s by omega];omega
theorem DV{n:Nat}(B R:Mat){i s:Nat}(hi:i<n)(hs:s<=i)(a b:Nat):pT n (moveR B i s) (moveR R i s) a b=pT n B R a b:=by
 show Ah (fun k=>moveR B i s k a*moveR R i s k b) n=Ah (fun k=>B k a*R k b) n;rw[←Ta (fun k=>B k a*R k b) (i-s) (n:=n) (i:=i) (s:=s) hi (by omega)];refine Aj fun r _=>?_;unfold moveR;split
 . rfl
 . split
   . rfl
   . split<;>rfl
noncomputable def pD(n w:Nat)(R B:Mat)(i j:Nat):Int:=Ah (fun c=>R i (w+c)*B j c) n
noncomputable def D5(n w:Nat)(R B:Mat):Prop:=∀i j,i<n->j<n->pD n w R B i j=if i=j then 1 else 0
noncomputable def dot(n w:Nat)(u v:Nat->Int):Int:=Ah (fun c=>u (w+c)*v c) n
theorem Cu(n w:Nat)(u v x:Nat->Int)(a b:Int):dot n w (fun c=>a*u c+b*v c) x=a*dot n w u x+b*dot n w v x:=by
 unfold dot;rw[←Ay,←Ay,←B9];exact Aj fun c _=>by rw[Int.add_mul,qe0,qe0]
theorem Ek(n w:Nat)(u x y:Nat->Int)(a b:Int):dot n w u (fun c=>a*x c+b*y c)=a*dot n w u x+b*dot n w u y:=by
 unfold dot;rw[←Ay,←Ay,←B9];exact Aj fun c _=>by grind
theorem Q3(n w:Nat)(R B:Mat)(i j:Nat):pD n w R B i j=dot n w (R i) (B j):=rfl
theorem Io(R:Mat)(p q:Nat)(k:Int):addR R p q k p=fun c=>1*R p c+k*R q c:=funext fun c=>B6 ..
theorem addR_row_ne{R:Mat}{p q r:Nat}{k:Int}(h:r≠p):addR R p q k r=R r:=funext fun c=>Ck h c
theorem blend_row_p{R:Mat}{p q:Nat}(ne:p≠q)(a b c d:Int):blendR R p q a b c d p=fun k=>a*R p k+b*R q k:=funext fun k=>Eo ne a b c d k
theorem blend_row_q(R:Mat)(p q:Nat)(a b c d:Int):blendR R p q a b c d q=fun k=>c*R p k+d*R q k:=funext fun k=>Fu R p q a b c d k
theorem blend_row_ne{R:Mat}{p q r:Nat}(h1:r≠p)(h2:r≠q)(a b c d:Int):blendR R p q a b c d r=R r:=funext fun k=>Cw h1 h2 a b c d k
theorem D5.add{n w p q:Nat}{R B:Mat}(h:D5 n w R B)(hp:p<n)(hq:q<n)(ne:p≠q)(k:Int):D5 n w (addR R p q k) (addR B q p (-k)):=fun i j hi hj=>by
 have D:∀i j,i<n->j<n->dot n w (R i) (B j)=if i=j then 1 else 0:=h
 rw[Q3];by_cases e1:i=p
 . subst e1;rw[Io];by_cases e2:j=q
   . subst e2;rw[Io,Ek,Cu,Cu,D i j hi hj,D j j hj hj,D i i hi hi,D j i hj hi];rw[if_neg ne,if_pos rfl,if_pos rfl,if_neg (fun z=>ne z.symm)];omega
   . rw[addR_row_ne e2,Cu,D i j hi hj,D q j hq hj,show(if q=j then(1:Int) else 0)=0 from if_neg (fun z=>e2 z.symm)];omega
 . rw[addR_row_ne e1];by_cases e2:j=q
   . subst e2;rw[Io,Ek,D i j hi hj,D i p hi hp,show(if i=p then(1:Int) else 0)=0 from if_neg e1];omega
   . rw[addR_row_ne e2];exact D i j hi hj
theorem D5.neg{n w p:Nat}{R B:Mat}(h:D5 n w R B)(hp:p<n):D5 n w (Es R p) (Es B p):=fun i j hi hj=>by
 have D:∀i j,i<n->j<n->dot n w (R i) (B j)=if i=j then 1 else 0:=h
 have s1:∀(R:Mat),Es R p p=fun c=>-1*R p c+0*R p c:=fun R=>funext fun c=>by unfold Es;rw[Bd];omega
 have s2:∀(R:Mat) {r:Nat},r≠p->Es R p r=R r:=fun R r hr=>funext fun c=>Bl hr c;rw[Q3];by_cases e1:i=p
 . subst e1;by_cases e2:j=i
   . subst e2;rw[s1,s1,Ek,Cu,D j j hi hi];rw[if_pos rfl];omega
   . rw[s1,s2 B e2,Cu,D i j hi hj,if_neg (fun z=>e2 z.symm)];omega
 . by_cases e2:j=p
   . subst e2;rw[s1,s2 R e1,Ek,D i j hi hj,if_neg e1];omega
   . rw[s2 R e1,s2 B e2];exact D i j hi hj
theorem D5.blend{n w p q:Nat}{R B:Mat}(h:D5 n w R B)(hp:p<n)(hq:q<n)(ne:p≠q){a b c d:Int}(h1:a*d-b*c=1):D5 n w (blendR R p q a b c d) (blendR B p q d (-c) (-b) a):=fun i j hi hj=>by
 have D:∀i j,i<n->j<n->dot n w (R i) (B j)=if i=j then 1 else 0:=h
 have ne':q≠p:=fun z=>ne z.symm;rw[Q3];by_cases e1:i=p
 . subst e1;rw[blend_row_p ne];by_cases e2:j=i
   . subst e2;rw[blend_row_p ne,Ek,Cu,Cu,D j j hi hi,D q j hq hi,D j q hi hq,D q q hq hq]
     repeat (first | rw[if_pos rfl] | rw[if_neg ne] | rw[if_neg ne'])
     grind
   . by_cases e3:j=q
     . subst e3;rw[blend_row_q,Ek,Cu,Cu,D i i hi hi,D j i hq hi,D i j hi hq,D j j hq hq]
       repeat (first | rw[if_pos rfl] | rw[if_neg ne] | rw[if_neg ne'])
       grind
     . rw[blend_row_ne e2 e3,Cu,D i j hi hj,D q j hq hj,show(if i=j then(1:Int) else 0)=0 from if_neg (fun z=>e2 z.symm),show(if q=j then(1:Int) else 0)=0 from if_neg (fun z=>e3 z.symm)];omega
 . by_cases e4:i=q
   . subst e4;rw[blend_row_q];by_cases e2:j=p
     . subst e2;rw[blend_row_p ne,Ek,Cu,Cu,D j j hj hj,D i j hi hj,D j i hj hi,D i i hi hi]
       repeat (first | rw[if_pos rfl] | rw[if_neg ne] | rw[if_neg ne'])
       grind
     . by_cases e3:j=i
       . subst e3;rw[blend_row_q,Ek,Cu,Cu,D p p hp hp,D j p hi hp,D p j hp hi,D j j hi hi]
         repeat (first | rw[if_pos rfl] | rw[if_neg ne] | rw[if_neg ne'])
         grind
       . rw[blend_row_ne e2 e3,Cu,D p j hp hj,D i j hi hj,show(if p=j then(1:Int) else 0)=0 from if_neg (fun z=>e2 z.symm),show(if i=j then(1:Int) else 0)=0 from if_neg (fun z=>e3 z.symm)];omega
   . rw[blend_row_ne e1 e4];by_cases e2:j=p
     . subst e2;rw[blend_row_p ne,Ek,D i j hi hj,D i q hi hq,show(if i=j then(1:Int) else 0)=0 from if_neg e1,show(if i=q then(1:Int) else 0)=0 from if_neg e4];omega
     . by_cases e3:j=q
       . subst e3;rw[blend_row_q,Ek,D i p hi hp,D i j hi hj,show(if i=p then(1:Int) else 0)=0 from if_neg e1,show(if i=j then(1:Int) else 0)=0 from if_neg e4];omega
       . rw[blend_row_ne e2 e3];exact D i j hi hj
noncomputable def mvI(i s r:Nat):Nat:=if r<s then r else if r=s then i else if r<=i then r-1 else r
theorem move_row(R:Mat)(i s r:Nat):moveR R i s r=R (mvI i s r):=by
 funext c
 unfold moveR mvI;split
 . rfl
 . split
   . rfl
   . split<;>rfl
theorem D5.move{n w i s:Nat}{R B:Mat}(h:D5 n w R B)(hi:i<n)(hs:s<=i):D5 n w (moveR R i s) (moveR B i s):=fun x y hx hy=>by
 rw[Q3,move_row,move_row];have l:∀r,r<n->mvI i s r<n:=fun r hr=>by unfold mvI;split;omega;split;omega;split<;>omega
 have:=h _ _ (l x hx) (l y hy);rw[Q3]at this;rw[this]
 have inj:(mvI i s x=mvI i s y)↔x=y:=by
  constructor
  . intro e;unfold mvI at e;by_cases a1:x<s<;>by_cases a2:x=s<;>by_cases a3:x<=i<;>by_cases b1:y<s<;>by_cases b2:y=s<;>by_cases b3:y<=i<;>simp only[a1,a2,a3,b1,b2,b3,if_true,if_false]at e<;>first | omega | (subst_vars;simp_all;try omega)
  . intro e;rw[e]
 by_cases e:x=y
 . rw[if_pos e,if_pos (inj.mpr e)]
 . rw[if_neg e,if_neg fun z=>e (inj.mp z)]
structure Good(n W w lo:Nat)(R B R' B':Mat):Prop where
 eqv:∀m,lo<=m->AU W m R R'
 det:∀m,lo<=m->Dq m R R'
 pt:∀a b,pT n B' R' a b=pT n B R a b
 dual:D5 n w R B->D5 n w R' B'
 rest:∀r c,lo<=r->R' r c=R r c
 restB:∀r c,lo<=r->B' r c=B r c
theorem Good.refl(n W w lo:Nat)(R B:Mat):Good n W w lo R B R B:=⟨fun m _=>AU.refl W m R,fun m _=>Dq.refl m R,fun _ _=>rfl,id,fun _ _ _=>rfl,fun _ _ _=>rfl⟩
theorem Good.trans{n W w lo:Nat}{R B R' B' S C:Mat}(h1:Good n W w lo R B R' B')(h2:Good n W w lo R' B' S C):Good n W w lo R B S C :=
 ⟨fun m hm=>(h1.eqv m hm).trans (h2.eqv m hm),fun m hm=>(h1.det m hm).trans (h2.det m hm),fun a b=>(h2.pt a b).trans (h1.pt a b),fun d=>h2.dual (h1.dual d),fun r c hr=>(h2.rest r c hr).trans (h1.rest r c hr),fun r c hr=>(h2.restB r c hr).trans (h1.restB r c hr)⟩
theorem Good.mono{n W w lo lo':Nat}{R B R' B':Mat}(h:Good n W w lo R B R' B')(hl:lo<=lo'):Good n W w lo' R B R' B':=⟨fun m hm=>h.eqv m O9m,fun m hm=>h.det m O9m,h.pt,h.dual,fun r c hr=>h.rest r c O9m,fun r c hr=>h.restB r c O9m⟩
theorem Good.add{n W w lo p q:Nat}(R B:Mat)(hp:p<lo)(hq:q<lo)(hn:lo<=n)(ne:p≠q)(k:Int):Good n W w lo R B (addR R p q k) (addR B q p (-k)) :=
 ⟨fun m hm=>eV R O9m O9m ne k,fun m hm=>EV R O9m O9m ne k,fun a b=>Yc B R O9m O9m ne k a b,fun d=>d.add O9m O9m ne k,fun r c hr=>Ck O9m c,fun r c hr=>Ck O9m c⟩
theorem Good.neg{n W w lo p:Nat}(R B:Mat)(hp:p<lo)(hn:lo<=n):Good n W w lo R B (Es R p) (Es B p) :=
 ⟨fun m hm=>EA R O9m,fun m hm=>EB R O9m,fun a b=>gP B R a b,fun d=>d.neg O9m,fun r c hr=>Bl O9m c,fun r c hr=>Bl O9m c⟩
theorem Good.blend{n W w lo p q:Nat}(R B:Mat)(hp:p<lo)(hq:q<lo)(hn:lo<=n)(ne:p≠q){a b c d:Int}(h:a*d-b*c=1):Good n W w lo R B (blendR R p q a b c d) (blendR B p q d (-c) (-b) a) :=
 ⟨fun m hm=>aN R O9m O9m ne h,fun m hm=>AN R O9m O9m ne h,fun x y=>Wv B R O9m O9m ne h x y,fun e=>e.blend O9m O9m ne h,fun r c hr=>Cw O9m O9m _ _ _ _ c,fun r c hr=>Cw O9m O9m _ _ _ _ c⟩
theorem Good.move{n W w lo i s:Nat}(R B:Mat)(hi:i<lo)(hs:s<=i)(hn:lo<=n):Good n W w lo R B (moveR R i s) (moveR B i s) :=
 ⟨fun m hm=>BU R O9m hs,fun m hm=>W6 (i-s) R O9m O9m,fun a b=>DV B R O9m hs a b,fun d=>d.move O9m hs,fun r c hr=>by
  rw[move_row];unfold mvI;rw[if_neg (by omega),if_neg (by omega),if_neg (by omega)],fun r c hr=>by
  rw[move_row];unfold mvI;rw[if_neg (by omega),if_neg (by omega),if_neg (by omega)]⟩
theorem D5.row{n w i:Nat}{R B:Mat}(h:D5 n w R B)(hi:i<n):∃c,c<n/\R i (w+c)≠0:=by
 refine qe2 fun z=>?_;have e:=h i i hi hi;rw[if_pos rfl]at e;unfold pD at e;rw[Bc fun c hc=>?_]at e
 . cases e
 . have:R i (w+c)=0:=qe2 fun y=>z ⟨c,hc,y⟩;rw[this];simp
theorem c0{x h:Int}{K:Nat}(hh:0<h)(hx:x.natAbs<=K*h.natAbs):(x / h).natAbs<=K:=by
 have e:(h.natAbs:Int)=h:=O9m
 have hx':(x.natAbs:Int)<=(K:Int)*h:=by rw[←e];exact_mod_cast hx
 have u1:x / h<=(K:Int):=by
  have:x<=(K:Int)*h:=O9m
  exact Int.ediv_le_of_le_mul hh this
 have u2:-(K:Int)<=x / h:=by
  refine(Int.le_ediv_iff_mul_le hh).mpr ?_;rw[qk8];omega
 omega
structure Le(R:Mat)(t:Nat->Nat)(f m:Nat):Prop where
 inc:∀j k,f<=j->j<k->k<m->t j<t k
 zero:∀j c,f<=j->j<m->c<t j->R j c=0
 pos:∀j,f<=j->j<m->0<R j (t j)
 red:∀k j,f<=k->k<j->j<m->0<=R k (t j)/\R k (t j)<R j (t j)
structure aU(n W w lo:Nat)(R B:Mat)(t:Nat->Nat)(p f m j μ:Nat)(R' B':Mat):Prop where
 good:Good n W w lo R B R' B'
 same:∀r c,r≠p->R' r c=R r c
 left:∀c,(∀l,f<=l->l<m->c<t l)->R' p c=R p c
 red:∀l,f<=l->l<j->0<=R' p (t l)/\R' p (t l)<R l (t l)
 rel:∀l,j<=l->l<m->(R' p (t l)).natAbs<=2 ^ (j-f)*μ*(R l (t l)).natAbs
 ins:∀W',∃v:Nat->Int,In W' lo R v/\∀c,R' p c=R p c+v c
theorem aU.start{n W w lo:Nat}{R B:Mat}{t:Nat->Nat}{p f m μ:Nat}(h:∀l,f<=l->l<m->(R p (t l)).natAbs<=μ*(R l (t l)).natAbs):aU n W w lo R B t p f m f μ R B :=
 ⟨Good.refl ..,fun _ _ _=>rfl,fun _ _=>rfl,fun l h1 h2=>O9m,fun l h1 h2=>by rw[qj7,qp4,qd1];exact h l h1 h2,fun W'=>⟨fun _=>0,In.zero W' lo R,fun c=>by show R p c=R p c+0;omega⟩⟩
theorem Ub(R:Mat)(p q:Nat):addR R p q 0=R:=by
 funext r c
 by_cases e:r=p
 . subst e;rw[B6];omega
 . exact Ck e c
theorem aU.step{n W w lo:Nat}{R B R' B':Mat}{t:Nat->Nat}{p f m j μ:Nat}(h:aU n W w lo R B t p f m j μ R' B')(P:Le R t f m)(hf:f<=j)(hj:j<m)(hp:p<lo)(hm:m<=lo)(hn:lo<=n)(hpf:p<f\/m<=p) :
 (R' p (t j) / R j (t j)).natAbs<=2 ^ (j-f)*μ/\aU n W w lo R B t p f m (j+1) μ (addR R' p j (-(R' p (t j) / R j (t j)))) (addR B' j p (R' p (t j) / R j (t j))):=by
 have hh:=P.pos j hf hj;have ne:p≠j:=O9m
 have q1:=c0 hh (h.rel j (qa0 _) hj);refine⟨q1,?_⟩;generalize hq:R' p (t j) / R j (t j)=q at q1;have rj:∀c,R' j c=R j c:=fun c=>h.same j c (fun z=>ne z.symm);refine⟨h.good.trans ?_,fun r c hr=>?_,fun c hc=>?_,fun l h1 h2=>?_,fun l h1 h2=>?_,fun W'=>?_⟩
 . have:=Good.add (n:=n) (W:=W) (w:=w) (lo:=lo) R' B' hp (show j<lo by omega) hn ne (-q);rw[qj6]at this;exact this
 . rw[Ck hr];exact h.same r c hr
 . rw[B6,h.left c hc,rj,P.zero j c hf hj (hc j hf hj)];simp
 . rw[B6,rj];by_cases e:l=j
   . subst e;have d1:=qi0 (R' p (t l)) (show R l (t l)≠0 by omega);have d2:=qi6 (R' p (t l)) hh;have d3:=Int.mul_ediv_add_emod (R' p (t l)) (R l (t l));rw[hq]at d3;have d4:R l (t l)*q=q*R l (t l):=qd4 ..;rw[qk8];omega
   . have z:R j (t l)=0:=P.zero j _ hf hj (P.inc l j h1 O9m hj);rw[z,qc7,Int.add_zero,qb8];exact h.red l h1 O9m
 . rw[B6,rj];have a:=h.rel l O9m h2;obtain⟨b1,b2⟩:=P.red j l hf O9m h2;have b:(R j (t l)).natAbs<=(R l (t l)).natAbs:=O9m
   have c:=qc8 (1*R' p (t l)) (-q*R j (t l));rw[qb8]at c;rw[qb8]
   have d:(-q*R j (t l)).natAbs<=2 ^ (j-f)*μ*(R l (t l)).natAbs:=by
    rw[qa4,qb3];exact qd0 q1 b
   rw[show j+1-f=(j-f)+1 by omega,qf1];have e:2 ^ (j-f)*2*μ*(R l (t l)).natAbs=2 ^ (j-f)*μ*(R l (t l)).natAbs+2 ^ (j-f)*μ*(R l (t l)).natAbs:=by grind
   omega
 . obtain⟨v,hv,hc⟩:=h.ins W';refine⟨fun c=>1*v c+(-q)*R j c,hv.mix (In.row O9m) 1 (-q),fun c=>?_⟩;rw[B6,hc c,rj]
   grind
noncomputable def Bits(n W b:Nat)(R:Mat):Prop:=∀r c,r<n->c<W->(R r c).natAbs<2 ^ b
theorem Xu{x y a k:Int}{b c:Nat}(hx:x.natAbs<2 ^ b)(hy:y.natAbs<2 ^ b)(ha:a.natAbs<2 ^ c)(hk:k.natAbs<2 ^ c):(a*x+k*y).natAbs<2 ^ (b+c+1):=by
 have e:=qc8 (a*x) (k*y);rw[qa4,qa4]at e;have u:a.natAbs*x.natAbs<2 ^ (c+b):=by rw[qb7];exact ql2 ha hx
 have v:k.natAbs*y.natAbs<2 ^ (c+b):=by rw[qb7];exact ql2 hk hy
 rw[show b+c+1=(c+b)+1 by omega,qf1];omega
theorem Bits.mono{n W b b':Nat}{R:Mat}(h:Bits n W b R)(hb:b<=b'):Bits n W b' R:=fun r c hr hc=>qa8 (h r c hr hc) (qb9 (by decide) hb)
theorem Bits.add{n W b c p q:Nat}{R:Mat}(h:Bits n W b R)(hp:p<n)(hq:q<n){k:Int}(hk:k.natAbs<2 ^ c):Bits n W (b+c+1) (addR R p q k):=fun r x hr hx=>by
 by_cases e:r=p
 . subst e;rw[B6]
   have h1:(1:Int).natAbs<2 ^ (c+1):=by
    have:1<=2 ^ c:=qh3;rw[qf1];show 1<_;omega
   have e1:=qc8 (1*R r x) (k*R q x);rw[qb8,qa4]at e1;rw[qb8];have u:k.natAbs*(R q x).natAbs<2 ^ (c+b):=by rw[qb7];exact ql2 hk (h q x hq hx)
   have v:(R r x).natAbs<2 ^ (c+b):=qa8 (h r x hr hx) (qb9 (by decide) O9m);rw[show b+c+1=(c+b)+1 by omega,qf1];omega
 . rw[Ck e];exact qa8 (h r x hr hx) (qb9 (by decide) O9m)
theorem Bits.blend{n W b e p q:Nat}{R:Mat}(h:Bits n W b R)(hp:p<n)(hq:q<n)(ne:p≠q){x y z u:Int}(hx:x.natAbs<2 ^ e)(hy:y.natAbs<2 ^ e)(hz:z.natAbs<2 ^ e)(hu:u.natAbs<2 ^ e):Bits n W (b+e+1) (blendR R p q x y z u):=fun r c hr hc=>by
 by_cases e1:r=p
 . subst e1;rw[Eo ne];exact Xu (h r c hr hc) (h q c hq hc) hx hy
 . by_cases e2:r=q
   . subst e2;rw[Fu];exact Xu (h p c hp hc) (h r c hr hc) hz hu
   . rw[Cw e1 e2];exact qa8 (h r c hr hc) (qb9 (by decide) O9m)
theorem Bits.neg{n W b p:Nat}{R:Mat}(h:Bits n W b R):Bits n W b (Es R p):=fun r c hr hc=>by
 unfold Es;by_cases e:r=p
 . subst e;rw[Bd,qb3];exact h r c hr hc
 . rw[Bl e];exact h r c hr hc
theorem Bits.move{n W b i s:Nat}{R:Mat}(h:Bits n W b R)(hi:i<n)(hs:s<=i):Bits n W b (moveR R i s):=fun r c hr hc=>by
 rw[move_row];exact h _ c (by unfold mvI;split;omega;split;omega;split<;>omega) hc
structure Cr(n W w i:Nat)(G:Nat->Prop)(R0 B0:Mat)(t:Nat->Nat)(π b:Nat)(spot:Nat)(R B:Mat):Prop where
 good:Good n W w (i+1) R0 B0 R B
 zero:∀j c,j<i->c<t j->R j c=0
 pos:∀j,j<i->0<R j (t j)
 old:∀j c,spot<=j->j<i->R j c=R0 j c
 pass:∀j c,j<spot->c<=t j->R i c=0
 pv:∀l,spot<=l->l<i->(R i (t l)).natAbs<=2 ^ π
 gc:∀r c,r<=i->G c->(R r c).natAbs<=2 ^ (b+i+3+2*π+spot*(π+1))
structure Gb(n W w i:Nat)(G:Nat->Prop)(R0 B0:Mat)(t:Nat->Nat)(π b:Nat):Prop where
 hi:i<n
 part:Le R0 t 0 i
 lt:∀j,j<i->t j<W
 hd:∀j,j<i->(R0 j (t j)).natAbs<=2 ^ π
 rw:∀r c,r<i->G c->(R0 r c).natAbs<=2 ^ b
 ri:∀c,G c->(R0 i c).natAbs<=2 ^ b
 rp:∀l,l<i->(R0 i (t l)).natAbs<=2 ^ π
theorem Le.sub{R:Mat}{t:Nat->Nat}{f f' m:Nat}(h:Le R t f m)(hf:f<=f'):Le R t f' m:=⟨fun j k h1=>h.inc j k O9m,fun j c h1=>h.zero j c O9m,fun j h1=>h.pos j O9m,fun k j h1=>h.red k j O9m⟩
theorem Le.congr{R R':Mat}{t:Nat->Nat}{f m:Nat}(h:Le R t f m)(e:∀j c,f<=j->j<m->R' j c=R j c):Le R' t f m :=
 ⟨h.inc,fun j c h1 h2 h3=>by rw[e j c h1 h2];exact h.zero j c h1 h2 h3,fun j h1 h2=>by rw[e j _ h1 h2];exact h.pos j h1 h2,fun k j h1 h2 h3=>by rw[e k _ h1 (by omega),e j _ (by omega) h3];exact h.red k j h1 h2 h3⟩
theorem Cr.start{n W w i:Nat}{G:Nat->Prop}{R0 B0:Mat}{t:Nat->Nat}{π b:Nat}(h:Gb n W w i G R0 B0 t π b):Cr n W w i G R0 B0 t π b 0 R0 B0:=by
 refine⟨Good.refl ..,fun j c hj hc=>h.part.zero j c (qa5 _) hj hc,fun j hj=>h.part.pos j (qa5 _) hj,fun _ _ _ _=>rfl,fun j c hj=>O9m,fun l _ hl=>h.rp l hl,fun r c hr hc=>?_⟩;have e:2 ^ b<=2 ^ (b+i+3+2*π+0*(π+1)):=qb9 (by decide) O9m;by_cases z:r=i
 . subst z;exact qa1 (h.ri c hc) e
 . exact qa1 (h.rw r c O9m hc) e
theorem Cr.skip{n W w i:Nat}{G:Nat->Prop}{R0 B0 R B:Mat}{t:Nat->Nat}{π b spot:Nat}(h:Cr n W w i G R0 B0 t π b spot R B)(hz:∀c,c<=t spot->R i c=0):Cr n W w i G R0 B0 t π b (spot+1) R B:=by
 refine⟨h.good,h.zero,h.pos,fun j c hj=>h.old j c O9m,fun j c hj hc=>?_,fun l hl=>h.pv l O9m,fun r c hr hc=>qa1 (h.gc r c hr hc) (qb9 (by decide) ?_)⟩
 . by_cases e:j=spot
   . subst e;exact hz c hc
   . exact h.pass j c O9m hc
 . rw[qd3];omega
structure R5(n W w i:Nat)(G:Nat->Prop)(R B:Mat)(t:Nat->Nat)(b p spot μ:Nat)(R' B':Mat):Prop where
 good:Good n W w (i+1) R B R' B'
 same:∀r c,r≠p->R' r c=R r c
 left:∀c,c<=t spot->R' p c=R p c
 red:∀l,spot<l->l<i->0<=R' p (t l)/\R' p (t l)<R l (t l)
 gc:∀c,G c->(R' p c).natAbs<=(R p c).natAbs+2 ^ (i-(spot+1))*μ*2 ^ b
structure S4(n W w i:Nat)(G:Nat->Prop)(R B:Mat)(t:Nat->Nat)(b p spot μ j:Nat)(R' B':Mat):Prop where
 s:aU n W w (i+1) R B t p (spot+1) i j μ R' B'
 gc:∀c,G c->(R' p c).natAbs+μ*2 ^ b<=(R p c).natAbs+2 ^ (j-(spot+1))*μ*2 ^ b
theorem S4.start{n W w i:Nat}{G:Nat->Prop}{R B:Mat}{t:Nat->Nat}{b p spot μ:Nat}(h:∀l,spot<l->l<i->(R p (t l)).natAbs<=μ*(R l (t l)).natAbs):S4 n W w i G R B t b p spot μ (spot+1) R B :=
 ⟨aU.start fun l h1 h2=>h l O9m h2,fun c _=>by rw[qj7,qp4,qd1];exact qa0 _⟩
theorem S4.step{n W w i:Nat}{G:Nat->Prop}{R B R' B':Mat}{t:Nat->Nat}{b p spot μ j:Nat}(h:S4 n W w i G R B t b p spot μ j R' B')(P:Le R t (spot+1) i)(hG:∀r c,spot<r->r<i->G c->(R r c).natAbs<=2 ^ b)(hf:spot<j)(hj:j<i)(hn:i<n)(hp:p<=spot\/p=i) :
 (R' p (t j) / R j (t j)).natAbs<=2 ^ i*μ/\S4 n W w i G R B t b p spot μ (j+1) (addR R' p j (-(R' p (t j) / R j (t j)))) (addR B' j p (R' p (t j) / R j (t j))):=by
 obtain⟨q,s⟩:=h.s.step P O9m hj O9m O9m O9m O9m;refine⟨qa1 q (qb1 _ (qb9 (by decide) O9m)),s,fun c hc=>?_⟩;have ne:p≠j:=O9m
 rw[B6,h.s.same j c (fun z=>ne z.symm)];have a:=h.gc c hc;have e:=qc8 (1*R' p c) (-(R' p (t j) / R j (t j))*R j c);rw[qb8,qa4,qb3]at e;rw[qb8];have m:=qd0 q (hG j c hf hj hc);rw[show j+1-(spot+1)=(j-(spot+1))+1 by omega,qf1];have z:2 ^ (j-(spot+1))*2*μ*2 ^ b=2 ^ (j-(spot+1))*μ*2 ^ b+2 ^ (j-(spot+1))*μ*2 ^ b:=by grind
 omega
theorem S4.done{n W w i:Nat}{G:Nat->Prop}{R B R' B':Mat}{t:Nat->Nat}{b p spot μ:Nat}(h:S4 n W w i G R B t b p spot μ i R' B')(P:∀l,spot<l->l<i->t spot<t l):R5 n W w i G R B t b p spot μ R' B' :=
 ⟨h.s.good,h.s.same,fun c hc=>h.s.left c fun l h1 h2=>by have:=P l O9m h2;omega,fun l h1 h2=>h.s.red l O9m h2,fun c hc=>by have:=h.gc c hc;omega⟩
theorem Cm{a b:Nat}(h:a<=b):2 ^ a<=2 ^ b:=qb9 (by decide) h
theorem ED{x y a b:Nat}(hx:x<=2 ^ a)(hy:y<=2 ^ b):x*y<=2 ^ (a+b):=by rw[qb7];exact qd0 hx hy
theorem Cr.addPre{n W w i:Nat}{G:Nat->Prop}{R0 B0 R B:Mat}{t:Nat->Nat}{π b spot:Nat}(H:Gb n W w i G R0 B0 t π b)(h:Cr n W w i G R0 B0 t π b spot R B)(hs:spot<i){q:Int}(hq:q.natAbs<=2 ^ π) :
 ∀l,spot<l->l<i->(addR R i spot (-q) i (t l)).natAbs<=2 ^ (π+1)*(addR R i spot (-q) l (t l)).natAbs:=fun l h1 h2=>by
 rw[B6,Ck (show l≠i by omega)];obtain⟨r0,r1⟩:=H.part.red spot l (qa5 _) h1 h2;rw[←h.old spot _ (qa0 _) hs,←h.old l _ (by omega) h2]at r1;rw[←h.old spot _ (qa0 _) hs]at r0;have p:=h.pos l h2;have a:=h.pv l O9m h2;have e:=qc8 (1*R i (t l)) (-q*R spot (t l));rw[qb8,qa4,qb3]at e;rw[qb8];have m:q.natAbs*(R spot (t l)).natAbs<=2 ^ π*(R l (t l)).natAbs:=qd0 hq O9m;have m2:2 ^ π*1<=2 ^ π*(R l (t l)).natAbs:=qc5 _ O9m;rw[qf1];have z:2 ^ π*2*(R l (t l)).natAbs=2 ^ π*(R l (t l)).natAbs+2 ^ π*(R l (t l)).natAbs:=by grind
 omega
theorem Cr.metAdd{n W w i:Nat}{G:Nat->Prop}{R0 B0 R B R2 B2:Mat}{t:Nat->Nat}{π b spot:Nat}(H:Gb n W w i G R0 B0 t π b)(h:Cr n W w i G R0 B0 t π b spot R B)(hs:spot<i){q:Int}(hq:q.natAbs<=2 ^ π)(hz:∀c,c<t spot->R i c=0)(he:R i (t spot)=q*R spot (t spot))
 (S:R5 n W w i G (addR R i spot (-q)) (addR B spot i q) t b i spot (2 ^ (π+1)) R2 B2):Cr n W w i G R0 B0 t π b (spot+1) R2 B2:=by
 have ne:i≠spot:=O9m
 have keep:∀r c,r≠i->R2 r c=R r c:=fun r c hr=>by rw[S.same r c hr,Ck hr]
 refine⟨?_,fun j c hj hc=>by rw[keep j c (by omega)];exact h.zero j c hj hc,fun j hj=>by rw[keep j _ (by omega)];exact h.pos j hj,fun j c hj hji=>by rw[keep j c (by omega)];exact h.old j c O9m hji,fun j c hj hc=>?_,fun l h1 h2=>?_,fun r c hr hc=>?_⟩
 . have g:=Good.add (n:=n) (W:=W) (w:=w) (lo:=i+1) R B (show i<i+1 by omega) (show spot<i+1 by omega) H.hi ne (-q);rw[qj6]at g;exact(h.good.trans g).trans S.good
 . have ts:c<=t spot:=by
    by_cases e:j=spot
    . rw[←e];exact hc
    . have:=H.part.inc j spot (qa5 _) O9m hs;omega
   rw[S.left c ts,B6];by_cases e:c=t spot
   . rw[e,he,qb8,qk8];omega
   . rw[hz c (by omega),h.zero spot c hs (by omega)];simp
 . obtain⟨a,c⟩:=S.red l O9m h2;rw[Ck (show l≠i by omega)]at c;have d:=H.hd l h2;rw[←h.old l _ (by omega) h2]at d;omega
 . have zb:b+i+3+2*π+(spot+1)*(π+1)=(b+i+3+2*π+spot*(π+1))+π+1:=by rw[qd3];omega
   rw[zb];generalize hz2:b+i+3+2*π+spot*(π+1)=z;have rK:b+i+3+2*π<=z:=by rw[←hz2];exact qc9 _ _
   by_cases e:r=i
   . subst e;have a:=S.gc c hc;have g:=h.gc r c (qa0 _) hc;rw[hz2]at g;have rs:(R spot c).natAbs<=2 ^ b:=by rw[h.old spot c (qa0 _) hs];exact H.rw spot c hs hc
     have e1:=qc8 (1*R r c) (-q*R spot c);rw[qb8,qa4,qb3]at e1;rw[B6,qb8]at a;have m1:=ED hq rs
     have m2:2 ^ (r-(spot+1))*2 ^ (π+1)*2 ^ b<=2 ^ (z-2):=by
      rw[←qb7,←qb7];exact Cm O9m
     have m3:2 ^ (π+b)<=2 ^ (z-2):=Cm O9m;have m4:4*2 ^ (z-2)=2 ^ z:=by rw[show z=(z-2)+2 by omega,qb7];simp;try omega
     have m5:2*2 ^ z<=2 ^ (z+π+1):=by rw[show z+π+1=1+(z+π) by omega,qb7];exact qd0 (by decide) (Cm O9m)
     omega
   . rw[keep r c e];have g:=h.gc r c hr hc;rw[hz2]at g;exact qa1 g (Cm O9m)
structure i4(π:Nat)(h0 o0 x y z u:Int):Prop where
 one:x*u-y*z=1
 hd:0<x*h0+y*o0
 ot:z*h0+u*o0=0
 lx:x.natAbs<=2 ^ π
 ly:y.natAbs<=2 ^ π
 lz:z.natAbs<=2 ^ π
 lu:u.natAbs<=2 ^ π
theorem Z6{x y a c:Int}{π h:Nat}(hx:x.natAbs<=2 ^ π)(hy:y.natAbs<=2 ^ π)(ha:a.natAbs<=h)(hc:c.natAbs<=2 ^ π)(h1:1<=h):(x*a+y*c).natAbs<=2 ^ (2*π+1)*h:=by
 have e:=qc8 (x*a) (y*c);rw[qa4,qa4]at e;have m1:x.natAbs*a.natAbs<=2 ^ (2*π)*h:=qd0 (qa1 hx (Cm O9m)) ha;have m2:y.natAbs*c.natAbs<=2 ^ (2*π)*h:=qa1 (ED hy hc) (by rw[show π+π=2*π by omega];exact qf5 _ h1);rw[qf1];have z:2 ^ (2*π)*2*h=2 ^ (2*π)*h+2 ^ (2*π)*h:=by grind
 omega
theorem Cr.blendPre{n W w i:Nat}{G:Nat->Prop}{R0 B0 R B:Mat}{t:Nat->Nat}{π b spot:Nat}(H:Gb n W w i G R0 B0 t π b)(h:Cr n W w i G R0 B0 t π b spot R B)(hs:spot<i){x y z u:Int}(e:i4 π (R spot (t spot)) (R i (t spot)) x y z u) :
 (∀l,spot<l->l<i->(blendR R spot i x y z u spot (t l)).natAbs<=2 ^ (2*π+1)*(blendR R spot i x y z u l (t l)).natAbs)/\(∀l,spot<l->l<i->(blendR R spot i x y z u i (t l)).natAbs<=2 ^ (2*π+1)*(blendR R spot i x y z u l (t l)).natAbs):=by
 have ne:spot≠i:=O9m
 have base:∀l,spot<l->l<i->(R spot (t l)).natAbs<=(R l (t l)).natAbs/\1<=(R l (t l)).natAbs:=fun l h1 h2=>by
  obtain⟨r0,r1⟩:=H.part.red spot l (qa5 _) h1 h2;rw[←h.old spot _ (qa0 _) hs,←h.old l _ (by omega) h2]at r1;rw[←h.old spot _ (qa0 _) hs]at r0;have p:=h.pos l h2;omega
 refine⟨fun l h1 h2=>?_,fun l h1 h2=>?_⟩
 . rw[Eo ne,Cw (show l≠spot by omega) (show l≠i by omega)];exact Z6 e.lx e.ly (base l h1 h2).1 (h.pv l O9m h2) (base l h1 h2).2
 . rw[Fu,Cw (show l≠spot by omega) (show l≠i by omega)];exact Z6 e.lz e.lu (base l h1 h2).1 (h.pv l O9m h2) (base l h1 h2).2
theorem Cr.metBlend{n W w i:Nat}{G:Nat->Prop}{R0 B0 R B R2 B2 R3 B3:Mat}{t:Nat->Nat}{π b spot:Nat}(H:Gb n W w i G R0 B0 t π b)(h:Cr n W w i G R0 B0 t π b spot R B)(hs:spot<i){x y z u:Int}(e:i4 π (R spot (t spot)) (R i (t spot)) x y z u)(hz:∀c,c<t spot->R i c=0)
 (S1:R5 n W w i G (blendR R spot i x y z u) (blendR B spot i u (-z) (-y) x) t b spot spot (2 ^ (2*π+1)) R2 B2) (S2:R5 n W w i G R2 B2 t b i spot (2 ^ (2*π+1)) R3 B3):Cr n W w i G R0 B0 t π b (spot+1) R3 B3:=by
 have ne:spot≠i:=O9m
 have keep:∀r c,r≠i->r≠spot->R3 r c=R r c:=fun r c h1 h2=>by rw[S2.same r c h1,S1.same r c h2,Cw h2 h1]
 have rs:∀c,R3 spot c=R2 spot c:=fun c=>S2.same spot c ne;have oR:∀c,R2 i c=z*R spot c+u*R i c:=fun c=>by rw[S1.same i c (fun w=>ne w.symm),Fu]
 have gz:∀c,c<t spot->R spot c=0:=fun c hc=>h.zero spot c hs hc;refine⟨?_,fun j c hj hc=>?_,fun j hj=>?_,fun j c hj hji=>by rw[keep j c (by omega) (by omega)];exact h.old j c O9m hji,fun j c hj hc=>?_,fun l h1 h2=>?_,fun r c hr hc=>?_⟩
 . have g:=Good.blend (n:=n) (W:=W) (w:=w) (lo:=i+1) R B (show spot<i+1 by omega) (show i<i+1 by omega) H.hi ne e.one;exact((h.good.trans g).trans S1.good).trans S2.good
 . by_cases e1:j=spot
   . subst e1;rw[rs,S1.left c (by omega),Eo ne,gz c hc,hz c hc];simp
   . rw[keep j c (by omega) e1];exact h.zero j c hj hc
 . by_cases e1:j=spot
   . subst e1;rw[rs,S1.left _ (qa0 _),Eo ne];exact e.hd
   . rw[keep j _ (by omega) e1];exact h.pos j hj
 . have ts:c<=t spot:=by
    by_cases e1:j=spot
    . rw[←e1];exact hc
    . have:=H.part.inc j spot (qa5 _) O9m hs;omega
   rw[S2.left c ts,oR];by_cases e1:c=t spot
   . rw[e1];exact e.ot
   . rw[hz c (by omega),gz c (by omega)];simp
 . obtain⟨a,c⟩:=S2.red l O9m h2;rw[S1.same l _ (by omega),Cw (show l≠spot by omega) (show l≠i by omega)]at c;have d:=H.hd l h2;rw[←h.old l _ (by omega) h2]at d;omega
 . have zb:b+i+3+2*π+(spot+1)*(π+1)=(b+i+3+2*π+spot*(π+1))+π+1:=by rw[qd3];omega
   rw[zb];have g0:=h.gc spot c O9m hc;have gi:=h.gc i c (qa0 _) hc;have gr:=h.gc r c hr hc;generalize hz2:b+i+3+2*π+spot*(π+1)=zz at g0 gi gr;have rK:b+i+3+2*π<=zz:=by rw[←hz2];exact qc9 _ _
   have qR:(R spot c).natAbs<=2 ^ b:=by rw[h.old spot c (qa0 _) hs];exact H.rw spot c hs hc
   have bnd:∀{x y:Int},x.natAbs<=2 ^ π->y.natAbs<=2 ^ π->(x*R spot c+y*R i c).natAbs+2 ^ (i-(spot+1))*2 ^ (2*π+1)*2 ^ b<=2 ^ (zz+π+1):=fun {x y} hx hy=>by
    have e1:=qc8 (x*R spot c) (y*R i c);rw[qa4,qa4]at e1;have m1:=ED hx qR;have m2:=ED hy gi
    have m3:2 ^ (i-(spot+1))*2 ^ (2*π+1)*2 ^ b<=2 ^ (zz-2):=by
     rw[←qb7,←qb7];exact Cm O9m
    have m4:2 ^ (π+b)<=2 ^ (zz-2):=Cm O9m;have m5:4*2 ^ (zz-2)=2 ^ zz:=by rw[show zz=(zz-2)+2 by omega,qb7];simp;try omega
    have m6:2 ^ zz<=2 ^ (π+zz):=Cm O9m;have m7:2 ^ (zz+π+1)=2*2 ^ (π+zz):=by rw[show zz+π+1=1+(π+zz) by omega,qb7,Nat.pow_one]
    omega
   by_cases e1:r=i
   . subst e1;have a:=S2.gc c hc;rw[oR]at a;exact qa1 a (bnd e.lz e.lu)
   . by_cases e2:r=spot
     . subst e2;have a:=S1.gc c hc;rw[Eo ne]at a;rw[rs];exact qa1 a (bnd e.lx e.ly)
     . rw[keep r c e1 e2];exact qa1 gr (Cm O9m)
noncomputable def insT(t:Nat->Nat)(s st:Nat):Nat->Nat:=fun r=>if r<s then t r else if r=s then st else t (r-1)
structure EZ(n W w i:Nat)(G:Nat->Prop)(R0 B0:Mat)(t1:Nat->Nat)(Y:Nat)(R B:Mat):Prop where
 good:Good n W w (i+1) R0 B0 R B
 s0:Fn (i+1) R t1
 lt:∀j,j<=i->t1 j<W
 pg:∀j,j<=i->G (t1 j)
 gc:∀r c,r<=i->G c->(R r c).natAbs<=2 ^ Y
theorem Cr.ins{n W w i:Nat}{G:Nat->Prop}{R0 B0 R B:Mat}{t:Nat->Nat}{π b spot st:Nat}(H:Gb n W w i G R0 B0 t π b)(h:Cr n W w i G R0 B0 t π b spot R B)(hs:spot<=i)(h0:∀c,c<st->R i c=0)(h1:R i st≠0)(hW:st<W)(hG:G st)(iL:∀j,j<i->G (t j))(hex:spot<i->st<t spot) :
 EZ n W w i G R0 B0 (insT t spot st) (b+i+3+2*π+i*(π+1)) (if moveR R i spot spot st<0 then Es (moveR R i spot) spot else moveR R i spot) (if moveR R i spot spot st<0 then Es (moveR B i spot) spot else moveR B i spot):=by
 have row:∀c,moveR R i spot spot c=R i c:=fun c=>by rw[move_row];unfold mvI;rw[if_neg (by omega),if_pos rfl]
 have lo:∀r c,r<spot->moveR R i spot r c=R r c:=fun r c hr=>by rw[move_row];unfold mvI;rw[if_pos hr]
 have up:∀r c,spot<r->r<=i->moveR R i spot r c=R (r-1) c:=fun r c hr hi=>by rw[move_row];unfold mvI;rw[if_neg (by omega),if_neg (by omega),if_pos hi]
 have gm:Good n W w (i+1) R0 B0 (moveR R i spot) (moveR B i spot):=h.good.trans (Good.move R B O9m hs H.hi)
 have tl:∀j,j<spot->t j<st:=fun j hj=>by
  refine qg8 fun z=>h1 (h.pass j st hj z)
 have inc:∀j k,j<k->k<i+1->insT t spot st j<insT t spot st k:=fun j k hjk hk=>by
  unfold insT;by_cases a1:j<spot
  . rw[if_pos a1];by_cases b1:k<spot
    . rw[if_pos b1];exact H.part.inc j k (qa5 _) hjk O9m
    . rw[if_neg b1];by_cases b2:k=spot
      . rw[if_pos b2];exact tl j a1
      . rw[if_neg b2];exact H.part.inc j (k-1) (qa5 _) O9m O9m
  . rw[if_neg a1,if_neg (show ¬k<spot by omega),if_neg (show ¬k=spot by omega)];by_cases a2:j=spot
    . rw[if_pos a2];have e:=hex O9m;by_cases e2:k-1=spot
      . rw[e2];exact e
      . exact Nat.lt_trans e (H.part.inc spot (k-1) (qa5 _) O9m O9m)
    . rw[if_neg a2];exact H.part.inc (j-1) (k-1) (qa5 _) O9m O9m
 have zero:∀j c,j<i+1->c<insT t spot st j->moveR R i spot j c=0:=fun j c hj hc=>by
  unfold insT at hc;by_cases a1:j<spot
  . rw[if_pos a1]at hc;rw[lo j c a1];exact h.zero j c O9m hc
  . rw[if_neg a1]at hc;by_cases a2:j=spot
    . rw[if_pos a2]at hc;rw[a2,row];exact h0 c hc
    . rw[if_neg a2]at hc;rw[up j c (by omega) (by omega)];exact h.zero (j-1) c O9m hc
 have jP:∀j,j<i+1->j≠spot->0<moveR R i spot j (insT t spot st j):=fun j hj hne=>by
  unfold insT;by_cases a1:j<spot
  . rw[if_pos a1,lo j _ a1];exact h.pos j O9m
  . rw[if_neg a1,if_neg hne,up j _ (by omega) (by omega)];exact h.pos (j-1) O9m
 have ts:insT t spot st spot=st:=by unfold insT;rw[if_neg (by omega),if_pos rfl]
 have bd:∀r c,r<=i->G c->(moveR R i spot r c).natAbs<=2 ^ (b+i+3+2*π+i*(π+1)):=fun r c hr hc=>by
  rw[move_row]
  have lm:mvI i spot r<=i:=by
   unfold mvI;by_cases a1:r<spot
   . rw[if_pos a1];omega
   . rw[if_neg a1];by_cases a2:r=spot
     . rw[if_pos a2];omega
     . rw[if_neg a2,if_pos hr];omega
  refine qa1 (h.gc _ c lm hc) (Cm ?_);have:=qb1 (π+1) hs;omega
 have lt:∀j,j<=i->insT t spot st j<W:=fun j hj=>by
  unfold insT;split
  . exact H.lt j O9m
  . split
    . exact hW
    . exact H.lt (j-1) O9m
 have pg:∀j,j<=i->G (insT t spot st j):=fun j hj=>by
  unfold insT;split
  . exact iL j O9m
  . split
    . exact hG
    . exact iL (j-1) O9m
 by_cases neg:moveR R i spot spot st<0
 . rw[if_pos neg,if_pos neg];have nr:∀c,Es (moveR R i spot) spot spot c=- moveR R i spot spot c:=fun c=>Bd ..;have nn:∀r c,r≠spot->Es (moveR R i spot) spot r c=moveR R i spot r c:=fun r c hr=>Bl hr c;refine⟨gm.trans (Good.neg _ _ O9m H.hi),⟨inc,fun j c hj hc=>?_,fun j hj=>?_⟩,lt,pg,fun r c hr hc=>?_⟩
   . by_cases e:j=spot
     . have z:=zero j c hj hc;rw[e]at z ⊢;rw[nr,z];rfl
     . rw[nn j c e];exact zero j c hj hc
   . by_cases e:j=spot
     . rw[e,nr,ts];omega
     . rw[nn j _ e];exact jP j hj e
   . by_cases e:r=spot
     . have z:=bd r c hr hc;rw[e]at z ⊢;rw[nr,qb3];exact z
     . rw[nn r c e];exact bd r c hr hc
 . rw[if_neg neg,if_neg neg];refine⟨gm,⟨inc,zero,fun j hj=>?_⟩,lt,pg,bd⟩;by_cases e:j=spot
   . rw[e,ts];have:moveR R i spot spot st≠0:=by rw[row];exact h1
     omega
   . exact jP j hj e
structure Js(n W w i:Nat)(R0 B0:Mat)(t:Nat->Nat)(k:Nat)(R B:Mat):Prop where
 good:Good n W w (i+1) R0 B0 R B
 s0:Fn (i+1) R t
 old:∀r c,r<k->R r c=R0 r c
 red:∀r j,k<=r->r<j->j<=i->0<=R r (t j)/\R r (t j)<R j (t j)
 hd:∀j,j<=i->R j (t j)=R0 j (t j)
theorem Js.start{n W w i:Nat}{R B:Mat}{t:Nat->Nat}(h:Fn (i+1) R t):Js n W w i R B t (i+1) R B:=⟨Good.refl ..,h,fun _ _ _=>rfl,fun r j h1 h2 h3=>O9m,fun _ _=>rfl⟩
theorem Js.part{n W w i:Nat}{R0 B0 R B:Mat}{t:Nat->Nat}{k:Nat}(h:Js n W w i R0 B0 t k R B):Le R t k (i+1):=⟨fun j l _ h1 h2=>h.s0.inc j l h1 h2,fun j c _ h1 h2=>h.s0.zero j c h1 h2,fun j _ h1=>h.s0.pos j h1,fun r j h1 h2 h3=>h.red r j h1 h2 O9m⟩
theorem Js.next{n W w i:Nat}{R0 B0 R B R' B':Mat}{t:Nat->Nat}{k μ:Nat}(h:Js n W w i R0 B0 t (k+1) R B)(hk:k<=i)(S:aU n W w (i+1) R B t k (k+1) (i+1) (i+1) μ R' B'):Js n W w i R0 B0 t k R' B':=by
 have tl:∀c,c<=t k->R' k c=R k c:=fun c hc=>S.left c fun l h1 h2=>by have:=h.s0.inc k l O9m h2;omega
 refine⟨h.good.trans S.good,⟨h.s0.inc,fun j c hj hc=>?_,fun j hj=>?_⟩,fun r c hr=>?_,fun r j h1 h2 h3=>?_,fun j hj=>?_⟩
 . by_cases e:j=k
   . subst e;rw[tl c (by omega)];exact h.s0.zero j c hj hc
   . rw[S.same j c e];exact h.s0.zero j c hj hc
 . by_cases e:j=k
   . subst e;rw[tl _ (qa0 _)];exact h.s0.pos j hj
   . rw[S.same j _ e];exact h.s0.pos j hj
 . rw[S.same r c (by omega)];exact h.old r c O9m
 . rw[S.same j _ (show j≠k by omega)];by_cases e:r=k
   . subst e;exact S.red j O9m O9m
   . rw[S.same r _ e];exact h.red r j O9m h2 h3
 . by_cases e:j=k
   . subst e;rw[tl _ (qa0 _)];exact h.hd j hj
   . rw[S.same j _ e];exact h.hd j hj
structure Cs(n W w i:Nat)(G:Nat->Prop)(M B0:Mat)(t:Nat->Nat)(R B:Mat):Prop where
 good:Good n W w i M B0 R B
 st:Db W i R t
 pg:∀j,j<i->G (t j)
theorem Cs.start(n W w:Nat)(G:Nat->Prop)(M B0:Mat)(t:Nat->Nat):Cs n W w 0 G M B0 t M B0:=⟨Good.refl ..,⟨fun j hj=>O9m,fun j k _ hk=>O9m,fun j c hj=>O9m,fun j hj=>O9m,fun k j _ hj=>O9m⟩,fun j hj=>O9m⟩
theorem Cs.next{n W w i:Nat}{G:Nat->Prop}{M B0 R B R1 B1 R2 B2:Mat}{t t1:Nat->Nat}{Y:Nat}(h:Cs n W w i G M B0 t R B)(I:EZ n W w i G R B t1 Y R1 B1)(D:Js n W w i R1 B1 t1 0 R2 B2):Cs n W w (i+1) G M B0 t1 R2 B2 :=
 ⟨((h.good.mono O9m).trans I.good).trans D.good,⟨fun j hj=>I.lt j O9m,D.s0.inc,D.s0.zero,D.s0.pos,fun k j h1 h2=>D.red k j (qa5 _) h1 O9m⟩,fun j hj=>I.pg j O9m⟩
theorem Cs.rows{n W w:Nat}{G:Nat->Prop}{M B0 R B:Mat}{t:Nat->Nat}(h:Cs n W w n G M B0 t R B)(hw:w<=W):C7 n w M R:=by
 have e:=h.good.eqv n (qa0 _);have cut:∀{S:Mat}{v:Nat->Int},In W n S v->In w n S v:=fun⟨x,hx⟩=>⟨x,fun c hc=>hx c O9m⟩
 refine⟨fun i hi=>cut (e.1 i hi),fun i hi=>cut (e.2 i hi),?_⟩
 obtain⟨r,hr,h1,h2⟩:∃r,r<=n/\(∀j,j<r->t j<w)/\∀j,r<=j->j<n->w<=t j:=by
  have:∀m,m<=n->∃r,r<=m/\(∀j,j<r->t j<w)/\∀j,r<=j->j<m->w<=t j:=by
   intro m
   induction m with
   | zero=>intro _;exact⟨0,qa0 _,fun j hj=>O9m,fun j _ hj=>O9m⟩
   | succ m ih =>
     intro hm;obtain⟨r,a,b,c⟩:=ih O9m;by_cases z:t m<w
     . have hrm:r=m:=by
        refine qf6 a (qe9 fun y=>?_);have:=c r (qa0 _) y;have:=h.st.inc r m y O9m;omega
       exact⟨m+1,qa0 _,fun j hj=>by
        by_cases q:j=m
        . rw[q];exact z
        . exact b j O9m,fun j h1 h2=>O9m⟩
     . exact⟨r,O9m,b,fun j h1 h2=>by
        by_cases q:j=m
        . rw[q];omega
        . exact c j h1 O9m⟩
  exact this n (qa0 _)
 exact⟨r,t,hr,⟨h1,fun j k a b=>h.st.inc j k a O9m,fun j c a b=>h.st.zero j c O9m b,fun j a=>h.st.pos j O9m,fun k j a b=>h.st.red k j a O9m⟩,fun i c a b d=>h.st.zero i c b (by have:=h2 i a b;omega)⟩
noncomputable def unit(e:Int)(j:Nat):Nat->Int:=fun c=>if c=j then e else 0
noncomputable abbrev tr(T:Mat):Mat:=fun i j=>T j i
structure Fo(n w r:Nat)(e:Int)(T:Mat):Prop where
 rn:r<=n
 rw:r<=w
 row0:∀i c,r<=i->i<n->c<w->T i c=0
 col0:∀i c,i<n->r<=c->c<w->T i c=0
 rows:∀j,j<r->In w n T (unit e j)
 cols:∀i,i<r->In n w (tr T) (unit e i)
theorem Fo.flip{n w r:Nat}{e:Int}{T:Mat}(h:Fo n w r e T):Fo w n r e (tr T):=⟨h.rw,h.rn,fun i c h1 h2 h3=>h.col0 c i h3 h1 h2,fun i c h1 h2 h3=>h.row0 c i h2 h3 h1,h.cols,h.rows⟩
theorem Ml{n w r r':Nat}{e:Int}{T:Mat}{t:Nat->Nat}(he:0<e)(hr:r<=w)(hr':r'<=n)(hst:Db w r' T t)(hz:∀i c,r'<=i->i<n->c<w->T i c=0)(hc:∀i c,i<n->r<=c->c<w->T i c=0)(Kk:∀j,j<r->In w n T (unit e j)) :
 r'=r/\(∀j,j<r->t j=j)/\∀j,j<r->T j j∣e:=by
 have tl:∀j,j<r'->t j<r:=fun j hj=>by
  refine qg8 fun z=>?_;have p:=hst.pos j hj;rw[hc j (t j) (by omega) z (hst.lt j hj)]at p;omega
 have main:∀j,j<=r->j<=r'/\(∀k,k<j->t k=k)/\∀k,k<j->T k k∣e:=by
  intro j
  induction j with
  | zero=>intro _;exact⟨qa5 _,fun k hk=>O9m,fun k hk=>O9m⟩
  | succ j ih =>
    intro hj;obtain⟨a,b,c⟩:=ih O9m;obtain⟨x,hx⟩:=(Kk j O9m).sub hr' hz;have v0:∀k,k<j->unit e j (t k)=0:=fun k hk=>by rw[b k hk];exact if_neg O9m
    obtain⟨x0,x1⟩:=hst.lead hx j a v0;have ej:unit e j j=e:=if_pos rfl
    have lt:j<r':=by
     refine qg8 fun z=>?_
     have:unit e j j=0:=by
      rw[hx j (by omega)];exact Bc fun k hk=>by rw[x0 k (by omega)];simp
     omega
    have tj:t j=j:=by
     refine qf6 (qe9 fun z=>?_) (hst.ge j lt)
     have:unit e j j=0:=by
      rw[hx j (by omega)];refine Bc fun k hk=>?_;by_cases e1:k<j
      . rw[x0 k e1];simp
      . rw[hst.zero k j hk (qa8 z (hst.mono j k (by omega) hk))];simp
     omega
    have d:=x1 lt;rw[tj,ej]at d;refine⟨lt,fun k hk=>?_,fun k hk=>?_⟩
    . by_cases e1:k=j
      . rw[e1];exact tj
      . exact b k O9m
    . by_cases e1:k=j
      . rw[e1];exact⟨x j,by rw[d,qd4]⟩
      . exact c k O9m
 obtain⟨a,b,c⟩:=main r (qa0 _);refine⟨qf6 (qe9 fun z=>?_) a,b,c⟩;have:=tl r z;have:=hst.ge r z;omega
theorem P9{n w r:Nat}{e:Int}{T:Mat}{t:Nat->Nat}(Yv:r<=n)(hrw:r<=w)(hst:Db w r T t)(hz:∀i c,r<=i->i<n->c<w->T i c=0)(hc:∀i c,i<n->r<=c->c<w->T i c=0)(Kk:∀j,j<r->In w n T (unit e j)):∀i,i<r->In n w (tr T) (unit e i):=by
 have ch:∀j,∃x:Nat->Int,j<r->∀c,c<w->unit e j c=Ah (fun k=>x k*T k c) r:=fun j=>by
  by_cases hj:j<r
  . obtain⟨x,hx⟩:=(Kk j hj).sub Yv hz;exact⟨x,fun _=>hx⟩
  . exact⟨fun _=>0,fun z=>absurd z hj⟩
 obtain⟨X,hX⟩:∃X:Nat->Nat->Int,∀j,j<r->∀c,c<w->unit e j c=Ah (fun k=>X j k*T k c) r:=Classical.axiomOfChoice ch
 have key:∀i,i<r->∀j,j<r->Ah (fun c=>T i c*X c j) r=if i=j then e else 0:=by
  intro i hi
  have hz0:∀c,c<w->(fun _=>(0:Int)) c=Ah (fun j=>(Ah (fun d=>T i d*X d j) r-(if i=j then e else 0))*T j c) r:=by
   intro c hcw
   have e1:Ah (fun j=>(Ah (fun d=>T i d*X d j) r-(if i=j then e else 0))*T j c) r=Ah (fun j=>Ah (fun d=>T i d*X d j*T j c) r+(-1)*((if j=i then 1 else 0)*(e*T j c))) r:=by
    refine Aj fun j _=>?_;rw[Int.sub_mul,←Ff];by_cases z:i=j
    . subst z;rw[if_pos rfl,if_pos rfl];omega
    . rw[if_neg z,if_neg fun y=>z y.symm];omega
   rw[e1,B9,Ay,B7 (fun j=>e*T j c) i r,if_pos hi,Cz]
   have e2:Ah (fun d=>Ah (fun j=>T i d*X d j*T j c) r) r=Ah (fun d=>T i d*unit e d c) r:=by
    refine Aj fun d hd=>?_;rw[hX d hd c hcw,←Ay];exact Aj fun j _=>qe0 ..
   rw[e2];show(0:Int)=_;by_cases hcr:c<r
   . rw[Bm (j:=c) hcr fun d hd hne=>by show T i d*(if c=d then e else 0)=0;rw[if_neg fun y=>hne y.symm];simp];show(0:Int)=T i c*(if c=c then e else 0)+-1*(e*T i c);rw[if_pos rfl,qd4];omega
   . rw[Bc fun d hd=>by show T i d*(if c=d then e else 0)=0;rw[if_neg (by omega)];simp,hc i c (by omega) (by omega) hcw];simp
  obtain⟨a,_⟩:=hst.lead hz0 r (qa0 _) fun _ _=>rfl;intro j hj;have:=a j hj;omega
 intro i hi;refine⟨fun c=>if c<r then X c i else 0,fun c hcn=>?_⟩;show unit e i c=Ah (fun k=>(if k<r then X k i else 0)*T c k) w
 have e1:Ah (fun k=>(if k<r then X k i else 0)*T c k) w=Ah (fun k=>T c k*X k i) r:=by
  have:∀m,r<=m->m<=w->Ah (fun k=>(if k<r then X k i else 0)*T c k) m=Ah (fun k=>T c k*X k i) r:=by
   intro m
   induction m with
   | zero =>
     intro h1 _;have:r=0:=O9m
     subst this;rfl
   | succ m ih =>
     intro h1 h2;by_cases q:r=m+1
     . subst q;refine Aj fun k hk=>?_;rw[if_pos hk,qd4]
     . show Ah _ m+(if m<r then X m i else 0)*T c m=_;rw[ih (by omega) (by omega),if_neg (by omega)];simp
  exact this w hrw (qa0 _)
 rw[e1];by_cases hcr:c<r
 . rw[key c hcr i hi];rfl
 . rw[Bc fun k hk=>by rw[hz c k (by omega) hcn (by omega)];simp];exact if_neg O9m
theorem C7.square{n w r:Nat}{e:Int}{T T':Mat}(s:C7 n w T T')(he:0<e)(h:Fo n w r e T):Fo n w r e T'/\∃t,Db w r T' t/\(∀j,j<r->t j=j)/\∀j,j<r->T' j j∣e:=by
 obtain⟨r',t,hr',hst,hz⟩:=s.st
 have hc:∀i c,i<n->r<=c->c<w->T' i c=0:=fun i c hi h1 h2=>by
  obtain⟨x,hx⟩:=s.fwd i hi;rw[hx c h2];exact Bc fun k hk=>by rw[h.col0 k c hk h1 h2];simp
 have Kk:∀j,j<r->In w n T' (unit e j):=fun j hj=>(h.rows j hj).trans s.bwd;obtain⟨e1,e2,e3⟩:=Ml he h.rw hr' hst hz hc Kk;subst e1;exact⟨⟨h.rn,h.rw,hz,hc,Kk,P9 h.rn h.rw hst hz hc Kk⟩,t,hst,e2,e3⟩
theorem l9{n w r:Nat}{e:Int}{T:Mat}{t:Nat->Nat}(he:0<e)(h:Fo n w r e T)(hst:Db w r T t)(ht:∀j,j<r->t j=j)(hd:∀j,j<r->T j j∣e){i c:Nat}(hi:i<n)(hc:c<w):0<=T i c/\T i c<=e:=by
 by_cases a:i<r
 . by_cases b:c<r
   . have l:=qj0 he (hd c b);rcases qi8 i c with z | z | z
     . have:=hst.red i c z b;rw[ht c b]at this;omega
     . subst z;have:=hst.pos i a;rw[ht i a]at this;omega
     . rw[hst.zero i c a (by rw[ht i a];exact z)];omega
   . rw[h.col0 i c hi (by omega) hc];omega
 . rw[h.row0 i c (by omega) hi hc];omega
theorem Yy{n w r:Nat}{T:Mat}{t:Nat->Nat}(Yv:r<=n)(hst:Db w r T t)(hz:∀i c,r<=i->i<n->c<w->T i c=0):∀i,i<r->In n w (tr T) (unit (prodN (fun j=>T j (t j)) r) i):=by
 have main:∀m i,i<m->m<=r->In n w (tr T) (unit (prodN (fun j=>T j (t j)) (i+1)) i):=by
  intro m
  induction m with
  | zero=>intro i hi;omega
  | succ m ih =>
    intro i hi hm;by_cases q:i<m
    . exact ih i q O9m
    have qi:i=m:=O9m
    subst qi
    have up:∀k,k<=i->In n w (tr T) (fun d=>Ah (fun l=>(T l (t i)*prodN (fun j=>T j (t j)) i)*(if d=l then 1 else 0)) k):=by
     intro k
     induction k with
     | zero=>intro _;exact In.zero ..
     | succ k ihk =>
       intro hk;have hk2:=ih k O9m O9m
       obtain⟨g,hg⟩:∃g,prodN (fun j=>T j (t j)) i=prodN (fun j=>T j (t j)) (k+1)*g:=by
        have:∀m,k+1<=m->∃g,prodN (fun j=>T j (t j)) m=prodN (fun j=>T j (t j)) (k+1)*g:=by
         intro m
         induction m with
         | zero=>intro h;omega
         | succ m MY =>
           intro h;by_cases z:k+1=m+1
           . exact⟨1,by rw[z];omega⟩
           . obtain⟨g,hg⟩:=MY O9m;exact⟨g*T m (t m),by show prodN _ m*T m (t m)=_;rw[hg,qe0]⟩
        exact this i O9m
       refine((ihk O9m).mix hk2 1 (T k (t i)*g)).congr fun d _=>?_;show 1*Ah _ k+T k (t i)*g*(if d=k then prodN (fun j=>T j (t j)) (k+1) else 0)=Ah _ k+T k (t i)*prodN (fun j=>T j (t j)) i*(if d=k then 1 else 0);rw[hg];by_cases z:d=k
       . rw[if_pos z,if_pos z];grind
       . rw[if_neg z,if_neg z];omega
    have col:In n w (tr T) (tr T (t i)):=In.row (hst.lt i O9m);refine(col.mix (up i (qa0 _)) (prodN (fun j=>T j (t j)) i) (-1)).congr fun d hd=>?_;show prodN (fun j=>T j (t j)) i*T d (t i)+-1*Ah (fun l=>(T l (t i)*prodN (fun j=>T j (t j)) i)*(if d=l then 1 else 0)) i=unit (prodN (fun j=>T j (t j)) (i+1)) i d;by_cases z:d<i
    . rw[Bm (j:=d) z fun l hl hne=>by rw[if_neg fun y=>hne y.symm];simp,if_pos rfl];rw[show unit (prodN (fun j=>T j (t j)) (i+1)) i d=0 from if_neg (by omega)]
      grind
    . rw[Bc fun l hl=>by rw[if_neg (by omega)];simp];by_cases z2:d=i
      . subst z2;rw[show unit (prodN (fun j=>T j (t j)) (d+1)) d d=prodN (fun j=>T j (t j)) (d+1) from if_pos rfl];show _=prodN (fun j=>T j (t j)) d*T d (t d);omega
      . rw[show unit (prodN (fun j=>T j (t j)) (i+1)) i d=0 from if_neg z2]
        have:T d (t i)=0:=by
         by_cases z3:d<r
         . exact hst.s0.low z3 O9m
         . exact hz d _ O9m hd (hst.lt i O9m)
        rw[this];simp
 intro i hi
 obtain⟨g,hg⟩:∃g,prodN (fun j=>T j (t j)) r=prodN (fun j=>T j (t j)) (i+1)*g:=by
  have:∀m,i+1<=m->∃g,prodN (fun j=>T j (t j)) m=prodN (fun j=>T j (t j)) (i+1)*g:=by
   intro m
   induction m with
   | zero=>intro h;omega
   | succ m MY =>
     intro h;by_cases z:i+1=m+1
     . exact⟨1,by rw[z];omega⟩
     . obtain⟨g,hg⟩:=MY O9m;exact⟨g*T m (t m),by show prodN _ m*T m (t m)=_;rw[hg,qe0]⟩
  exact this r hi
 refine((main r i hi (qa0 _)).mix (In.zero ..) g 0).congr fun d _=>?_;show g*(if d=i then prodN (fun j=>T j (t j)) (i+1) else 0)+0*0=if d=i then prodN (fun j=>T j (t j)) r else 0
 by_cases z:d=i
 . rw[if_pos z,if_pos z,hg];grind
 . rw[if_neg z,if_neg z];omega
theorem Oo.square{n w:Nat}{T T' Ip:Mat}{r:Nat}{t:Nat->Nat}(hr:r<=n)(hst:Db w r T' t)(hz:∀i c,r<=i->i<n->c<w->T' i c=0)(s2:C7 w n (tr T') (tr Ip)):r<=w/\Fo n w r (prodN (fun j=>T' j (t j)) r) Ip/\∃u,Db n r (tr Ip) u/\(∀j,j<r->u j=j)/\∀j,j<r->Ip j j∣prodN (fun j=>T' j (t j)) r:=by
 have he:0<prodN (fun j=>T' j (t j)) r:=Cg fun j hj=>hst.pos j hj;obtain⟨q,u,hq,Sl,cB⟩:=s2.st
 have hrw:r<=w:=by
  by_cases z:r=0
  . omega
  . have:=hst.ge (r-1) O9m;have:=hst.lt (r-1) O9m;omega
 have hc:∀i c,i<w->r<=c->c<n->tr Ip i c=0:=fun i c hi h1 h2=>by
  obtain⟨x,hx⟩:=s2.fwd i hi;rw[hx c h2];exact Bc fun k hk=>by rw[show tr T' k c=0 from hz c k h1 h2 hk];simp
 have Kk:∀j,j<r->In n w (tr Ip) (unit (prodN (fun j=>T' j (t j)) r) j):=fun j hj=>(Yy hr hst hz j hj).trans s2.bwd;obtain⟨e1,e2,e3⟩:=Ml he hr hq Sl cB hc Kk;subst e1;have sq:Fo w n q (prodN (fun j=>T' j (t j)) q) (tr Ip):=⟨hrw,hr,cB,hc,Kk,P9 hrw hr Sl cB hc Kk⟩
 exact⟨hrw,sq.flip,u,Sl,e2,e3⟩
theorem BE:∀{n:Nat}{A:Mat},(∀r c,r<n->c<n->(A r c).natAbs<=1)->(∀c r r',c<n->r<n->r'<n->A r c≠0->A r' c≠0->r=r')->(det n A).natAbs<=1
 | 0,_,_,_=>by simp[det]
 | n+1,A,h1,h2=>by
   show(Ah (fun i=>Mp i*A i 0*det n (D8 A i)) (n+1)).natAbs<=1;by_cases e:∃r,r<n+1/\A r 0≠0
   . obtain⟨r,hr,hne⟩:=e
     rw[Bm (j:=r) hr fun k hk rR=>by
      have:A k 0=0:=qe2 fun z=>rR (h2 0 k r (by omega) hk hr z hne);rw[this];simp]
     rw[qa4,qa4,Mo,qd1]
     have ih:=BE (n:=n) (A:=D8 A r) (fun x c hx hc=>h1 _ _ (by split<;>omega) O9m) fun c x x' hc hx hx' a b=>by
      have:=h2 (c+1) (if x<r then x else x+1) (if x'<r then x' else x'+1) O9m (by split<;>omega) (by split<;>omega) a b;split at this<;>split at this<;>omega
     exact qa1 (qd0 (h1 r 0 hr O9m) ih) (by decide)
   . rw[Bc fun k hk=>by
      have:A k 0=0:=qe2 fun z=>e ⟨k,hk,z⟩;rw[this];simp]
     decide
theorem P3{n p:Nat}(A:Mat)(hp:p<n)(a:Nat->Int)(U:Mat):∀m,det n (Bp A p fun c=>Ah (fun k=>a k*U k c) m)=Ah (fun k=>a k*det n (Bp A p (U k))) m
 | 0=>by
   show det n (Bp A p fun c=>(0:Int))=0;exact Jj hp fun c _=>Bd ..
 | m+1=>by
   have e:(fun c=>Ah (fun k=>a k*U k c) (m+1))=fun c=>1*(fun c=>Ah (fun k=>a k*U k c) m) c+a m*U m c:=funext fun c=>by
    show Ah (fun k=>a k*U k c) m+a m*U m c=1*Ah (fun k=>a k*U k c) m+a m*U m c;omega
   rw[e,Dc A _ _ 1 (a m) hp,P3 A hp a U m];show 1*Ah (fun k=>a k*det n (Bp A p (U k))) m+a m*det n (Bp A p (U m))=Ah (fun k=>a k*det n (Bp A p (U k))) m+a m*det n (Bp A p (U m));rw[qb8]
noncomputable def Ph(s:Nat->Nat):Mat:=fun r l=>if s l=r then 1 else 0
noncomputable def Wl(T:Mat)(s:Nat->Nat)(k:Nat):Mat:=fun r l=>if r<k then Ph s r l else T r (s l)
theorem m8{i:Nat}{T:Mat}(h:∀r c,r<i->r<c->T r c=0)(s:Nat->Nat){k:Nat}(hk:k<i):det i (Wl T s k)=T k k*det i (Wl T s (k+1)):=by
 have e0:Wl T s k=Bp (Wl T s k) k fun c=>Ah (fun j=>T k j*Ph s j c) (k+1):=by
  funext r c
  by_cases z:r=k
  . subst z;rw[Bd];show(if r<r then Ph s r c else T r (s c))=_;rw[if_neg (by omega)];by_cases y:s c<r+1
    . rw[Bm (j:=s c) y fun j _ hne=>by
       have:Ph s j c=0:=if_neg fun z=>hne z.symm;rw[this];simp]
      have:Ph s (s c) c=1:=if_pos rfl;rw[this];simp
    . rw[Bc fun j hj=>by
       have:Ph s j c=0:=if_neg (by omega);rw[this];simp]
      exact h r (s c) hk O9m
  . rw[Bl z]
 rw[e0,P3 _ hk,Bm (j:=k) (by omega) fun j hj hne=>?_]
 . congr 1
   refine Bu fun r c hr hc=>?_;by_cases z:r=k
   . subst z;rw[Bd];show _=if r<r+1 then Ph s r c else T r (s c)
     rw[if_pos (by omega)]
   . rw[Bl z];show(if r<k then Ph s r c else T r (s c))=if r<k+1 then Ph s r c else T r (s c)
     by_cases y:r<k
     . rw[if_pos y,if_pos (by omega)]
     . rw[if_neg y,if_neg (by omega)]
 . rw[C0 (p:=j) (q:=k) (by omega) hk hne fun c _=>?_,qc7];rw[Bd,Bl hne];show(if j<k then Ph s j c else T j (s c))=_;rw[if_pos (by omega)]
theorem Zq{i:Nat}{T:Mat}(h:∀r c,r<i->r<c->T r c=0)(s:Nat->Nat):∀k,k<=i->det i (fun r l=>T r (s l))=prodN (fun j=>T j j) k*det i (Wl T s k)
 | 0,_=>by
   show _=1*det i (Wl T s 0);rw[qb8]
   exact Bu fun r c hr hc=>by
    show _=if r<0 then Ph s r c else T r (s c)
    rw[if_neg (by omega)]
 | k+1,hk=>by
   rw[Zq h s k (by omega),m8 h s (by omega)];show _=prodN (fun j=>T j j) k*T k k*_;rw[qe0]
theorem gD{i:Nat}{T:Mat}(h:∀r c,r<i->r<c->T r c=0)(s:Nat->Nat):(det i fun r l=>T r (s l)).natAbs<=(prodN (fun j=>T j j) i).natAbs:=by
 rw[Zq h s i (qa0 _),qa4]
 have e:(det i (Wl T s i)).natAbs<=1:=by
  have k:∀r c,r<i->Wl T s i r c=if s c=r then 1 else 0:=fun r c hr=>by
   show(if r<i then Ph s r c else T r (s c))=_;rw[if_pos hr];rfl
  refine BE (fun r c hr hc=>?_) fun c r r' hc hr hr' a b=>?_
  . rw[k r c hr];split<;>decide
  . rw[k r c hr]at a;rw[k r' c hr']at b;split at a
    . split at b
      . omega
      . exact absurd rfl b
    . exact absurd rfl a
 exact qa1 (qc5 _ e) O9m
noncomputable def Jt(n:Nat)(G:Nat->Prop)(M:Mat)(D:Nat):Prop:=∀i,i<=n->∀s:Nat->Nat,(∀l,l<i->G (s l))->(det i fun r l=>M r (s l)).natAbs<=D
theorem Cs.detsD{n W w i m:Nat}{G:Nat->Prop}{M B0 R B:Mat}{t:Nat->Nat}{D:Nat}(hD:Jt m G M D)(h:Cs n W w i G M B0 t R B)(hi:i<=m){s:Nat->Nat}(hs:∀l,l<i->G (s l)):(det i fun r l=>R r (s l)).natAbs<=D:=by
 rw[h.good.det i (qa0 _) s];exact hD i hi s hs
theorem Cs.headD{n W w i m:Nat}{G:Nat->Prop}{M B0 R B:Mat}{t:Nat->Nat}{D:Nat}(hD:Jt m G M D)(h:Cs n W w i G M B0 t R B)(hi:i<=m){j:Nat}(hj:j<i):(R j (t j)).natAbs<=D:=by
 have:=eL h.st.s0 (h.detsD hD hi (s:=t) h.pg) hj;have p:=h.st.pos j hj;omega
theorem Cs.rowD{n W w i m:Nat}{G:Nat->Prop}{M B0 R B:Mat}{t:Nat->Nat}{D:Nat}(hD:Jt m G M D)(h:Cs n W w i G M B0 t R B)(hi:i<=m)(fQ:∀c,G c->c<W){r c:Nat}(hr:r<i)(hc:G c):(R r c).natAbs<=i*D:=by
 have:=DH h.st.s0 h.st.lt (In.row hr) (κ:=1) (D:=D) (fQ c hc) (fun j hj=>?_) fun k hk=>h.detsD hD hi fun l hl=>?_
 . rw[qd1]at this;exact this
 . rw[qd1];rcases qi8 r j with z | z | z
   . obtain⟨a,b⟩:=h.st.red r j z hj;omega
   . rw[z];exact qa0 _
   . rw[h.st.s0.low hr z];exact qa5 _
 . cases l with
   | zero=>exact hc
   | succ l=>exact h.pg _ (by split<;>omega)
theorem Cs.putD{n W w i m:Nat}{G:Nat->Prop}{M B0 R B:Mat}{t:Nat->Nat}{D:Nat}(hD:Jt m G M D)(h:Cs n W w i G M B0 t R B)(hm:i<=m)(hi:i<n)(fQ:∀c,G c->c<W){b0 π b:Nat}(hM:∀c,G c->(M i c).natAbs<=2 ^ b0)(h1:D<=2 ^ π)(h2:i*D<=2 ^ b)(h3:b0<=π)(h4:b0<=b):Gb n W w i G R B t π b:=by
 refine⟨hi,⟨fun j k _=>h.st.inc j k,fun j c _=>h.st.zero j c,fun j _=>h.st.pos j,fun k j _=>h.st.red k j⟩,h.st.lt,fun j hj=>qa1 (h.headD hD hm hj) h1,fun r c hr hc=>qa1 (h.rowD hD hm fQ hr hc) h2,fun c hc=>?_,fun l hl=>?_⟩
 . rw[h.good.rest i c (qa0 _)];exact qa1 (hM c hc) (Cm h4)
 . rw[h.good.rest i _ (qa0 _)];exact qa1 (hM _ (h.pg l hl)) (Cm h3)
theorem Fo.free{n w r:Nat}{e:Int}{T:Mat}(he:0<e)(h:Fo n w r e T){m:Nat}(hm:m<=r){x:Nat->Int}(hx:∀c,c<w->Ah (fun k=>x k*T k c) m=0):∀k,k<m->x k=0:=by
 intro l hl;obtain⟨y,hy⟩:=h.cols l O9m;have e1:Ah (fun c=>y c*Ah (fun k=>x k*T k c) m) w=0:=Bc fun c hc=>by rw[hx c hc];simp
 have e2:Ah (fun c=>y c*Ah (fun k=>x k*T k c) m) w=Ah (fun k=>x k*unit e l k) m:=by
  rw[show(fun c=>y c*Ah (fun k=>x k*T k c) m)=fun c=>Ah (fun k=>x k*(y c*T k c)) m from funext fun c=>by
   rw[←Ay];exact Aj fun k _=>by grind]
  rw[Cz];refine Aj fun k hk=>?_;rw[hy k (by have:=h.rn;omega),←Ay]
 rw[e2,Bm (j:=l) hl fun k _ hne=>by
  have:unit e l k=0:=if_neg hne;rw[this];simp]at e1
 have:unit e l l=e:=if_pos rfl;rw[this]at e1;rcases ql9.mp e1 with z | z
 . exact z
 . omega
theorem dG{n W w r i:Nat}{e:Int}{T M B0 R B:Mat}(he:0<e)(h:Fo n w r e T)(hM:∀k c,k<n->c<w->M k c=T k c)(hi:i<r)(g:Good n W w (i+1) M B0 R B)(hW:w+n<=W)(d:D5 n w M B0):∃c,c<w/\R i c≠0:=by
 have rn:=h.rn;refine qe2 fun z=>?_;have z0:∀c,c<w->R i c=0:=fun c hc=>qe2 fun y=>z ⟨c,hc,y⟩;obtain⟨x,hx⟩:=(g.eqv (i+1) (qa0 _)).1 i O9m
 have x0:=h.free he (m:=i+1) O9m (x:=x) fun c hc=>by
  rw[←z0 c hc,hx c (by omega)];exact Aj fun k hk=>by rw[hM k c (by omega) hc]
 obtain⟨c,hc,hne⟩:=(g.dual d).row (i:=i) O9m;refine hne ?_;rw[hx (w+c) (by omega)];exact Bc fun k hk=>by rw[x0 k hk];simp
structure Lf(n W w r:Nat)(kt:Nat->Nat)(hd:Nat->Int)(M:Mat):Prop where
 zero:∀j c,r<=j->j<n->c<kt j->M j c=0
 inc:∀j k,r<=j->j<k->k<n->kt j<kt k
 ge:∀j,r<=j->j<n->w<=kt j
 lt:∀j,r<=j->j<n->kt j<W
 head:∀j,r<=j->j<n->M j (kt j)=hd j
 pos:∀j,r<=j->j<n->0<hd j
 red:∀k j,r<=j->k<j->j<n->0<=M k (kt j)/\M k (kt j)<hd j
structure Bx(n W w r i:Nat)(G:Nat->Prop)(M B0:Mat)(kt:Nat->Nat)(hd:Nat->Int)(t:Nat->Nat)(R B:Mat):Prop where
 st:Cs n W w i G M B0 t R B
 tab:∀j,j<r->j<i->t j<w
 ker:∀j,r<=j->j<i->t j=kt j/\R j (t j)=hd j
theorem Bx.start(n W w r:Nat)(G:Nat->Prop)(M B0:Mat)(kt:Nat->Nat)(hd:Nat->Int)(t:Nat->Nat):Bx n W w r 0 G M B0 kt hd t M B0:=⟨Cs.start ..,fun j _ h=>O9m,fun j _ h=>O9m⟩
theorem Bx.next{n W w r i:Nat}{G:Nat->Prop}{M B0 R B R1 B1 R2 B2:Mat}{kt t:Nat->Nat}{hd:Nat->Int}{Y spot st:Nat}(h:Bx n W w r i G M B0 kt hd t R B)(hi:i<r)(hst:st<w)(hs:spot<=i)(I:EZ n W w i G R B (insT t spot st) Y R1 B1)(D:Js n W w i R1 B1 (insT t spot st) 0 R2 B2):Bx n W w r (i+1) G M B0 kt hd (insT t spot st) R2 B2:=by
 refine⟨h.st.next I D,fun j h1 h2=>?_,fun j h1 h2=>O9m⟩;unfold insT;split
 . exact h.tab j h1 O9m
 . split
   . exact hst
   . exact h.tab (j-1) O9m O9m
theorem Bx.skip{n W w r i:Nat}{G:Nat->Prop}{M B0 R B:Mat}{kt t:Nat->Nat}{hd:Nat->Int}(K:Lf n W w r kt hd M)(h:Bx n W w r i G M B0 kt hd t R B)(hi:r<=i)(hn:i<n){spot c:Nat}(hs:spot<i)(hc:c<=t spot):R i c=0:=by
 rw[h.st.good.rest i c (qa0 _)];refine K.zero i c hi hn ?_;have g:=K.ge i hi hn;by_cases z:spot<r
 . have:=h.tab spot z hs;omega
 . have:=(h.ker spot O9m hs).1;have:=K.inc spot i O9m hs hn;omega
theorem K4(R:Mat)(i:Nat):moveR R i i=R:=by
 funext r
 rw[move_row];unfold mvI;by_cases a:r<i
 . rw[if_pos a]
 . rw[if_neg a];by_cases b:r=i
   . rw[if_pos b,b]
   . rw[if_neg b,if_neg (by omega)]
theorem Bx.ins{n W w r i:Nat}{G:Nat->Prop}{M B0 R B:Mat}{kt t:Nat->Nat}{hd:Nat->Int}{π b:Nat}(K:Lf n W w r kt hd M)(h:Bx n W w r i G M B0 kt hd t R B)(hi:r<=i)(H:Gb n W w i G R B t π b)(hG:G (kt i)):EZ n W w i G R B (insT t i (kt i)) (b+i+3+2*π+i*(π+1)) R B/\∀spot,spot<=i->Cr n W w i G R B t π b spot R B:=by
 have all:∀spot,spot<=i->Cr n W w i G R B t π b spot R B:=by
  intro spot
  induction spot with
  | zero=>intro _;exact Cr.start H
  | succ s ih=>intro hs;exact(ih O9m).skip fun c hc=>h.skip K hi H.hi O9m hc
 refine⟨?_,all⟩;have e:R i (kt i)=hd i:=by rw[h.st.good.rest i _ (qa0 _)];exact K.head i hi H.hi
 have p:=K.pos i hi H.hi;have:=(all i (qa0 _)).ins H (qa0 _) (st:=kt i) (fun c hc=>by rw[h.st.good.rest i c (qa0 _)];exact K.zero i c hi H.hi hc) O9m (K.lt i hi H.hi) hG h.st.pg (fun z=>O9m);rw[K4,K4,if_neg (by omega),if_neg (by omega)]at this;exact this
theorem Bx.nextK{n W w r i:Nat}{G:Nat->Prop}{M B0 R B R2 B2:Mat}{kt t:Nat->Nat}{hd:Nat->Int}{Y:Nat}(K:Lf n W w r kt hd M)(h:Bx n W w r i G M B0 kt hd t R B)(hi:r<=i)(hn:i<n)(I:EZ n W w i G R B (insT t i (kt i)) Y R B)(D:Js n W w i R B (insT t i (kt i)) 0 R2 B2):Bx n W w r (i+1) G M B0 kt hd (insT t i (kt i)) R2 B2:=by
 have t1:∀j,j<i->insT t i (kt i) j=t j:=fun j hj=>if_pos hj;have t2:insT t i (kt i) i=kt i:=by unfold insT;rw[if_neg (by omega),if_pos rfl]
 refine⟨h.st.next I D,fun j h1 h2=>by rw[t1 j (by omega)];exact h.tab j h1 O9m,fun j h1 h2=>?_⟩;rw[D.hd j (by omega)];by_cases z:j=i
 . rw[z,t2];exact⟨rfl,by rw[h.st.good.rest i _ (qa0 _)];exact K.head i hi hn⟩
 . rw[t1 j (by omega)];exact h.ker j h1 O9m
theorem Bx.done{n W w r:Nat}{G:Nat->Prop}{M B0 R B:Mat}{kt t:Nat->Nat}{hd:Nat->Int}(K:Lf n W w r kt hd M)(h:Bx n W w r n G M B0 kt hd t R B):Lf n W w r kt hd R:=by
 refine⟨fun j c h1 h2 h3=>?_,K.inc,K.ge,K.lt,fun j h1 h2=>?_,K.pos,fun k j h1 h2 h3=>?_⟩
 . rw[←(h.ker j h1 h2).1]at h3;exact h.st.st.zero j c h2 h3
 . obtain⟨a,b⟩:=h.ker j h1 h2;rw[←a];exact b
 . obtain⟨a,b⟩:=h.ker j h1 h3;rw[←a,←b];exact h.st.st.red k j h2 h3
noncomputable def u7(V Z:Mat)(k:Nat):Mat:=fun r l=>if r<k then Z r l else V r l
theorem u6{i:Nat}{T V Z:Mat}(h:∀r c,r<i->c<i->V r c=Ah (fun j=>T r j*Z j c) (r+1)){k:Nat}(hk:k<i):det i (u7 V Z k)=T k k*det i (u7 V Z (k+1)):=by
 have e0:det i (u7 V Z k)=det i (Bp (u7 V Z k) k fun c=>Ah (fun j=>T k j*Z j c) (k+1)):=Bu fun r c hr hc=>by
  by_cases z:r=k
  . subst z;rw[Bd];show(if r<r then Z r c else V r c)=_;rw[if_neg (by omega)];exact h r c hr hc
  . rw[Bl z]
 rw[e0,P3 _ hk,Bm (j:=k) (by omega) fun j hj hne=>?_]
 . congr 1
   refine Bu fun r c hr hc=>?_;by_cases z:r=k
   . subst z;rw[Bd];show _=if r<r+1 then Z r c else V r c
     rw[if_pos (by omega)]
   . rw[Bl z];show(if r<k then Z r c else V r c)=if r<k+1 then Z r c else V r c
     by_cases y:r<k
     . rw[if_pos y,if_pos (by omega)]
     . rw[if_neg y,if_neg (by omega)]
 . rw[C0 (p:=j) (q:=k) (by omega) hk hne fun c _=>?_,qc7];rw[Bd,Bl hne];show(if j<k then Z j c else V j c)=_;rw[if_pos (by omega)]
theorem Zp{i:Nat}{T V Z:Mat}(h:∀r c,r<i->c<i->V r c=Ah (fun j=>T r j*Z j c) (r+1)):∀k,k<=i->det i V=prodN (fun j=>T j j) k*det i (u7 V Z k)
 | 0,_=>by
   show _=1*det i (u7 V Z 0);rw[qb8]
   exact Bu fun r c hr hc=>by
    show _=if r<0 then Z r c else V r c
    rw[if_neg (by omega)]
 | k+1,hk=>by
   rw[Zp h k (by omega),u6 h (by omega)];show _=prodN (fun j=>T j j) k*T k k*_;rw[qe0]
theorem Tu{w r:Nat}{U V:Mat}(hw:r<=w)(hU:∀k c,k<r->c<k->U k c=0)(hV:∀l,l<r->In w r U (V l))(h0:∀l i,l<r->i<r->l<i->V l i=0):prodN (fun j=>U j j) r∣prodN (fun j=>V j j) r:=by
 have ch:∀l,∃x:Nat->Int,l<r->∀c,c<w->V l c=Ah (fun k=>x k*U k c) r:=fun l=>by
  by_cases hl:l<r
  . obtain⟨x,hx⟩:=hV l hl;exact⟨x,fun _=>hx⟩
  . exact⟨fun _=>0,fun z=>absurd z hl⟩
 obtain⟨X,hX⟩:∃X:Nat->Nat->Int,∀l,l<r->∀c,c<w->V l c=Ah (fun k=>X l k*U k c) r:=Classical.axiomOfChoice ch;have e1:det r (tr V)=prodN (fun j=>V j j) r:=M7 (A:=tr V) fun i l hi hl=>h0 l i O9m hi hl;have e2:=Zp (i:=r) (T:=tr U) (V:=tr V) (Z:=tr X) (fun i l hi hl=>?_) r (qa0 _)
 . rw[e1]at e2;exact⟨_,e2⟩
 . show V l i=_;rw[hX l hl i (by omega)]
   have:∀m,m<=r-(i+1)->Ah (fun k=>X l k*U k i) (i+1+m)=Ah (fun j=>tr U i j*tr X j l) (i+1):=by
    intro m
    induction m with
    | zero=>intro _;exact Aj fun k _=>qd4 ..
    | succ m ih =>
      intro hm;show Ah (fun k=>X l k*U k i) (i+1+m)+X l (i+1+m)*U (i+1+m) i=_;rw[ih (by omega),hU (i+1+m) i (by omega) (by omega)];omega
   have:=this (r-(i+1)) (qa0 _);rw[show i+1+(r-(i+1))=r by omega]at this;exact this
theorem Qt{f:Nat->Int}{n:Nat}(h:∀k,k<n->0<f k):∀m,m<=n->prodN f m<=prodN f n:=fun m hm=>by
 have:∀d,m+d<=n->prodN f m<=prodN f (m+d):=by
  intro d
  induction d with
  | zero=>intro _;exact Int.le_refl _
  | succ d ih =>
    intro hd;refine qo0 (ih O9m) ?_;show prodN f (m+d)<=prodN f (m+d)*f (m+d);have p:=Cg (n:=m+d) fun k hk=>h k O9m;have q:=h (m+d) O9m;have:=qi5 (show 1<=f (m+d) by omega) (show 0<=prodN f (m+d) by omega);rw[ql8]at this;exact this
 have:=this (n-m) O9m;rw[show m+(n-m)=n by omega]at this;exact this
theorem BX{w r:Nat}{T:Mat}{E:Nat}(hp:∀j,j<r->0<T j j)(h:∀i c,i<r->c<w->i<c->T i c=0)(hE:prodN (fun j=>T j j) r<=E):Jt r (fun c=>c<w) T E:=fun i hi s hs=>by
 have t:=gD (i:=i) (T:=fun a c=>if c<w then T a c else 0) (fun a c ha hac=>by
  show(if c<w then T a c else 0)=0;by_cases z:c<w
  . rw[if_pos z];exact h a c O9m z hac
  . rw[if_neg z]) s
 have e:(det i fun r l=>T r (s l))=det i fun r l=>(fun a c=>if c<w then T a c else 0) r (s l):=Bu fun a c ha hc=>(if_pos (hs c hc)).symm;rw[e];refine qa1 t ?_;by_cases z:i<=w
 . have e2:prodN (fun j=>(fun a c=>if c<w then T a c else 0) j j) i=prodN (fun j=>T j j) i:=by
    have:∀m,m<=w->prodN (fun j=>(fun a c=>if c<w then T a c else 0) j j) m=prodN (fun j=>T j j) m:=by
     intro m
     induction m with
     | zero=>intro _;rfl
     | succ m ih =>
       intro hm;show _*_=_*_;rw[ih (by omega)];show _*(if m<w then T m m else 0)=_;rw[if_pos (by omega)]
    exact this i z
   rw[e2];have a:=Qt (n:=r) (f:=fun j=>T j j) hp i hi;have b:=Cg (n:=i) (f:=fun j=>T j j) fun k hk=>hp k O9m;omega
 . have e2:prodN (fun j=>(fun a c=>if c<w then T a c else 0) j j) i=0:=by
    have:∀m,w<m->prodN (fun j=>(fun a c=>if c<w then T a c else 0) j j) m=0:=by
     intro m
     induction m with
     | zero=>intro _;omega
     | succ m ih =>
       intro hm;show _*(if m<w then T m m else 0)=0;by_cases y:w<m
       . rw[ih y];simp
       . rw[if_neg (by omega)];simp
    exact this i O9m
   rw[e2];exact qa5 _
structure Dr(n w r:Nat)(E:Nat)(e:Int)(T:Mat):Prop where
 sq:Fo n w r e T
 low:∀i c,i<n->c<w->i<c->T i c=0
 pos:∀j,j<r->0<T j j
 dvd:∀j,j<r->T j j∣e
 prod:prodN (fun j=>T j j) r<=E
 le:∀i c,i<n->c<w->0<=T i c/\T i c<=e
 red:∀k j,k<j->j<r->0<=T j k/\T j k<T j j
theorem Xd{n w r:Nat}{E:Nat}{e:Int}{T:Mat}{u:Nat->Nat}(he:0<e)(sq:Fo n w r e T)(hst:Db n r (tr T) u)(hu:∀j,j<r->u j=j)(hd:∀j,j<r->T j j∣e)(hE:prodN (fun j=>T j j) r<=E):Dr n w r E e T:=by
 refine⟨sq,fun i c hi hc hic=>?_,fun j hj=>?_,hd,hE,fun i c hi hc=>l9 he sq.flip hst hu hd hc hi,fun k j hk hj=>by
  have:=hst.red k j hk hj;rw[hu j hj]at this;exact this⟩
 . by_cases z:c<r
   . exact hst.zero c i z (by rw[hu c z];exact hic)
   . exact sq.col0 i c hi O9m hc
 . have:=hst.pos j hj;rw[hu j hj]at this;exact this
theorem C7.going{n w r:Nat}{E:Nat}{e:Int}{T T':Mat}(s:C7 n w T T')(he:0<e)(h:Dr n w r E e T):Dr w n r E e (tr T'):=by
 obtain⟨sq,t,hst,ht,hd⟩:=s.square he h.sq;have pos:∀j,j<r->0<T' j j:=fun j hj=>by have:=hst.pos j hj;rw[ht j hj]at this;exact this
 refine Xd he sq.flip hst ht hd ?_;have rn:=h.sq.rn;have rw':=h.sq.rw;have d:=Tu (w:=w) (r:=r) (U:=T') (V:=T) rw' (fun k c hk hc=>hst.zero k c hk (by rw[ht k hk];exact hc)) (fun l hl=>(s.bwd l O9m).sub rn sq.row0) (fun l i hl hi hli=>h.low l i O9m O9m hli);have p:=Cg (n:=r) (f:=fun j=>T j j) h.pos;exact qo0 (qj0 p d) h.prod
theorem Oo.going{n w r:Nat}{E:Nat}{e:Int}{T Ip:Mat}(s:Oo n w T Ip)(he:0<e)(h:Dr n w r E e T):Dr n w r E e Ip:=by
 obtain⟨T',s1,s2⟩:=s;exact s2.going he (s1.going he h)
theorem Oo.first{n w r:Nat}{E:Nat}{T T' Ip:Mat}{t:Nat->Nat}(hr:r<=n)(hst:Db w r T' t)(hz:∀i c,r<=i->i<n->c<w->T' i c=0)(s2:C7 w n (tr T') (tr Ip))(hE:prodN (fun j=>T' j (t j)) r<=E):Dr n w r E (prodN (fun j=>T' j (t j)) r) Ip:=by
 obtain⟨hw,sq,u,hu,pJ,hd⟩:=Oo.square (T:=T) hr hst hz s2;have he:0<prodN (fun j=>T' j (t j)) r:=Cg fun j hj=>hst.pos j hj;refine Xd he sq hu pJ hd ?_;have d:=Tu (w:=n) (r:=r) (U:=tr Ip) (V:=fun l i=>T' i (t l)) hr (fun k c hk hc=>hu.zero k c hk (by rw[pJ k hk];exact hc)) (fun l hl=>(s2.bwd (t l) (hst.lt l hl)).sub hw sq.flip.row0) (fun l i hl hi hli=>hst.s0.low hi hli);exact qo0 (qj0 he d) hE
theorem Dr.dets{n w r:Nat}{E:Nat}{e:Int}{T:Mat}(h:Dr n w r E e T):Jt r (fun c=>c<w) T E:=BX h.pos (fun i c hi=>h.low i c (by have:=h.sq.rn;omega)) h.prod
noncomputable def AQ(n w r L m:Nat)(T:Mat):Prop:=Straight n w T\/(∃k,k<=r/\Iq n w k T/\(r-k)*(L+2)<=m)\/(∃k,k<r/\g9 n w k T/\(r-k-1)*(L+2)+(T k k).natAbs.log2+1<=m)
theorem Dr.straight{n w r:Nat}{E:Nat}{e:Int}{T:Mat}(h:Dr n w r E e T)(c:Iq n w r T):Straight n w T:=fun i j hi hj hne=>by
 by_cases z:i<r
 . exact c.2.2.2.1 i j z hj (fun y=>hne y.symm)
 . exact h.sq.row0 i j O9m hi hj
theorem log2_lt{a b:Nat}(ha:0<a)(h:a∣b)(hlt:a<b):a.log2<b.log2:=by
 obtain⟨k,hk⟩:=h
 have k2:2<=k:=by
  rcases k with _ | _ | k
  . omega
  . omega
  . omega
 have b2:2*a<=b:=by
  rw[hk,qn7 2 a];exact qc5 _ k2
 have e:(2*a).log2=a.log2+1:=Nat.log2_two_mul O9m
 have m:(2*a).log2<=b.log2:=by
  rw[Nat.le_log2 (by omega)];exact qa1 (Nat.log2_self_le O9m) b2
 omega
theorem AQ.start{n w r L:Nat}{E:Nat}{e:Int}{T:Mat}(h:Dr n w r E e T):AQ n w r L (r*(L+2)) T:=.inr (.inl ⟨0,qa5 _,⟨qa5 _,qa5 _,fun j hj=>O9m,fun j c hj=>O9m,fun i j _ hj=>O9m⟩,by rw[Nat.sub_zero];exact qa0 _⟩)
theorem Dr.next{n w r L m:Nat}{E:Nat}{e:Int}{T Ip:Mat}(he:0<e)(hL:e.natAbs.log2<=L)(h:Dr n w r E e T)(s:Oo n w T Ip)(f:AQ n w r L m T)(ns:¬Straight n w T):0<m/\AQ n w r L (m-1) Ip:=by
 have g:=s.going he h;rcases f with f|⟨k,hk,c,hm⟩|⟨k,hk,c,hm⟩
 . exact absurd f ns
 . have kr:k<r:=by
    refine Nat.lt_of_le_of_ne hk fun z=>ns ?_;subst z;exact h.straight c
   have e1:(r-k)*(L+2)=(r-k-1)*(L+2)+(L+2):=by rw[show r-k=(r-k-1)+1 by omega,qd3,qd1,Nat.add_sub_cancel]
   refine⟨O9m,?_⟩;obtain⟨c2,q⟩:=s.next c;rcases q with q | q
   . exact .inl q
   . refine .inr (.inr ⟨k,kr,q,?_⟩);have d:=h.dvd k kr;have d2:=g.dvd k kr;have p:=g.pos k kr
     have l:(Ip k k).natAbs.log2<=L:=by
      refine qa1 ?_ hL;rw[Nat.le_log2 (by omega)];refine qa1 (Nat.log2_self_le O9m) ?_;have:=qj0 he d2;omega
     omega
 . refine⟨O9m,?_⟩;rcases s.less c with q|⟨q1,q2,q3⟩
   . refine .inr (.inl ⟨k+1,O9m,q,?_⟩);rw[show r-(k+1)=r-k-1 by omega];omega
   . refine .inr (.inr ⟨k,hk,q1,?_⟩);have p:=g.pos k hk;have p0:=h.pos k hk;have:=log2_lt (a:=(Ip k k).natAbs) (b:=(T k k).natAbs) O9m (qn9.mpr q2) O9m;omega
end Lat
namespace Lat
structure IG(A B r1 x1 y1 r2 x2 y2:Int):Prop where
 e1:r1=x1*A+y1*B
 e2:r2=x2*A+y2*B
 dt:x1*y2-x2*y1=1\/x1*y2-x2*y1=-1
 dv:∀d:Int,d∣r1->d∣r2->d∣A/\d∣B
structure iR(A B r1 x1 y1 r2 x2 y2:Int):Prop where
 a:IG A B r1 x1 y1 r2 x2 y2
 rr:0<=r1*r2
 r0:r1≠0
 xx:x1*x2<=0
 yy:y1*y2<=0
 lx:x1.natAbs<=B.natAbs
 ly:y1.natAbs<=A.natAbs
theorem Zt{u v:Int}(h:0<=u*v):(u+v).natAbs=u.natAbs+v.natAbs:=by
 rcases Int.lt_trichotomy u 0 with z | z | z
 . have:v<=0:=by
    refine qn0.mp fun y=>?_;have:=Int.mul_neg_of_neg_of_pos z y;omega
   omega
 . subst z;omega
 . have:0<=v:=by
    refine qn0.mp fun y=>?_;have:=Int.mul_neg_of_pos_of_neg z y;omega
   omega
theorem iR.next_le{A B r1 x1 y1 r2 x2 y2:Int}(h:iR A B r1 x1 y1 r2 x2 y2):x2.natAbs<=B.natAbs/\y2.natAbs<=A.natAbs:=by
 have lI:1<=r1.natAbs:=by have:=h.r0;omega
 have hA:A.natAbs=(y2*r1+-y1*r2).natAbs:=by
  have e:(x1*y2-x2*y1)*A=y2*r1+-y1*r2:=by rw[h.a.e1,h.a.e2];grind
  rcases h.a.dt with d | d
  . rw[d,qb8]at e;rw[e]
  . rw[d]at e;have:A.natAbs=(-1*A).natAbs:=O9m
    rw[this,e]
 have hB:B.natAbs=(x2*r1+-x1*r2).natAbs:=by
  have e:(x1*y2-x2*y1)*B=-(x2*r1+-x1*r2):=by rw[h.a.e1,h.a.e2];grind
  rcases h.a.dt with d | d
  . rw[d,qb8]at e;rw[e,qb3]
  . rw[d]at e;have:B=x2*r1+-x1*r2:=O9m
    rw[this]
 have k1:0<=(y2*r1)*(-y1*r2):=by
  have:(y2*r1)*(-y1*r2)=(-(y1*y2))*(r1*r2):=by grind
  rw[this];exact qg3 (by have:=h.yy;omega) h.rr
 have k2:0<=(x2*r1)*(-x1*r2):=by
  have:(x2*r1)*(-x1*r2)=(-(x1*x2))*(r1*r2):=by grind
  rw[this];exact qg3 (by have:=h.xx;omega) h.rr
 rw[Zt k1,qa4]at hA;rw[Zt k2,qa4]at hB;have a1:x2.natAbs*1<=x2.natAbs*r1.natAbs:=qc5 _ lI;have a2:y2.natAbs*1<=y2.natAbs*r1.natAbs:=qc5 _ lI;omega
theorem IG.step{A B r1 x1 y1 r2 x2 y2:Int}(h:IG A B r1 x1 y1 r2 x2 y2)(q:Int):IG A B r2 x2 y2 (r1-q*r2) (x1-q*x2) (y1-q*y2):=by
 refine⟨h.e2,?_,?_,fun d h1 h2=>h.dv d ?_ h1⟩
 . rw[h.e1,h.e2];grind
 . have:x2*(y1-q*y2)-(x1-q*x2)*y2=-(x1*y2-x2*y1):=by grind
   rw[this];rcases h.dt with z | z<;>rw[z]<;>omega
 . have:=Int.dvd_add h2 (qn1 (a:=d) (b:=q) h1);have e:r1-q*r2+q*r2=r1:=O9m
   rw[e]at this;exact this
theorem Ty{r1 r2:Int}(h:0<=r1*r2)(h2:r2≠0):0<=r1.fdiv r2/\(r1-r1.fdiv r2*r2).natAbs<r2.natAbs/\0<=r2*(r1-r1.fdiv r2*r2):=by
 have e:r1-r1.fdiv r2*r2=r1.fmod r2:=by have:=Int.mul_fdiv_add_fmod r1 r2;rw[qd4]at this;omega
 rw[e];rcases Int.lt_or_gt_of_ne h2 with z | z
 . have TN:r1<=0:=by
    refine qn0.mp fun y=>?_;have:=Int.mul_neg_of_pos_of_neg y z;omega
   have q:r1.fdiv r2=(-r1).fdiv (-r2):=by rw[Int.neg_fdiv_neg]
   have m:r1.fmod r2=-((-r1).fmod (-r2)):=by rw[Int.neg_fmod_neg];omega
   have m0:=qn4 (a:=-r1) (b:=-r2) O9m;have m1:=qo8 (-r1) (b:=-r2) O9m;refine⟨?_,O9m,?_⟩
   . rw[q,qd7 _ (by omega)];exact Int.ediv_nonneg O9m O9m
   . rw[m];have:r2*-((-r1).fmod (-r2))=(-r2)*(-r1).fmod (-r2):=by rw[Int.mul_neg,qk8]
     rw[this];exact qg3 O9m m0
 . have lI:0<=r1:=by
    refine qn0.mp fun y=>?_;have:=Int.mul_neg_of_neg_of_pos y z;omega
   have m0:=qn4 (a:=r1) (b:=r2) z;have m1:=qo8 r1 z;refine⟨?_,O9m,qg3 O9m m0⟩;rw[qd7 _ (by omega)];exact Int.ediv_nonneg lI O9m
theorem iR.step{A B r1 x1 y1 r2 x2 y2:Int}(h:iR A B r1 x1 y1 r2 x2 y2)(h2:r2≠0):iR A B r2 x2 y2 (r1-r1.fdiv r2*r2) (x1-r1.fdiv r2*x2) (y1-r1.fdiv r2*y2)/\(r1-r1.fdiv r2*r2).natAbs<r2.natAbs:=by
 obtain⟨q0,q1,q2⟩:=Ty h.rr h2;obtain⟨l1,l2⟩:=h.next_le;generalize r1.fdiv r2=q at *;refine⟨⟨h.a.step q,q2,h2,?_,?_,l1,l2⟩,q1⟩
 . have:x2*(x1-q*x2)=x1*x2-q*(x2*x2):=by grind
   rw[this];have a:=h.xx;have b:0<=q*(x2*x2):=qg3 q0 (by rw[←Int.natAbs_mul_self (a:=x2)];omega);omega
 . have:y2*(y1-q*y2)=y1*y2-q*(y2*y2):=by grind
   rw[this];have a:=h.yy;have b:0<=q*(y2*y2):=qg3 q0 (by rw[←Int.natAbs_mul_self (a:=y2)];omega);omega
noncomputable def EuI(A B r1 x1 y1 r2 x2 y2:Int):Prop :=
 iR A B r1 x1 y1 r2 x2 y2\/(B<0/\r1=A/\x1=1/\y1=0/\r2=B/\x2=0/\y2=1) ∨
 (B<0/\r1=B/\x1=0/\y1=1/\r2=A-A.fdiv B*B/\x2=1/\y2=-(A.fdiv B))
theorem EuI.start{A B:Int}(hA:0<A)(hB:B≠0):EuI A B A 1 0 B 0 1:=by
 rcases Int.lt_or_gt_of_ne hB with z | z
 . exact .inr (.inl ⟨z,rfl,rfl,rfl,rfl,rfl,rfl⟩)
 . refine .inl ⟨⟨O9m,O9m,.inl rfl,fun d h1 h2=>⟨h1,h2⟩⟩,qg3 O9m O9m,O9m,O9m,O9m,O9m,O9m⟩
theorem Km{A B:Int}(hA:0<A)(hB:B<0):A.fdiv B<=-1/\-A<=A.fdiv B/\A-A.fdiv B*B<=0/\(A-A.fdiv B*B).natAbs<B.natAbs:=by
 have e:A-A.fdiv B*B=A.fmod B:=by have:=Int.mul_fdiv_add_fmod A B;rw[qd4]at this;omega
 have m:A.fmod B=-((-A).fmod (-B)):=by rw[Int.neg_fmod_neg];omega
 have m0:=qn4 (a:=-A) (b:=-B) O9m;have m1:=qo8 (-A) (b:=-B) O9m;have k:A.fdiv B*B=A-A.fmod B:=O9m
 rw[e]
 have q1:A.fdiv B<=-1:=by
  refine qn0.mp fun y=>?_;have:=qg3 (show 0<=A.fdiv B by omega) (show 0<=-B by omega);rw[Int.mul_neg]at this;omega
 refine⟨q1,?_,O9m,O9m⟩;refine qn0.mp fun y=>?_;have h:=Int.mul_le_mul (show A+1<=-(A.fdiv B) by omega) (show 1<=-B by omega) O9m O9m;have h2:-(A.fdiv B)*-B=A.fdiv B*B:=by rw[Int.neg_mul_neg]
 rw[h2]at h;have h3:=Int.mul_le_mul (show A+1<=-(A.fdiv B) by omega) (Int.le_refl (-B)) O9m O9m;rw[h2,Int.add_mul]at h3;have h4:A*1<=A*-B:=qi5 O9m O9m;omega
theorem EuI.step{A B r1 x1 y1 r2 x2 y2:Int}(hA:0<A)(h:EuI A B r1 x1 y1 r2 x2 y2)(h2:r2≠0) :
 EuI A B r2 x2 y2 (r1-r1.fdiv r2*r2) (x1-r1.fdiv r2*x2) (y1-r1.fdiv r2*y2)/\(r1-r1.fdiv r2*r2).natAbs<r2.natAbs:=by
 rcases h with h|⟨hB,e1,e2,e3,e4,e5,e6⟩|⟨hB,e1,e2,e3,e4,e5,e6⟩
 . exact⟨.inl (h.step h2).1,(h.step h2).2⟩
 . subst e1 e2 e3 e4 e5 e6;obtain⟨_,_,_,q⟩:=Km hA hB;exact⟨.inr (.inr ⟨hB,rfl,rfl,rfl,rfl,O9m,O9m⟩),q⟩
 . obtain⟨q1,q2,q3,q4⟩:=Km hA hB;have e0:IG A B A 1 0 B 0 1:=⟨O9m,O9m,.inl rfl,fun d h1 h2=>⟨h1,h2⟩⟩
   have e7:=e0.step (A.fdiv B);rw[←e4]at e7 q3 q4
   have rr:0<=B*r2:=by
    have:=qg3 (show 0<=-B by omega) (show 0<=-r2 by omega);rw[Int.neg_mul_neg]at this;exact this
   obtain⟨p0,p1,p2⟩:=Ty rr h2
   have p3:1<=B.fdiv r2:=by
    refine qn0.mp fun y=>?_;have:B.fdiv r2=0:=O9m
    rw[this]at p1;omega
   have f1:(1:Int)-A.fdiv B*0=x2:=O9m
   have f2:(0:Int)-A.fdiv B*1=y2:=O9m
   rw[f1,f2]at e7;have e8:=e7.step (B.fdiv r2);subst e1 e2 e3;refine⟨.inl ⟨e8,p2,h2,?_,?_,O9m,O9m⟩,p1⟩
   . subst e5;omega
   . generalize r1.fdiv r2=p at *;have g1:y2*(1-p*y2)=-((p*y2-1)*y2):=by grind
     rw[g1];have g2:1*y2<=p*y2:=qg5 p3 O9m;have:=qg3 (show 0<=p*y2-1 by omega) (show 0<=y2 by omega);omega
theorem EuI.all{A B r1 x1 y1 r2 x2 y2:Int}(hA:0<A)(hB:B≠0)(h:EuI A B r1 x1 y1 r2 x2 y2) :
 IG A B r1 x1 y1 r2 x2 y2/\r1≠0/\x1.natAbs<=B.natAbs/\y1.natAbs<=A.natAbs/\x2.natAbs<=B.natAbs/\y2.natAbs<=A.natAbs:=by
 have e0:IG A B A 1 0 B 0 1:=⟨O9m,O9m,.inl rfl,fun d h1 h2=>⟨h1,h2⟩⟩
 rcases h with h|⟨hB,e1,e2,e3,e4,e5,e6⟩|⟨hB,e1,e2,e3,e4,e5,e6⟩
 . exact⟨h.a,h.r0,h.lx,h.ly,h.next_le.1,h.next_le.2⟩
 . subst e1 e2 e3 e4 e5 e6;exact⟨e0,O9m,O9m,O9m,O9m,O9m⟩
 . obtain⟨q1,q2,q3,q4⟩:=Km hA hB;have e7:=e0.step (A.fdiv B);have f1:(1:Int)-A.fdiv B*0=x2:=O9m
   have f2:(0:Int)-A.fdiv B*1=y2:=O9m
   rw[f1,f2,←e4]at e7;subst e1 e2 e3;exact⟨e7,O9m,O9m,O9m,O9m,O9m⟩
structure Shares(A B g a b:Int):Prop where
 pos:0<g
 e:g=a*A+b*B
 dA:g∣A
 dB:g∣B
 la:a.natAbs<=B.natAbs
 lb:b.natAbs<=A.natAbs
theorem EuI.last{A B r1 x1 y1 x2 y2:Int}(hA:0<A)(hB:B≠0)(h:EuI A B r1 x1 y1 0 x2 y2) :
 (0<r1->Shares A B r1 x1 y1)/\(r1<0->Shares A B (-r1) (-x1) (-y1))/\r1≠0:=by
 obtain⟨k,r0,a1,a2,_,_⟩:=h.all hA hB;obtain⟨d1,d2⟩:=k.dv r1 (Int.dvd_refl _) (Int.dvd_zero _);refine⟨fun p=>⟨p,k.e1,d1,d2,a1,a2⟩,fun p=>⟨O9m,?_,Int.neg_dvd.mpr d1,Int.neg_dvd.mpr d2,O9m,O9m⟩,r0⟩;rw[k.e1,qk8,qk8];omega
theorem Shares.blend{A B g a b:Int}{π:Nat}(hA:0<A)(h:Shares A B g a b)(lA:A.natAbs<=2 ^ π)(lB:B.natAbs<=2 ^ π):i4 π A B a b (-(B / g)) (A / g):=by
 obtain⟨p,eA⟩:=h.dA;obtain⟨q,eB⟩:=h.dB;have g0:g≠0:=by have:=h.pos;omega
 have k1:A / g=p:=by rw[eA];exact qg7 _ g0
 have k2:B / g=q:=by rw[eB];exact qg7 _ g0
 have gn:1<=g.natAbs:=by have:=h.pos;omega
 have n1:p.natAbs<=A.natAbs:=by rw[eA,qa4];exact qk5 _ gn
 have n2:q.natAbs<=B.natAbs:=by rw[eB,qa4];exact qk5 _ gn
 rw[k1,k2];refine⟨?_,by have:=h.pos;have:=h.e;omega,?_,qa1 h.la lB,qa1 h.lb lA,O9m,O9m⟩
 . have e:=h.e
   have:g*(a*p-b*-q)=g*1:=by
    rw[ql8];refine Eq.trans ?_ e.symm;rw[eA,eB]
    grind
   exact Int.eq_of_mul_eq_mul_left g0 this
 . rw[eA,eB]
   grind
end Lat
namespace Lat
open Hb
noncomputable def Lq(n:Nat)(C:Nat->Prop)(δ b:Nat)(R:Mat):Prop:=∀r c,r<n->C c->(R r c).natAbs*2 ^ δ<2 ^ b
theorem K8{x y a k:Int}{δ b c:Nat}(hx:x.natAbs*2 ^ δ<2 ^ b)(hy:y.natAbs*2 ^ δ<2 ^ b)(ha:a.natAbs<=2 ^ c)(hk:k.natAbs<=2 ^ c):(a*x+k*y).natAbs*2 ^ δ<2 ^ (b+c+1):=by
 have e:=qc8 (a*x) (k*y);rw[qa4,qa4]at e;have e2:=qb1 (2 ^ δ) e;rw[qd3,Nat.mul_assoc,Nat.mul_assoc]at e2;have p:0<2 ^ c:=Nat.two_pow_pos c;have u:a.natAbs*(x.natAbs*2 ^ δ)<2 ^ c*2 ^ b:=qa7 (qb1 _ ha) (qm0 hx p);have v:k.natAbs*(y.natAbs*2 ^ δ)<2 ^ c*2 ^ b:=qa7 (qb1 _ hk) (qm0 hy p);rw[show b+c+1=(c+b)+1 by omega,qf1,qb7];omega
theorem Lq.mono{n δ b b':Nat}{C:Nat->Prop}{R:Mat}(h:Lq n C δ b R)(hb:b<=b'):Lq n C δ b' R:=fun r c hr hc=>qa8 (h r c hr hc) (qb9 (by decide) hb)
theorem Lq.add{n δ b c p q:Nat}{C:Nat->Prop}{R:Mat}(h:Lq n C δ b R)(hq:q<n){k:Int}(hk:k.natAbs<2 ^ c):Lq n C δ (b+c+1) (addR R p q k):=fun r x hr hx=>by
 by_cases e:r=p
 . subst e;rw[B6];exact K8 (h r x hr hx) (h q x hq hx) (show 1<=2 ^ c from qh3) (qc2 hk)
 . rw[Ck e];exact(h.mono O9m) r x hr hx
theorem Lq.blend{n δ b e p q:Nat}{C:Nat->Prop}{R:Mat}(h:Lq n C δ b R)(hp:p<n)(hq:q<n)(ne:p≠q){x y z u:Int}(hx:x.natAbs<2 ^ e)(hy:y.natAbs<2 ^ e)(hz:z.natAbs<2 ^ e)(hu:u.natAbs<2 ^ e):Lq n C δ (b+e+1) (blendR R p q x y z u):=fun r c hr hc=>by
 by_cases e1:r=p
 . subst e1;rw[Eo ne];exact K8 (h r c hr hc) (h q c hq hc) (qc2 hx) (qc2 hy)
 . by_cases e2:r=q
   . subst e2;rw[Fu];exact K8 (h p c hp hc) (h r c hr hc) (qc2 hz) (qc2 hu)
   . rw[Cw e1 e2];exact(h.mono O9m) r c hr hc
variable{C:Nat->Prop}{δ:Nat}
noncomputable def BB(n W:Nat)(C:Nat->Prop)(δ β:Nat)(s:Mat × Mat):Prop:=Bits n W β s.1/\Bits n n β s.2/\Lq n C δ β s.1
theorem BB.mono{n W β β':Nat}{s:Mat × Mat}(h:BB n W C δ β s)(hb:β<=β'):BB n W C δ β' s:=⟨h.1.mono hb,h.2.1.mono hb,h.2.2.mono hb⟩
noncomputable def addS(p q:Nat)(k:Int)(s:Mat × Mat):Mat × Mat:=(addR s.1 p q k,addR s.2 q p (-k))
noncomputable def blendS(p q:Nat)(x y z u:Int)(s:Mat × Mat):Mat × Mat:=(blendR s.1 p q x y z u,blendR s.2 p q u (-z) (-y) x)
theorem BB.add{n W β c p q:Nat}{s:Mat × Mat}(h:BB n W C δ β s)(hp:p<n)(hq:q<n){k:Int}(hk:k.natAbs<2 ^ c):BB n W C δ (β+(c+1)) (addS p q k s) :=
 ⟨(h.1.add hp hq hk).mono O9m,(h.2.1.add hq hp (k:=-k) (by rw[qb3];exact hk)).mono O9m,(h.2.2.add hq hk).mono O9m⟩
theorem BB.blend{n W β c p q:Nat}{s:Mat × Mat}(h:BB n W C δ β s)(hp:p<n)(hq:q<n)(ne:p≠q){x y z u:Int}(hx:x.natAbs<2 ^ c)(hy:y.natAbs<2 ^ c)(hz:z.natAbs<2 ^ c)(hu:u.natAbs<2 ^ c):BB n W C δ (β+(c+1)) (blendS p q x y z u s) :=
 ⟨(h.1.blend hp hq ne hx hy hz hu).mono O9m,(h.2.1.blend hp hq ne (x:=u) (y:=-z) (z:=-y) (u:=x) hu (by rw[qb3];exact hz) (by rw[qb3];exact hy) hx).mono O9m,(h.2.2.blend hp hq ne hx hy hz hu).mono O9m⟩
noncomputable def shrS(t:Nat->Nat)(p f:Nat)(s:Mat × Mat):Nat->Mat × Mat
 | 0=>s
 | d+1=>addS p (f+d) (-((shrS t p f s d).1 p (t (f+d)) / (shrS t p f s d).1 (f+d) (t (f+d)))) (shrS t p f s d)
theorem Zy{n W w lo:Nat}{R B:Mat}{t:Nat->Nat}{p f m μ β c:Nat}(P:Le R t f m)(h:∀l,f<=l->l<m->(R p (t l)).natAbs<=μ*(R l (t l)).natAbs)(hp:p<lo)(hm:m<=lo)(hn:lo<=n)(hpf:p<f\/m<=p)(hc:2 ^ (m-f)*μ<2 ^ c)(b:BB n W C δ β (R,B)) :
 ∀d,f+d<=m->aU n W w lo R B t p f m (f+d) μ (shrS t p f (R,B) d).1 (shrS t p f (R,B) d).2/\BB n W C δ (β+d*(c+1)) (shrS t p f (R,B) d)/\∀l c,l≠p->(shrS t p f (R,B) d).1 l c=R l c:=by
 intro d
 induction d with
 | zero=>intro _;exact⟨aU.start h,b.mono O9m,fun _ _ _=>rfl⟩
 | succ d ih =>
   intro hd;obtain⟨i1,i2,i3⟩:=ih O9m;obtain⟨q1,q2⟩:=i1.step P O9m (show f+d<m by omega) hp hm hn hpf;have e:(shrS t p f (R,B) d).1 (f+d) (t (f+d))=R (f+d) (t (f+d)):=i3 _ _ O9m
   have qb:(-((shrS t p f (R,B) d).1 p (t (f+d)) / (shrS t p f (R,B) d).1 (f+d) (t (f+d)))).natAbs<2 ^ c:=by
    rw[qb3,e];refine qa7 q1 (qa7 ?_ hc);exact qb1 _ (Cm O9m)
   refine⟨?_,(i2.add O9m O9m qb).mono (by rw[qd3];omega),fun l c hl=>?_⟩
   . show aU n W w lo R B t p f m (f+d+1) μ (addR (shrS t p f (R,B) d).1 p (f+d) _) (addR (shrS t p f (R,B) d).2 (f+d) p _);rw[e,qj6];exact q2
   . show addR (shrS t p f (R,B) d).1 p (f+d) _ l c=_;rw[Ck hl];exact i3 l c hl
theorem BD{n W w i:Nat}{G:Nat->Prop}{R B:Mat}{t:Nat->Nat}{b p spot μ:Nat}(P:Le R t (spot+1) i)(h:∀l,spot<l->l<i->(R p (t l)).natAbs<=μ*(R l (t l)).natAbs)(hG:∀r c,spot<r->r<i->G c->(R r c).natAbs<=2 ^ b)(hn:i<n)(hp:p<=spot\/p=i) :
 ∀d,spot+1+d<=i->S4 n W w i G R B t b p spot μ (spot+1+d) (shrS t p (spot+1) (R,B) d).1 (shrS t p (spot+1) (R,B) d).2:=by
 intro d
 induction d with
 | zero=>intro _;exact S4.start h
 | succ d ih =>
   intro hd;have i1:=ih O9m;obtain⟨q1,q2⟩:=i1.step P hG O9m (show spot+1+d<i by omega) hn hp;have e:(shrS t p (spot+1) (R,B) d).1 (spot+1+d) (t (spot+1+d))=R (spot+1+d) (t (spot+1+d)):=i1.s.same _ _ O9m;show S4 n W w i G R B t b p spot μ (spot+1+d+1) (addR (shrS t p (spot+1) (R,B) d).1 p (spot+1+d) _) (addR (shrS t p (spot+1) (R,B) d).2 (spot+1+d) p _);rw[e,qj6];exact q2
theorem Lr{n W w i:Nat}{G:Nat->Prop}{R B:Mat}{t:Nat->Nat}{b p spot μ β c:Nat}(P:Le R t (spot+1) i)(inc:∀l,spot<l->l<i->t spot<t l)(h:∀l,spot<l->l<i->(R p (t l)).natAbs<=μ*(R l (t l)).natAbs)(hG:∀r c,spot<r->r<i->G c->(R r c).natAbs<=2 ^ b)(hs:spot<i)(hn:i<n)(hp:p<=spot\/p=i)(hc:2 ^ i*μ<2 ^ c)(bb:BB n W C δ β (R,B)) :
 R5 n W w i G R B t b p spot μ (shrS t p (spot+1) (R,B) (i-(spot+1))).1 (shrS t p (spot+1) (R,B) (i-(spot+1))).2/\∀d,spot+1+d<=i->BB n W C δ (β+i*(c+1)) (shrS t p (spot+1) (R,B) d):=by
 have r:=BD (W:=W) (w:=w) (B:=B) (b:=b) P h hG hn hp (i-(spot+1)) O9m;rw[show spot+1+(i-(spot+1))=i by omega]at r;refine⟨r.done inc,fun d hd=>?_⟩;have:=(Zy (W:=W) (w:=w) (lo:=i+1) (B:=B) P (fun l h1 h2=>h l O9m h2) O9m O9m O9m O9m (c:=c) (qa7 (qb1 _ (Cm O9m)) hc) bb d hd).2.1;refine this.mono ?_;have:=qb1 (c+1) (show d<=i by omega);omega
end Lat
namespace Lat
open Hb
variable{C:Nat->Prop}{δ:Nat}
noncomputable abbrev cS(π i:Nat):Nat:=i+2*π+2
noncomputable abbrev cM(π i:Nat):Nat:=π+2+2*(i*(cS π i+1))
theorem To{x π:Nat}(h:x<=2 ^ π):x<2 ^ (π+1):=by
 have:1<=2 ^ π:=qh3;rw[qf1];omega
theorem CM{π i μ:Nat}(h:μ<=2 ^ (2*π+1)):2 ^ i*μ<2 ^ cS π i:=by
 have e:2 ^ cS π i=2*(2 ^ i*2 ^ (2*π+1)):=by
  rw[show cS π i=1+(i+(2*π+1)) by unfold cS;omega,qb7,qb7,Nat.pow_one]
 rw[e];have a:=qc5 (2 ^ i) h;have b:1<=2 ^ i*2 ^ (2*π+1):=by rw[←qb7];exact qh3
 omega
variable{n W w i:Nat}{G:Nat->Prop}{R0 B0 R B:Mat}{t:Nat->Nat}{π b spot β:Nat}
theorem Cr.partOf(H:Gb n W w i G R0 B0 t π b)(h:Cr n W w i G R0 B0 t π b spot R B){R1:Mat}(e:∀r c,spot<r->r<i->R1 r c=R r c) :
 Le R1 t (spot+1) i/\(∀l,spot<l->l<i->t spot<t l)/\∀r c,spot<r->r<i->G c->(R1 r c).natAbs<=2 ^ b:=by
 have k:∀r c,spot<r->r<i->R1 r c=R0 r c:=fun r c h1 h2=>(e r c h1 h2).trans (h.old r c O9m h2);refine⟨(H.part.sub (qa5 _)).congr fun j c h1 h2=>k j c O9m h2,fun l h1 h2=>H.part.inc spot l (qa5 _) h1 h2,fun r c h1 h2 hc=>?_⟩;rw[k r c h1 h2];exact H.rw r c h2 hc
theorem Cr.meetAdd(H:Gb n W w i G R0 B0 t π b)(h:Cr n W w i G R0 B0 t π b spot R B)(hs:spot<i)(hz:∀c,c<t spot->R i c=0){q:Int}(he:R i (t spot)=q*R spot (t spot))(bb:BB n W C δ β (R,B)) :
 Cr n W w i G R0 B0 t π b (spot+1) (shrS t i (spot+1) (addS i spot (-q) (R,B)) (i-(spot+1))).1 (shrS t i (spot+1) (addS i spot (-q) (R,B)) (i-(spot+1))).2 ∧
 BB n W C δ (β+cM π i) (addS i spot (-q) (R,B))/\∀d,spot+1+d<=i->BB n W C δ (β+cM π i) (shrS t i (spot+1) (addS i spot (-q) (R,B)) d):=by
 have hn:=H.hi
 have hq:q.natAbs<=2 ^ π:=by
  have a:=h.pv spot (qa0 _) hs;have p:=h.pos spot hs;rw[he,qa4]at a;exact qa1 (qf5 _ O9m) a
 have b1:BB n W C δ (β+(π+2)) (addS i spot (-q) (R,B)):=bb.add hn O9m (c:=π+1) (by rw[qb3];exact To hq);obtain⟨P,inc,hG⟩:=h.partOf H (R1:=addR R i spot (-q)) fun r c h1 h2=>Ck O9m c;obtain⟨S,bs⟩:=Lr (n:=n) (W:=W) (w:=w) (G:=G) (B:=(addS i spot (-q) (R,B)).2) (p:=i) (μ:=2 ^ (π+1)) (β:=β+(π+2)) (c:=cS π i) P inc (h.addPre H hs hq) hG hs hn (.inr rfl) (CM (Cm O9m)) b1;refine⟨h.metAdd H hs hq hz he ?_,b1.mono (by unfold cM;omega),fun d hd=>(bs d hd).mono (by unfold cM;omega)⟩;have e:(addS i spot (-q) (R,B)).2=addR B spot i q:=by show addR B spot i (- -q)=_;rw[qj6]
 rw[←e];exact S
theorem Cr.meetBlend(H:Gb n W w i G R0 B0 t π b)(h:Cr n W w i G R0 B0 t π b spot R B)(hs:spot<i)(hz:∀c,c<t spot->R i c=0){x y z u:Int}(e:i4 π (R spot (t spot)) (R i (t spot)) x y z u)(bb:BB n W C δ β (R,B)) :
 Cr n W w i G R0 B0 t π b (spot+1) (shrS t i (spot+1) (shrS t spot (spot+1) (blendS spot i x y z u (R,B)) (i-(spot+1))) (i-(spot+1))).1 (shrS t i (spot+1) (shrS t spot (spot+1) (blendS spot i x y z u (R,B)) (i-(spot+1))) (i-(spot+1))).2 ∧
 BB n W C δ (β+cM π i) (blendS spot i x y z u (R,B))/\(∀d,spot+1+d<=i->BB n W C δ (β+cM π i) (shrS t spot (spot+1) (blendS spot i x y z u (R,B)) d)) ∧
 ∀d,spot+1+d<=i->BB n W C δ (β+cM π i) (shrS t i (spot+1) (shrS t spot (spot+1) (blendS spot i x y z u (R,B)) (i-(spot+1))) d):=by
 have hn:=H.hi;have ne:spot≠i:=O9m
 have b1:BB n W C δ (β+(π+2)) (blendS spot i x y z u (R,B)):=bb.blend O9m hn ne (c:=π+1) (To e.lx) (To e.ly) (To e.lz) (To e.lu);obtain⟨p1,p2⟩:=h.blendPre H hs e;obtain⟨P,inc,hG⟩:=h.partOf H (R1:=blendR R spot i x y z u) fun r c h1 h2=>Cw O9m O9m _ _ _ _ c;obtain⟨S1,nZ⟩:=Lr (n:=n) (W:=W) (w:=w) (G:=G) (B:=(blendS spot i x y z u (R,B)).2) (p:=spot) (μ:=2 ^ (2*π+1)) (β:=β+(π+2)) (c:=cS π i) P inc p1 hG hs hn (.inl (qa0 _)) (CM (qa0 _)) b1;have b2:=nZ (i-(spot+1)) O9m;generalize hs2:shrS t spot (spot+1) (blendS spot i x y z u (R,B)) (i-(spot+1))=s2 at *;have nC:shrS t spot (spot+1) (blendR R spot i x y z u,(blendS spot i x y z u (R,B)).2) (i-(spot+1))=s2:=hs2;rw[nC]at S1 b2;obtain⟨P2,mY,SH⟩:=h.partOf H (R1:=s2.1) fun r c h1 h2=>by rw[S1.same r c (by omega),Cw (by omega) (by omega)]
 have p3:∀l,spot<l->l<i->(s2.1 i (t l)).natAbs<=2 ^ (2*π+1)*(s2.1 l (t l)).natAbs:=fun l h1 h2=>by
  rw[S1.same i _ (fun z=>ne z.symm),S1.same l _ (by omega)];exact p2 l h1 h2
 obtain⟨S2,kT⟩:=Lr (n:=n) (W:=W) (w:=w) (G:=G) (R:=s2.1) (B:=s2.2) (p:=i) (μ:=2 ^ (2*π+1)) (β:=β+(π+2)+i*(cS π i+1)) (c:=cS π i) P2 mY p3 SH hs hn (.inr rfl) (CM (qa0 _)) b2;exact⟨h.metBlend H hs e hz S1 S2,b1.mono (by unfold cM;omega),fun d hd=>(nZ d hd).mono (by unfold cM;omega),fun d hd=>(kT d hd).mono (by unfold cM;omega)⟩
end Lat
namespace Lat
open Hb
variable{C:Nat->Prop}{δ:Nat}
noncomputable def downS(t:Nat->Nat)(i:Nat)(s:Mat × Mat):Nat->Mat × Mat
 | 0=>s
 | d+1=>shrS t (i-d) (i-d+1) (downS t i s d) d
theorem Rq{n W w i:Nat}{G:Nat->Prop}{R0 B0 R B:Mat}{t:Nat->Nat}{Y β:Nat}(I:EZ n W w i G R0 B0 t Y R B)(hi:i<n)(bb:BB n W C δ β (R,B)) :
 ∀d,d<=i+1->Js n W w i R B t (i+1-d) (downS t i (R,B) d).1 (downS t i (R,B) d).2/\BB n W C δ (β+d*((i+1)*(i+1+Y+2))) (downS t i (R,B) d) ∧
   (d<=i->∀m,m<=d->BB n W C δ (β+(d+1)*((i+1)*(i+1+Y+2))) (shrS t (i-d) (i-d+1) (downS t i (R,B) d) m)):=by
 intro d
 have MP:∀d,d<=i->Js n W w i R B t (i+1-d) (downS t i (R,B) d).1 (downS t i (R,B) d).2->BB n W C δ (β+d*((i+1)*(i+1+Y+2))) (downS t i (R,B) d) →
  ∀m,m<=d->aU n W w (i+1) (downS t i (R,B) d).1 (downS t i (R,B) d).2 t (i-d) (i-d+1) (i+1) (i-d+1+m) (2 ^ Y) (shrS t (i-d) (i-d+1) (downS t i (R,B) d) m).1 (shrS t (i-d) (i-d+1) (downS t i (R,B) d) m).2/\BB n W C δ (β+(d+1)*((i+1)*(i+1+Y+2))) (shrS t (i-d) (i-d+1) (downS t i (R,B) d) m):=by
  intro d hd D b m hm;generalize hs:downS t i (R,B) d=s at *;obtain⟨R1,B1⟩:=s;have P:=D.part;rw[show i+1-d=i-d+1 by omega]at P D
  have rel:∀l,i-d+1<=l->l<i+1->(R1 (i-d) (t l)).natAbs<=2 ^ Y*(R1 l (t l)).natAbs:=fun l h1 h2=>by
   have o:R1 (i-d) (t l)=R (i-d) (t l):=D.old (i-d) (t l) O9m;have p:0<R1 l (t l):=D.s0.pos l h2;rw[o];refine qa1 (I.gc (i-d) (t l) O9m (I.pg l O9m)) (qf5 _ O9m)
  have run:=Zy (n:=n) (W:=W) (w:=w) (lo:=i+1) (R:=R1) (B:=B1) (p:=i-d) (f:=i-d+1) (m:=i+1) (μ:=2 ^ Y) (c:=i+1+Y+1) (β:=β+d*((i+1)*(i+1+Y+2))) P rel O9m (qa0 _) hi (.inl O9m) (by
   rw[←qb7];exact qd6 (by decide) O9m) b m O9m
  refine⟨run.1,run.2.1.mono ?_⟩;rw[qd3 d 1,qd1];have:=qb1 (i+1+Y+2) (show m<=i+1 by omega);have e:m*(i+1+Y+1+1)=m*(i+1+Y+2):=rfl;omega
 induction d with
 | zero =>
   intro _;have D0:Js n W w i R B t (i+1-0) (downS t i (R,B) 0).1 (downS t i (R,B) 0).2:=Js.start I.s0;have b0:BB n W C δ (β+0*((i+1)*(i+1+Y+2))) (downS t i (R,B) 0):=bb.mono O9m;exact⟨D0,b0,fun hd m hm=>(MP 0 hd D0 b0 m hm).2⟩
 | succ d ih =>
   intro hd;obtain⟨D,b,_⟩:=ih O9m;obtain⟨S,b2⟩:=MP d O9m D b d (qa0 _)
   have D2:Js n W w i R B t (i+1-(d+1)) (downS t i (R,B) (d+1)).1 (downS t i (R,B) (d+1)).2:=by
    rw[show i+1-(d+1)=i-d by omega];rw[show i+1-d=i-d+1 by omega]at D;rw[show i-d+1+d=i+1 by omega]at S;exact D.next O9m S
   exact⟨D2,b2,fun h m hm=>(MP (d+1) h D2 b2 m hm).2⟩
end Lat
namespace Lat
open Hb
theorem Jw{f:Nat->Int}{j:Nat}:∀{i:Nat},j<=i->(∀k,j<=k->k<i->f k=0)->Ah f i=Ah f j
 | 0,h,_=>by rw[show j=0 by omega]
 | i+1,h,hz=>by
   by_cases e:j=i+1
   . rw[e]
   . show Ah f i+f i=_;rw[Jw (by omega) fun k h1 h2=>hz k h1 (by omega),hz i (by omega) (by omega)];omega
theorem Us{f:Nat->Int}{m h:Nat}:∀{j:Nat},(∀k,k<j->(f k).natAbs<=2 ^ k*m*h)->(Ah f j).natAbs+m*h<=2 ^ j*m*h
 | 0,_=>by show(0:Int).natAbs+m*h<=2 ^ 0*m*h;simp
 | j+1,hf=>by
   have a:=Us (f:=f) (m:=m) (h:=h) (j:=j) fun k hk=>hf k O9m;have b:=hf j O9m;have c:=qc8 (Ah f j) (f j);show(Ah f j+f j).natAbs+m*h<=_;rw[qf1];have e:2 ^ j*2*m*h=2 ^ j*m*h+2 ^ j*m*h:=by grind
   omega
theorem CQ{i:Nat}{R B:Mat}{t:Nat->Nat}(P:Le R t 0 i){a m:Nat}(h:∀j,j<i->(Ah (fun k=>B k a*R k (t j)) i).natAbs<=m):∀j,j<i->(B j a).natAbs<=2 ^ j*m:=by
 intro j
 induction j using Nat.strongRecOn with
 | _ j ih =>
   intro hj;have pj:=P.pos j (qa5 _) hj;have hs:=h j hj;rw[Jw (j:=j+1) (by omega) fun k h1 h2=>by rw[P.zero k _ (qa5 _) h2 (P.inc j k (qa5 _) (by omega) h2)];simp]at hs;have hs':(Ah (fun k=>B k a*R k (t j)) j+B j a*R j (t j)).natAbs<=m:=hs
   have b:=Us (f:=fun k=>B k a*R k (t j)) (m:=m) (h:=(R j (t j)).natAbs) (j:=j) fun k hk=>by
    rw[qa4];obtain⟨r1,r2⟩:=P.red k j (qa5 _) hk hj;exact qd0 (ih k hk O9m) O9m
   have c:(B j a*R j (t j)).natAbs<=2 ^ j*m*(R j (t j)).natAbs:=by
    have m1:m*1<=m*(R j (t j)).natAbs:=qc5 _ O9m;omega
   rw[qa4]at c;exact qm1 c O9m
theorem Cs.backs{n W w i:Nat}{G:Nat->Prop}{M B0 R B:Mat}{t:Nat->Nat}(h:Cs n W w i G M B0 t R B)(hi:i<=n){a m:Nat}(hb:∀k,i<=k->B k a=if k=a then 1 else 0)(hM:∀j,j<i->(pT n B0 M a (t j)).natAbs<=m)(NO:∀j,j<i->(M a (t j)).natAbs<=m)(ha:i<=a->a<n->∀j,j<i->pT n B0 M a (t j)=M a (t j)):∀j,j<i->(B j a).natAbs<=2 ^ j*m:=by
 refine CQ ⟨fun j k _=>h.st.inc j k,fun j c _=>h.st.zero j c,fun j _=>h.st.pos j,fun k j _=>h.st.red k j⟩ fun j hj=>?_;have e:pT n B R a (t j)=pT n B0 M a (t j):=h.good.pt a (t j)
 have s:pT n B R a (t j)=Ah (fun k=>B k a*R k (t j)) i+(if i<=a/\a<n then M a (t j) else 0):=by
  have:∀d,i+d<=n->Ah (fun k=>B k a*R k (t j)) (i+d)=Ah (fun k=>B k a*R k (t j)) i+(if i<=a/\a<i+d then M a (t j) else 0):=by
   intro d
   induction d with
   | zero=>intro _;rw[if_neg (by omega)];show Ah _ i=_;omega
   | succ d ih =>
     intro hd;show Ah (fun k=>B k a*R k (t j)) (i+d)+B (i+d) a*R (i+d) (t j)=_;rw[ih (by omega),hb (i+d) (by omega),h.good.rest (i+d) _ (by omega)];by_cases z:i+d=a
     . subst z;rw[if_pos rfl,if_neg (by omega),if_pos (by omega)];omega
     . rw[if_neg z];by_cases y:i<=a/\a<i+d
       . rw[if_pos y,if_pos (by omega)];omega
       . rw[if_neg y,if_neg (by omega)];omega
  have:=this (n-i) O9m;rw[show i+(n-i)=n by omega]at this;exact this
 by_cases z:i<=a/\a<n
 . rw[if_pos z,e,ha z.1 z.2 j hj]at s;have:Ah (fun k=>B k a*R k (t j)) i=0:=O9m
   rw[this];exact qa5 _
 . rw[if_neg z,Int.add_zero]at s;rw[←s,e];exact hM j hj
theorem BC{t:Nat->Nat}{n w:Nat}(inc:∀j k,j<k->k<n->t j<t k):∃r,r<=n/\(∀j,j<r->t j<w)/\∀j,r<=j->j<n->w<=t j:=by
 have:∀m,m<=n->∃r,r<=m/\(∀j,j<r->t j<w)/\∀j,r<=j->j<m->w<=t j:=by
  intro m
  induction m with
  | zero=>intro _;exact⟨0,qa0 _,fun j hj=>O9m,fun j _ hj=>O9m⟩
  | succ m ih =>
    intro hm;obtain⟨r,a,b,c⟩:=ih O9m;by_cases z:t m<w
    . have hrm:r=m:=by
       refine qf6 a (qe9 fun y=>?_);have:=c r (qa0 _) y;have:=inc r m y O9m;omega
      exact⟨m+1,qa0 _,fun j hj=>by
       by_cases q:j=m
       . rw[q];exact z
       . exact b j O9m,fun j h1 h2=>O9m⟩
    . exact⟨r,O9m,b,fun j h1 h2=>by
       by_cases q:j=m
       . rw[q];omega
       . exact c j h1 O9m⟩
 exact this n (qa0 _)
theorem Cs.first{n W w D:Nat}{G:Nat->Prop}{M B0 R B:Mat}{t:Nat->Nat}(hD:Jt n G M D)(h:Cs n W w n G M B0 t R B) :
 ∃r,r<=n/\Db w r R t/\(∀i c,r<=i->i<n->c<w->R i c=0)/\Lf n W w r t (fun j=>R j (t j)) R/\prodN (fun j=>R j (t j)) r<=D/\∀j,j<n->R j (t j)<=D:=by
 obtain⟨r,hr,h1,h2⟩:=BC (w:=w) h.st.inc;have pos:∀k,k<n->0<(fun j=>R j (t j)) k:=fun k hk=>h.st.pos k hk;refine⟨r,hr,⟨h1,fun j k a b=>h.st.inc j k a O9m,fun j c a b=>h.st.zero j c O9m b,fun j a=>h.st.pos j O9m,fun k j a b=>h.st.red k j a O9m⟩,fun i c a b d=>h.st.zero i c b (by have:=h2 i a b;omega),⟨fun j c _ a b=>h.st.zero j c a b,fun j k _ a b=>h.st.inc j k a b,h2,fun j _ a=>h.st.lt j a,fun j _ _=>rfl,fun j _ a=>h.st.pos j a,fun k j _ a b=>h.st.red k j a b⟩,?_,fun j hj=>?_⟩
 . have a:=Qt (n:=n) pos r hr;have b:=h.detsD hD (qa0 _) (s:=t) h.pg;rw[Tv h.st.s0]at b;have c:=Cg (n:=n) pos;omega
 . have:=h.headD hD (qa0 _) hj;have:=h.st.pos j hj;omega
variable{C:Nat->Prop}{δ:Nat}
theorem addS_zero(p q:Nat)(s:Mat × Mat):addS p q (-0) s=s:=by
 unfold addS;rw[show(-0:Int)=0 from rfl,show(-0:Int)=0 from rfl,Ub,Ub]
theorem Wk{t:Nat->Nat}{p f:Nat}{s:Mat × Mat}:∀m,(∀j,f<=j->j<f+m->s.1 p (t j) / s.1 j (t j)=0)->shrS t p f s m=s
 | 0,_=>rfl
 | m+1,h=>by
   have ih:=Wk (t:=t) (p:=p) (f:=f) (s:=s) m fun j h1 h2=>h j h1 O9m;show addS p (f+m) (-((shrS t p f s m).1 p (t (f+m)) / (shrS t p f s m).1 (f+m) (t (f+m)))) (shrS t p f s m)=s;rw[ih,h (f+m) (by omega) (by omega),addS_zero]
structure IE(i:Nat)(t:Nat->Nat)(R:Mat):Prop where
 inc:∀j,j<i->t j<t i
 zero:∀x,x<t i->R i x=0
 pos:∀j,j<=i->0<R j (t j)
 red:∀k j,k<j->j<i->0<=R k (t j)/\R k (t j)<R j (t j)
noncomputable def Gx(R:Mat)(t:Nat->Nat)(i k:Nat):Int:=R k (t i) / R i (t i)
structure Jl(n i β c:Nat)(t:Nat->Nat)(R B:Mat)(d:Nat)(s:Mat × Mat):Prop where
 rows:∀r x,s.1 r x=if i+1-d<=r/\r<i then R r x+-(Gx R t i r)*R i x else R r x
 old:∀r x,r≠i->s.2 r x=B r x
 back:∀x,x<n->(s.2 i x).natAbs<=2 ^ (β+c)*(d+1)
theorem Jl.step{n i β c:Nat}{t:Nat->Nat}{R B:Mat}{d:Nat}{s:Mat × Mat}(L:IE i t R)(bb:Bits n n β B)(hq:∀k,k<i->(Gx R t i k).natAbs<2 ^ c)(hi:i<n)(hd:d<i+1)(h:Jl n i β c t R B d s) :
 Jl n i β c t R B (d+1) (shrS t (i-d) (i-d+1) s d)/\∀m,m<d->shrS t (i-d) (i-d+1) s m=s:=by
 have own:∀x,s.1 (i-d) x=R (i-d) x:=fun x=>by rw[h.rows,if_neg (by omega)]
 have ri:∀x,s.1 i x=R i x:=fun x=>by rw[h.rows,if_neg (by omega)]
 have nK:∀j,j<=i->s.1 j (t j)=R j (t j):=fun j hj=>by
  rw[h.rows];by_cases z:i+1-d<=j/\j<i
  . rw[if_pos z,L.zero (t j) (L.inc j z.2)];simp
  . rw[if_neg z]
 have zq:∀m,m<d->∀j,i-d+1<=j->j<i-d+1+m->s.1 (i-d) (t j) / s.1 j (t j)=0:=fun m hm j h1 h2=>by
  rw[own,nK j (by omega)];obtain⟨a,b⟩:=L.red (i-d) j O9m O9m;exact Int.ediv_eq_zero_of_lt a b
 have zs:∀m,m<d->shrS t (i-d) (i-d+1) s m=s:=fun m hm=>Wk m (zq m hm);refine⟨?_,zs⟩;by_cases d0:d=0
 . subst d0;show Jl n i β c t R B 1 s;refine⟨fun r x=>?_,h.old,fun x hx=>qa1 (h.back x hx) (qc5 _ O9m)⟩;rw[h.rows,if_neg (by omega),if_neg (by omega)]
 . obtain⟨e,rfl⟩:∃e,d=e+1:=⟨d-1,O9m⟩
   have last:shrS t (i-(e+1)) (i-(e+1)+1) s (e+1)=addS (i-(e+1)) i (-(Gx R t i (i-(e+1)))) s:=by
    show addS _ (i-(e+1)+1+e) _ (shrS t (i-(e+1)) (i-(e+1)+1) s e)=_;rw[zs e (by omega),show i-(e+1)+1+e=i by omega,own,nK i (qa0 _)];rfl
   rw[last];refine⟨fun r x=>?_,fun r x hr=>?_,fun x hx=>?_⟩
   . show addR s.1 (i-(e+1)) i _ r x=_;by_cases z:r=i-(e+1)
     . subst z;rw[B6,own,ri,if_pos (by omega),qb8]
     . rw[Ck z,h.rows];by_cases y:i+1-(e+1)<=r/\r<i
       . rw[if_pos y,if_pos (by omega)]
       . rw[if_neg y,if_neg (by omega)]
   . show addR s.2 i (i-(e+1)) _ r x=_;rw[Ck hr];exact h.old r x hr
   . show(addR s.2 i (i-(e+1)) (- -(Gx R t i (i-(e+1)))) i x).natAbs<=_;rw[B6,qb8,qj6,h.old (i-(e+1)) x (by omega)];have a:=h.back x hx;have b:=qc8 (s.2 i x) (Gx R t i (i-(e+1))*B (i-(e+1)) x);rw[qa4]at b;have m:(Gx R t i (i-(e+1))).natAbs*(B (i-(e+1)) x).natAbs<=2 ^ c*2 ^ β:=qd0 (qc2 (hq _ O9m)) (qc2 (bb _ _ O9m hx));rw[←qb7,qp5 c β]at m;rw[Nat.mul_add _ (e+1+1) 1,Nat.mul_one];omega
theorem BZ{n W i β c:Nat}{t:Nat->Nat}{R B:Mat}(L:IE i t R)(bb:BB n W C δ β (R,B))(hq:∀k,k<i->(Gx R t i k).natAbs<2 ^ c)(hi:i<n) :
 ∀d,d<=i+1->Jl n i β c t R B d (downS t i (R,B) d):=by
 intro d
 induction d with
 | zero =>
   intro _;refine⟨fun r x=>?_,fun _ _ _=>rfl,fun x hx=>?_⟩
   . rw[if_neg (by omega)];rfl
   . show(B i x).natAbs<=_;have a:(B i x).natAbs<2 ^ β:=bb.2.1 i x hi hx;have p:2 ^ β<=2 ^ (β+c):=Cm O9m;omega
 | succ d ih =>
   intro hd;exact((ih O9m).step L bb.2.1 hq hi O9m).1
theorem Jl.bits{n W i β c:Nat}{t:Nat->Nat}{R B:Mat}{d:Nat}{s:Mat × Mat}(bb:BB n W C δ β (R,B))(hq:∀k,k<i->(Gx R t i k).natAbs<2 ^ c)(hi:i<n)(hd:d<=i+1)(h:Jl n i β c t R B d s):BB n W C δ (β+(c+i+3)) s:=by
 refine⟨fun r x hr hx=>?_,fun r x hr hx=>?_,fun r x hr hx=>?_⟩
 . rw[h.rows];by_cases z:i+1-d<=r/\r<i
   . rw[if_pos z];have e:=qc8 (R r x) (-(Gx R t i r)*R i x);rw[qa4,qb3]at e;have a:=bb.1 r x hr hx;have b:=bb.1 i x hi hx;have m:(Gx R t i r).natAbs*(R i x).natAbs<=2 ^ c*2 ^ β:=qd0 (qc2 (hq r z.2)) (qc2 b);rw[←qb7,qp5 c β]at m;have p:2 ^ β<=2 ^ (β+c):=Cm O9m
     have q:4*2 ^ (β+c)<=2 ^ (β+(c+i+3)):=by
      have e4:4*2 ^ (β+c)=2 ^ (2+(β+c)):=by rw[qb7 2 2 (β+c)]
      rw[e4];exact Cm O9m
     have a':(R r x).natAbs<2 ^ β:=a;omega
   . rw[if_neg z];exact qa8 (bb.1 r x hr hx) (Cm O9m)
 . by_cases z:r=i
   . subst z;have a:=h.back x hx
     have l:d+1<2 ^ (r+2):=by
      have:=ql7 (n:=r+2);omega
     refine qa7 a ?_;have e4:2 ^ (β+(c+r+3))=2 ^ (β+c)*2 ^ (r+3):=by rw[←qb7];congr 1;omega
     rw[e4];refine qm0 ?_ qh3;exact qa8 l (Cm O9m)
   . rw[h.old r x z];exact qa8 (bb.2.1 r x hr hx) (Cm O9m)
 . rw[h.rows];by_cases z:i+1-d<=r/\r<i
   . rw[if_pos z];have:=K8 (a:=1) (k:=-(Gx R t i r)) (c:=c) (bb.2.2 r x hr hx) (bb.2.2 i x hi hx) (show 1<=2 ^ c from qh3) (by rw[qb3];exact qc2 (hq r z.2));rw[qb8]at this;exact qa8 this (Cm O9m)
   . rw[if_neg z];exact qa8 (bb.2.2 r x hr hx) (Cm O9m)
end Lat
namespace Lat
open Hb
variable{C:Nat->Prop}{δ:Nat}
theorem fdiv_small{x h:Int}{c:Nat}(hh:0<h)(hx:x.natAbs<2 ^ c):(x / h).natAbs<2 ^ c:=by
 have:=c0 (x:=x) (h:=h) (K:=x.natAbs) hh (qf5 _ O9m);omega
theorem Cs.putB{n W w i β:Nat}{G:Nat->Prop}{M B0 R B:Mat}{t:Nat->Nat}(h:Cs n W w i G M B0 t R B)(hi:i<n)(fQ:∀c,G c->c<W)(bb:Bits n W β R):Gb n W w i G R B t β β :=
 ⟨hi,⟨fun j k _=>h.st.inc j k,fun j c _=>h.st.zero j c,fun j _=>h.st.pos j,fun k j _=>h.st.red k j⟩,h.st.lt,fun j hj=>qc2 (bb j _ O9m (h.st.lt j hj)),fun r c hr hc=>qc2 (bb r c O9m (fQ c hc)),fun c hc=>qc2 (bb i c hi (fQ c hc)),fun l hl=>qc2 (bb i _ hi (h.st.lt l hl))⟩
theorem Bx.last{n W w r i β c:Nat}{G:Nat->Prop}{M B0 R B:Mat}{kt t:Nat->Nat}{hd:Nat->Int}(K:Lf n W w r kt hd M)(h:Bx n W w r i G M B0 kt hd t R B)(hi:r<=i)(hn:i<n)(fQ:∀c,G c->c<W)(hG:G (kt i))(bb:BB n W C δ β (R,B))(hc:∀k,k<i->(R k (kt i)).natAbs<2 ^ c) :
 Bx n W w r (i+1) G M B0 kt hd (insT t i (kt i)) (downS (insT t i (kt i)) i (R,B) (i+1)).1 (downS (insT t i (kt i)) i (R,B) (i+1)).2 ∧
 (∀d,d<=i+1->Jl n i β c (insT t i (kt i)) R B d (downS (insT t i (kt i)) i (R,B) d)/\BB n W C δ (β+(c+i+3)) (downS (insT t i (kt i)) i (R,B) d)) ∧
 (∀d,d<i+1->∀m,m<d->shrS (insT t i (kt i)) (i-d) (i-d+1) (downS (insT t i (kt i)) i (R,B) d) m=downS (insT t i (kt i)) i (R,B) d):=by
 have H:=h.st.putB hn fQ bb.1;obtain⟨I,_⟩:=h.ins K hi H hG;have D:=(Rq I hn bb (i+1) (qa0 _)).1;rw[qj7]at D;have t1:∀j,j<i->insT t i (kt i) j=t j:=fun j hj=>if_pos hj;have t2:insT t i (kt i) i=kt i:=by unfold insT;rw[if_neg (by omega),if_pos rfl]
 have L:IE i (insT t i (kt i)) R:=⟨fun j hj=>I.s0.inc j i hj O9m,fun x hx=>I.s0.zero i x O9m hx,fun j hj=>I.s0.pos j O9m,fun k j h1 h2=>by rw[t1 j h2];exact h.st.st.red k j h1 h2⟩
 have hq:∀k,k<i->(Gx R (insT t i (kt i)) i k).natAbs<2 ^ c:=fun k hk=>fdiv_small (L.pos i (qa0 _)) (by rw[t2];exact hc k hk);have run:=BZ L bb hq hn;exact⟨h.nextK K hi hn I D,fun d hd=>⟨run d hd,(run d hd).bits bb hq hn hd⟩,fun d hd=>((run d O9m).step L bb.2.1 hq hn hd).2⟩
noncomputable def Ue(n r i:Nat)(kt:Nat->Nat)(c:Nat)(R:Mat):Prop:=∀k j,k<i->i<=j->j<n->(R k (kt j)).natAbs<2 ^ c
theorem Bx.above{n W w r i β c η:Nat}{G:Nat->Prop}{M B0 R B:Mat}{kt t:Nat->Nat}{hd:Nat->Int}{s:Mat × Mat}(K:Lf n W w r kt hd M)(h:Bx n W w r i G M B0 kt hd t R B)(hi:r<=i)(hn:i<n)(hη:∀j,r<=j->j<n->(hd j).natAbs<=2 ^ η)(a:Ue n r i kt c R)(l:Jl n i β c (insT t i (kt i)) R B (i+1) s):Ue n r (i+1) kt (c+η+1) s.1:=fun k j h1 h2 h3=>by
 have t2:insT t i (kt i) i=kt i:=by unfold insT;rw[if_neg (by omega),if_pos rfl]
 have mi:(R i (kt j)).natAbs<2 ^ η:=by
  rw[h.st.good.rest i _ (qa0 _)];obtain⟨m1,m2⟩:=K.red i j O9m O9m h3;have:=hη j O9m h3;omega
 have p1:2 ^ η<=2 ^ (c+η):=Cm O9m;have p2:2 ^ c<=2 ^ (c+η):=Cm O9m;rw[l.rows,qf1];by_cases z:i+1-(i+1)<=k/\k<i
 . rw[if_pos z];have e:=qc8 (R k (kt j)) (-(Gx R (insT t i (kt i)) i k)*R i (kt j));rw[qa4,qb3]at e
   have q:(Gx R (insT t i (kt i)) i k).natAbs<=2 ^ c:=by
    unfold Gx;rw[t2];have p:0<R i (kt i):=by rw[h.st.good.rest i _ (qa0 _),K.head i hi hn];exact K.pos i hi hn
    exact qc2 (fdiv_small p (a k i z.2 (qa0 _) hn))
   have m:=qd0 q (qc2 mi);rw[←qb7]at m;have b:=a k j z.2 O9m h3;omega
 . rw[if_neg z];have:k=i:=O9m
   subst this;omega
end Lat
namespace Lat
open Hb
noncomputable def put2(f:Nat->Int)(i j:Nat)(x y:Int):Nat->Int:=fun k=>if k=i then x else if k=j then y else f k
theorem L3(f:Nat->Int)(i j:Nat)(x y:Int):put2 f i j x y i=x:=if_pos rfl
theorem L1{i j:Nat}(f:Nat->Int)(h:i≠j)(x y:Int):put2 f i j x y j=y:=by unfold put2;rw[if_neg (fun z=>h z.symm),if_pos rfl]
theorem Gd{i j k:Nat}(f:Nat->Int)(h1:k≠i)(h2:k≠j)(x y:Int):put2 f i j x y k=f k:=by unfold put2;rw[if_neg h1,if_neg h2]
structure kW(o t g r:Int):Prop where
 go:g∣o
 gt:g∣t
 tr:t∣r
 pr:g*r=o*t
 all:∀d:Int,d∣o->d∣t->d∣g
theorem Shares.pair{A B g a b:Int}(h:Shares A B g a b):kW A B g (A / g*B):=by
 obtain⟨p,eA⟩:=h.dA;have g0:g≠0:=by have:=h.pos;omega
 have k1:A / g=p:=by rw[eA];exact qg7 _ g0
 refine⟨h.dA,h.dB,⟨A / g,qd4 ..⟩,?_,fun d h1 h2=>?_⟩
 . rw[k1,←qe0,←eA]
 . rw[h.e];exact Int.dvd_add (qn1 h1) (qn1 h2)
noncomputable def ChainTo(m i:Nat)(f:Nat->Int):Prop:=∀a b,a<i->a<b->b<m->f a∣f b
noncomputable def ChainAt(m i j:Nat)(f:Nat->Int):Prop:=ChainTo m i f/\∀b,i<b->b<j->f i∣f b
theorem ChainAt.step{m i j:Nat}{f:Nat->Int}{g r:Int}(h:ChainAt m i j f)(hij:i<j)(hj:j<m)(p:kW (f i) (f j) g r):ChainAt m i (j+1) (put2 f i j g r):=by
 have ne:i≠j:=O9m
 refine⟨fun a b ha hab hb=>?_,fun b hb fP=>?_⟩
 . rw[Gd f (show a≠i by omega) (show a≠j by omega)];have d1:=h.1 a i ha ha O9m;have d2:=h.1 a j ha O9m hj;by_cases e1:b=i
   . rw[e1,L3];exact p.all _ d1 d2
   . by_cases e2:b=j
     . rw[e2,L1 f ne];exact qo9 d2 p.tr
     . rw[Gd f e1 e2];exact h.1 a b ha hab hb
 . rw[L3];by_cases e2:b=j
   . rw[e2,L1 f ne];exact qo9 p.gt p.tr
   . rw[Gd f (by omega) e2];exact qo9 p.go (h.2 b hb O9m)
theorem ChainAt.skip{m i j:Nat}{f:Nat->Int}(h:ChainAt m i j f)(d:f i∣f j):ChainAt m i (j+1) f:=⟨h.1,fun b hb fP=>by
 by_cases e:b=j
 . rw[e];exact d
 . exact h.2 b hb O9m⟩
theorem ChainTo.at{m i:Nat}{f:Nat->Int}(h:ChainTo m i f):ChainAt m i (i+1) f:=⟨h,fun b h1 h2=>O9m⟩
theorem ChainAt.next{m i:Nat}{f:Nat->Int}(h:ChainAt m i m f):ChainTo m (i+1) f:=fun a b ha hab hb=>by
 by_cases e:a=i
 . rw[e]at hab ⊢;exact h.2 b hab hb
 . exact h.1 a b O9m hab hb
theorem K0{f f':Nat->Int}{i:Nat}:∀{m:Nat},i<m->(∀k,k<m->k≠i->f' k=f k)->prodN f' m*f i=prodN f m*f' i
 | m+1,hi,h=>by
   show prodN f' m*f' m*f i=prodN f m*f m*f' i;by_cases e:i=m
   . subst e
     have:prodN f' i=prodN f i:=by
      have:∀l,l<=i->prodN f' l=prodN f l:=by
       intro l
       induction l with
       | zero=>intro _;rfl
       | succ l ih=>intro hl;show prodN f' l*f' l=prodN f l*f l;rw[ih (by omega),h l (by omega) (by omega)]
      exact this i (qa0 _)
     rw[this]
     grind
   . have ih:=K0 (f:=f) (f':=f') (i:=i) (m:=m) O9m fun k hk=>h k O9m;rw[h m (by omega) (fun z=>e z.symm)];have:prodN f' m*f m*f i=prodN f' m*f i*f m:=by grind
     rw[this,ih]
     grind
theorem p8{f:Nat->Int}{i j m:Nat}{x y:Int}(hij:i<j)(hj:j<m)(h0:f i≠0)(hj0:f j≠0)(e:x*y=f i*f j):prodN (put2 f i j x y) m=prodN f m:=by
 have ne:i≠j:=O9m
 have a:=K0 (f:=f) (f':=put2 f i j x (f j)) (i:=i) (m:=m) O9m fun k hk hne=>by
  by_cases z:k=j
  . rw[z,L1 f ne]
  . exact Gd f hne z ..
 have b:=K0 (f:=put2 f i j x (f j)) (f':=put2 f i j x y) (i:=j) (m:=m) hj fun k hk hne=>by
  by_cases z:k=i
  . rw[z,L3,L3]
  . rw[Gd f z hne,Gd f z hne]
 rw[L3]at a;rw[L1 f ne,L1 f ne]at b
 have c:prodN (put2 f i j x y) m*(f j*f i)=prodN f m*(f j*f i):=by
  have:prodN (put2 f i j x y) m*(f j*f i)=(prodN (put2 f i j x y) m*f j)*f i:=by grind
  rw[this,b];have:prodN (put2 f i j x (f j)) m*y*f i=(prodN (put2 f i j x (f j)) m*f i)*y:=by grind
  rw[this,a];have:prodN f m*x*y=prodN f m*(x*y):=by grind
  rw[this,e]
  grind
 exact Int.eq_of_mul_eq_mul_right (Int.mul_ne_zero hj0 h0) c
structure qF(β:(Nat->Int)->(Nat->Int)->Int):Prop where
 l:∀u v y a b,β (fun c=>a*u c+b*v c) y=a*β u y+b*β v y
 r:∀x u v a b,β x (fun c=>a*u c+b*v c)=a*β x u+b*β x v
theorem Uk{β:(Nat->Int)->(Nat->Int)->Int}(hb:qF β){P Q:Mat}{f:Nat->Int}{i j n w:Nat}(ne:i≠j)(hin:i<n)(hjn:j<n)(NH:i<w)(IL:j<w)(h:∀x y,x<n->y<w->β (P x) (Q y)=if x=y then f x else 0){g a b:Int}(S:Shares (f i) (f j) g a b) :
 ∀x y,x<n->y<w->β (addR (addR P i j 1) j i (-(b*f j / g)) x) (blendR Q i j a b (-(f j / g)) (f i / g) y)=if x=y then put2 f i j g (f i / g*f j) x else 0:=by
 obtain⟨p,eA⟩:=S.dA;obtain⟨q,eB⟩:=S.dB;have g0:g≠0:=by have:=S.pos;omega
 have k1:f i / g=p:=by rw[eA];exact qg7 _ g0
 have k2:f j / g=q:=by rw[eB];exact qg7 _ g0
 have k3:b*f j / g=b*q:=by rw[eB,show b*(g*q)=g*(b*q) by grind];exact qg7 _ g0
 have e0:=S.e;have ne':j≠i:=fun z=>ne z.symm;rw[k1,k2,k3];have pi:addR (addR P i j 1) j i (-(b*q)) i=fun c=>1*P i c+1*P j c:=by rw[addR_row_ne ne,Io]
 have pj:addR (addR P i j 1) j i (-(b*q)) j=fun c=>1*P j c+(-(b*q))*(fun c=>1*P i c+1*P j c) c:=by
  rw[Io,addR_row_ne ne',Io]
 have po:∀x,x≠i->x≠j->addR (addR P i j 1) j i (-(b*q)) x=P x:=fun x h1 h2=>by rw[addR_row_ne h2,addR_row_ne h1]
 have ii:=h i i hin NH;have ij:=h i j hin IL;have ji:=h j i hjn NH;have jj:=h j j hjn IL;rw[if_pos rfl]at ii jj;rw[if_neg ne]at ij;rw[if_neg ne']at ji;intro x y hx hy;by_cases y1:y=i
 . subst y1;rw[blend_row_p ne];by_cases x1:x=y
   . subst x1;rw[if_pos rfl,L3,pi,hb.l,hb.r,hb.r,ii,ij,ji,jj]
     grind
   . rw[if_neg x1];by_cases x2:x=j
     . subst x2;rw[pj,hb.l,hb.l,hb.r,hb.r,ii,ij,ji,jj];have:1*(a*0+b*f x)+-(b*q)*(1*(a*f y+b*0)+1*(a*0+b*f x))=b*f x-b*q*(a*f y+b*f x):=by grind
       rw[this,←e0];have:b*f x=b*(g*q):=by rw[←eB]
       rw[this]
       grind
     . rw[po x x1 x2,hb.r,h x y hx hy,h x j hx IL,if_neg x1,if_neg x2];simp
 . by_cases y2:y=j
   . subst y2;rw[blend_row_q];by_cases x1:x=i
     . subst x1;rw[if_neg ne,pi,hb.l,hb.r,hb.r,ii,ij,ji,jj];have:1*(-q*f x+p*0)+1*(-q*0+p*f y)=p*f y-q*f x:=by grind
       rw[this,eA,eB]
       grind
     . by_cases x2:x=y
       . subst x2;rw[if_pos rfl,L1 f ne,pj,hb.l,hb.l,hb.r,hb.r,ii,ij,ji,jj];have:1*(-q*0+p*f x)+-(b*q)*(1*(-q*f i+p*0)+1*(-q*0+p*f x))=p*f x-b*q*(p*f x-q*f i):=by grind
         rw[this];have:p*f x-q*f i=0:=by rw[eA,eB];grind
         rw[this];omega
       . rw[if_neg x2,po x x1 x2,hb.r,h x i hx NH,h x y hx hy,if_neg x1,if_neg x2];simp
   . rw[blend_row_ne y1 y2];by_cases x1:x=i
     . subst x1;rw[if_neg (fun z=>y1 z.symm),pi,hb.l,h x y hx hy,h j y hjn hy,if_neg (fun z=>y1 z.symm),if_neg (fun z=>y2 z.symm)];simp
     . by_cases x2:x=j
       . subst x2;rw[if_neg (fun z=>y2 z.symm),pj,hb.l,hb.l,h x y hx hy,h i y hin hy,if_neg (fun z=>y2 z.symm),if_neg (fun z=>y1 z.symm)];simp
       . rw[po x x1 x2,h x y hx hy];by_cases e:x=y
         . rw[if_pos e,if_pos e,Gd f x1 x2]
         . rw[if_neg e,if_neg e]
noncomputable def Hu(n w:Nat)(A:Mat)(p q:Nat->Int):Int:=Ah (fun a=>p a*Ah (fun b=>A a b*q b) w) n
theorem f8(n w:Nat)(A:Mat):qF (Hu n w A):=by
 refine⟨fun u v y a b=>?_,fun x u v a b=>?_⟩
 . unfold Hu;rw[←Ay,←Ay,←B9];exact Aj fun k _=>by grind
 . unfold Hu;rw[←Ay,←Ay,←B9];refine Aj fun k _=>?_
   have:Ah (fun c=>A k c*(a*u c+b*v c)) w=a*Ah (fun c=>A k c*u c) w+b*Ah (fun c=>A k c*v c) w:=by
    rw[←Ay,←Ay,←B9];exact Aj fun c _=>by grind
   rw[this]
   grind
theorem Go{n w:Nat}{A:Mat}{p p' q q':Nat->Int}(hp:∀a,a<n->p a=p' a)(hq:∀b,b<w->q b=q' b):Hu n w A p q=Hu n w A p' q':=by
 unfold Hu;refine Aj fun a ha=>?_;rw[hp a ha,Aj fun b hb=>by rw[hq b hb]]
theorem Dj(n w:Nat)(A:Mat)(p q:Nat->Int):Hu n w A p q=Hu w n (tr A) q p:=by
 unfold Hu;rw[show(fun a=>p a*Ah (fun b=>A a b*q b) w)=fun a=>Ah (fun b=>p a*(A a b*q b)) w from funext fun a=>(Ay ..).symm];rw[Cz];refine Aj fun b _=>?_;rw[←Ay];exact Aj fun a _=>by grind
theorem Jk{n w:Nat}{A:Mat}{x:Nat->Int}{U:Mat}{q:Nat->Int}:∀m,Hu n w A (fun c=>Ah (fun k=>x k*U k c) m) q=Ah (fun k=>x k*Hu n w A (U k) q) m
 | 0=>by
   show Hu n w A (fun _=>0) q=0;unfold Hu;exact Bc fun a _=>by simp
 | m+1=>by
   have e:(fun c=>Ah (fun k=>x k*U k c) (m+1))=fun c=>1*(fun c=>Ah (fun k=>x k*U k c) m) c+x m*U m c:=funext fun c=>by
    show Ah (fun k=>x k*U k c) m+x m*U m c=1*Ah (fun k=>x k*U k c) m+x m*U m c;omega
   rw[e,(f8 n w A).l,Jk m];show 1*Ah (fun k=>x k*Hu n w A (U k) q) m+x m*Hu n w A (U m) q=Ah (fun k=>x k*Hu n w A (U k) q) m+x m*Hu n w A (U m) q;omega
noncomputable def aP(n w:Nat)(A Q M:Mat):Prop:=∀k c,k<n->c<w->M k c=Hu n w A (fun a=>M k (w+a)) (Q c)
theorem aP.rows{n w W:Nat}{A Q M R:Mat}(h:aP n w A Q M)(hW:w+n<=W)(e:∀i,i<n->In W n M (R i)):aP n w A Q R:=fun i c hi hc=>by
 obtain⟨x,hx⟩:=e i hi;rw[hx c (by omega)];have:Hu n w A (fun a=>R i (w+a)) (Q c)=Hu n w A (fun a=>Ah (fun k=>x k*(fun k a=>M k (w+a)) k a) n) (Q c):=Go (fun a ha=>hx (w+a) O9m) fun _ _=>rfl;rw[this,Jk];exact Aj fun k hk=>by rw[h k c hk hc]
theorem Cs.told{n W w:Nat}{G:Nat->Prop}{A Q M B0 R B:Mat}{t:Nat->Nat}(h:Cs n W w n G M B0 t R B)(hW:w+n<=W)(k:aP n w A Q M):aP n w A Q R:=k.rows hW (h.good.eqv n (qa0 _)).1
noncomputable def beside(w:Nat)(T P:Mat):Mat:=fun r c=>if c<w then T r c else P r (c-w)
theorem beside_lo{w:Nat}{T P:Mat}{r c:Nat}(h:c<w):beside w T P r c=T r c:=if_pos h
theorem beside_hi(w:Nat)(T P:Mat)(r a:Nat):beside w T P r (w+a)=P r a:=by unfold beside;rw[if_neg (by omega),Nat.add_sub_cancel_left]
theorem Jv{n w:Nat}{A Q T P:Mat}(h:∀k c,k<n->c<w->T k c=Hu n w A (P k) (Q c)):aP n w A Q (beside w T P):=fun k c hk hc=>by
 rw[beside_lo hc,h k c hk hc];exact Go (fun a _=>(beside_hi w T P k a).symm) fun _ _=>rfl
theorem Ni{n w:Nat}{A Q T P:Mat}(h:∀k c,k<n->c<w->T k c=Hu n w A (P k) (Q c)):∀c k,c<w->k<n->tr T c k=Hu w n (tr A) (Q c) (P k):=fun c k hc hk=>by
 show T k c=_;rw[h k c hk hc,Dj]
variable{C:Nat->Prop}{δ:Nat}
noncomputable def Ed(π b i:Nat):Nat:=i*cM π i+(i+1)*((i+1)*(i+1+(b+i+3+2*π+i*(π+1))+2))
noncomputable def Cy(π b:Nat):Nat->Nat
 | 0=>0
 | i+1=>Cy π b i+Ed π b i
noncomputable def La(c η r:Nat):Nat->Nat
 | 0=>0
 | d+1=>La c η r d+(c+d*(η+1)+(r+d)+3)
end Lat
namespace Lat
open Hb
variable{C:Nat->Prop}{δ:Nat}
theorem Bx.wide{n W w r i:Nat}{G G':Nat->Prop}{M B0 R B:Mat}{kt t:Nat->Nat}{hd:Nat->Int}(h:Bx n W w r i G M B0 kt hd t R B)(hG:∀c,G c->G' c):Bx n W w r i G' M B0 kt hd t R B:=⟨⟨h.st.good,h.st.st,fun j hj=>hG _ (h.st.pg j hj)⟩,h.tab,h.ker⟩
theorem cT{n W r β:Nat}{kt:Nat->Nat}{s:Mat × Mat}(b:BB n W C δ β s)(hr:r<=n)(hC:∀j,r<=j->j<n->C (kt j))(hδ:δ<=β):Ue n r r kt (β-δ) s.1:=fun k j h1 h2 h3=>by
 have:=b.2.2 k (kt j) O9m (hC j h2 h3);have e:2 ^ β=2 ^ (β-δ)*2 ^ δ:=by rw[←qb7];congr 1;omega
 rw[e]at this;exact Nat.lt_of_mul_lt_mul_right this
noncomputable def moveS(i s:Nat)(x:Mat × Mat):Mat × Mat:=(moveR x.1 i s,moveR x.2 i s)
noncomputable def u5(p:Nat)(x:Mat × Mat):Mat × Mat:=(Es x.1 p,Es x.2 p)
theorem GU{n i s r:Nat}(hi:i<n)(hs:s<=i)(hr:r<n):mvI i s r<n:=by unfold mvI;split;omega;split;omega;split<;>omega
theorem BB.move{n W β i s:Nat}{x:Mat × Mat}(h:BB n W C δ β x)(hi:i<n)(hs:s<=i):BB n W C δ β (moveS i s x) :=
 ⟨h.1.move hi hs,h.2.1.move hi hs,fun r c hr hc=>by show(moveR x.1 i s r c).natAbs*_<_;rw[move_row];exact h.2.2 _ c (GU hi hs hr) hc⟩
theorem BB.neg{n W β p:Nat}{x:Mat × Mat}(h:BB n W C δ β x):BB n W C δ β (u5 p x) :=
 ⟨h.1.neg,h.2.1.neg,fun r c hr hc=>by
  show(Es x.1 p r c).natAbs*_<_;unfold Es;by_cases e:r=p
  . subst e;rw[Bd,qb3];exact h.2.2 r c hr hc
  . rw[Bl e];exact h.2.2 r c hr hc⟩
noncomputable def insS(i spot st:Nat)(x:Mat × Mat):Mat × Mat:=if (moveS i spot x).1 spot st<0 then u5 spot (moveS i spot x) else moveS i spot x
theorem HE(i spot st:Nat)(R B:Mat):(insS i spot st (R,B)).1=if moveR R i spot spot st<0 then Es (moveR R i spot) spot else moveR R i spot:=by
 unfold insS;by_cases z:moveR R i spot spot st<0
 . rw[if_pos z];show(if moveR R i spot spot st<0 then u5 spot (moveS i spot (R,B)) else moveS i spot (R,B)).1=_;rw[if_pos z];rfl
 . rw[if_neg z];show(if moveR R i spot spot st<0 then u5 spot (moveS i spot (R,B)) else moveS i spot (R,B)).1=_;rw[if_neg z];rfl
theorem HD(i spot st:Nat)(R B:Mat):(insS i spot st (R,B)).2=if moveR R i spot spot st<0 then Es (moveR B i spot) spot else moveR B i spot:=by
 unfold insS;by_cases z:moveR R i spot spot st<0
 . rw[if_pos z];show(if moveR R i spot spot st<0 then u5 spot (moveS i spot (R,B)) else moveS i spot (R,B)).2=_;rw[if_pos z];rfl
 . rw[if_neg z];show(if moveR R i spot spot st<0 then u5 spot (moveS i spot (R,B)) else moveS i spot (R,B)).2=_;rw[if_neg z];rfl
theorem BB.ins{n W β i spot st:Nat}{x:Mat × Mat}(h:BB n W C δ β x)(hi:i<n)(hs:spot<=i):BB n W C δ β (insS i spot st x):=by
 unfold insS;split
 . exact(h.move hi hs).neg
 . exact h.move hi hs
theorem dO{n W w i β:Nat}{G:Nat->Prop}{R0 B0 R B:Mat}{t:Nat->Nat}{π b spot st:Nat}(H:Gb n W w i G R0 B0 t π b)(p:Cr n W w i G R0 B0 t π b spot R B)(hs:spot<=i)(h0:∀c,c<st->R i c=0)(h1:R i st≠0)(hW:st<W)(hG:G st)(iL:∀j,j<i->G (t j))(hex:spot<i->st<t spot)(bb:BB n W C δ (β+spot*cM π i) (R,B)) :
 EZ n W w i G R0 B0 (insT t spot st) (b+i+3+2*π+i*(π+1)) (insS i spot st (R,B)).1 (insS i spot st (R,B)).2 ∧
 Js n W w i (insS i spot st (R,B)).1 (insS i spot st (R,B)).2 (insT t spot st) 0 (downS (insT t spot st) i (insS i spot st (R,B)) (i+1)).1 (downS (insT t spot st) i (insS i spot st (R,B)) (i+1)).2 ∧
 BB n W C δ (β+i*cM π i) (insS i spot st (R,B)) ∧
 (∀d,d<=i+1->BB n W C δ (β+Ed π b i) (downS (insT t spot st) i (insS i spot st (R,B)) d)) ∧
 (∀d,d<=i->∀m,m<=d->BB n W C δ (β+Ed π b i) (shrS (insT t spot st) (i-d) (i-d+1) (downS (insT t spot st) i (insS i spot st (R,B)) d) m)):=by
 have I:=p.ins H hs h0 h1 hW hG iL hex;rw[←HE,←HD]at I;have b1:BB n W C δ (β+i*cM π i) (insS i spot st (R,B)):=(bb.mono (by have:=qb1 (cM π i) hs;omega)).ins H.hi hs;have run:=Rq (β:=β+i*cM π i) I H.hi b1
 have up:∀d,d<=i+1->β+i*cM π i+d*((i+1)*(i+1+(b+i+3+2*π+i*(π+1))+2))<=β+Ed π b i:=fun d hd=>by
  unfold Ed;have:=qb1 ((i+1)*(i+1+(b+i+3+2*π+i*(π+1))+2)) hd;omega
 refine⟨I,?_,b1,fun d hd=>(run d hd).2.1.mono (up d hd),fun d hd m hm=>((run d O9m).2.2 hd m hm).mono (up (d+1) O9m)⟩;have D:=(run (i+1) (qa0 _)).1;rw[qj7]at D;exact D
end Lat
namespace Lat
open Hb
variable{C:Nat->Prop}{δ:Nat}
theorem Pd{w m D:Nat}{T P:Mat}(h:Jt m (fun c=>c<w) T D):Jt m (fun c=>c<w) (beside w T P) D:=fun i hi s hs=>by
 have e:(det i fun r l=>beside w T P r (s l))=det i fun r l=>T r (s l):=Bu fun r c _ hc=>beside_lo (hs c hc);rw[e];exact h i hi s hs
theorem In.cols{w n:Nat}{R R':Mat}{u v:Nat->Int}(h:In w n R u)(hR:∀k c,k<n->c<w->R k c=R' k c)(hu:∀c,c<w->u c=v c):In w n R' v:=by
 obtain⟨x,hx⟩:=h;exact⟨x,fun c hc=>by rw[←hu c hc,hx c hc];exact Aj fun k hk=>by rw[hR k c hk hc]⟩
theorem C7.cols{n w:Nat}{T T' S S':Mat}(h:C7 n w T T')(e:∀k c,k<n->c<w->T k c=S k c)(e':∀k c,k<n->c<w->T' k c=S' k c):C7 n w S S':=by
 obtain⟨r,t,hr,st,hz⟩:=h.st;refine⟨fun i hi=>(h.fwd i hi).cols e fun c hc=>e' i c hi hc,fun i hi=>(h.bwd i hi).cols e' fun c hc=>e i c hi hc,r,t,hr,⟨st.lt,st.inc,fun j c hj hc=>?_,fun j hj=>?_,fun k j hk hj=>?_⟩,fun i c h1 h2 h3=>by rw[←e' i c h2 h3];exact hz i c h1 h2 h3⟩
 . rw[←e' j c (by omega) (by have:=st.lt j hj;omega)];exact st.zero j c hj hc
 . rw[←e' j _ (by omega) (st.lt j hj)];exact st.pos j hj
 . rw[←e' k _ (by omega) (st.lt j hj),←e' j _ (by omega) (st.lt j hj)];exact st.red k j hk hj
theorem v5{n W w r i E π b:Nat}{e:Int}{T P B0 R B:Mat}{kt t:Nat->Nat}{hd:Nat->Int}(g:Dr n w r E e T)(hW:w<=W)(h:Bx n W w r i (fun c=>c<w) (beside w T P) B0 kt hd t R B)(hi:i<r)(hE:E<=2 ^ π)(he:e.natAbs<=2 ^ π)(hb:i*E<=2 ^ b)(hπ:π<=b):Gb n W w i (fun c=>c<w) R B t π b:=by
 have rn:=g.sq.rn;refine h.st.putD (Pd g.dets) O9m O9m (fun c hc=>O9m) (b0:=π) (fun c hc=>?_) hE hb (qa0 _) hπ;rw[beside_lo hc];obtain⟨a1,a2⟩:=g.le i c O9m hc;omega
theorem Je{n w r E:Nat}{e:Int}{G:Nat->Prop}{A Q T P B0 R B:Mat}{kt t:Nat->Nat}{hd:Nat->Int}(he:0<e)(g:Dr n w r E e T)(K:Lf n (w+n) w r kt hd (beside w T P))(h:Bx n (w+n) w r n G (beside w T P) B0 kt hd t R B)(k:∀x c,x<n->c<w->T x c=Hu n w A (P x) (Q c)) :
 C7 n w T R/\Dr w n r E e (tr R)/\Lf n (w+n) w r kt hd R/\∀x c,x<n->c<w->R x c=Hu n w A (fun a=>R x (w+a)) (Q c):=by
 have s:C7 n w T R:=(h.st.rows O9m).cols (fun k c _ hc=>beside_lo hc) fun _ _ _ _=>rfl;exact⟨s,s.going he g,h.done K,h.st.told (qa0 _) (Jv k)⟩
end Lat
namespace Lat
open Hb
variable{C:Nat->Prop}{δ:Nat}
theorem z9{n W w i D π b b0:Nat}{M B0 R B:Mat}{t:Nat->Nat}(hM:∀r c,r<n->c<W->(M r c).natAbs<=2 ^ b0)(hD:Jt n (fun c=>c<W) M D)(h:Cs n W w i (fun c=>c<W) M B0 t R B)(hi:i<n)(h1:D<=2 ^ π)(h2:i*D<=2 ^ b)(h3:b0<=π)(h4:b0<=b):Gb n W w i (fun c=>c<W) R B t π b :=
 h.putD hD O9m hi (fun _ hc=>hc) (fun c hc=>hM i c hi hc) h1 h2 h3 h4
theorem Mc{n W w i D b b0 β:Nat}{M B0 R B:Mat}{t:Nat->Nat}(hM:∀r c,r<n->c<W->(M r c).natAbs<=2 ^ b0)(hD:Jt n (fun c=>c<W) M D)(hB:∀k a,B0 k a=if k=a then 1 else 0)(h:Cs n W w i (fun c=>c<W) M B0 t R B)(hi:i<=n)(h2:i*D<=2 ^ b)(h4:b0<=b)(hβ:b<β)(pG:n+b0<β):BB n W (fun _=>False) 0 β (R,B):=by
 refine⟨fun r c hr hc=>?_,fun r a hr ha=>?_,fun _ _ _ z=>z.elim⟩
 . have le:(R r c).natAbs<=2 ^ b:=by
    by_cases z:r<i
    . exact qa1 (h.rowD hD hi (fun _ hc=>hc) z hc) h2
    . rw[h.good.rest r c (by omega)];exact qa1 (hM r c hr hc) (Cm h4)
   exact qa7 le (qd6 (by decide) hβ)
 . have pM:∀x,x<n->∀c,pT n B0 M x c=M x c:=fun x hx c=>by
    show Ah (fun k=>B0 k x*M k c) n=M x c;rw[Bm (j:=x) hx fun k _ hne=>by rw[hB,if_neg hne];simp,hB,if_pos rfl,qb8]
   by_cases z:r<i
   . have:=h.backs hi (a:=a) (m:=2 ^ b0) (fun k hk=>by rw[h.good.restB k a hk,hB]) (fun j hj=>by rw[pM a ha];exact hM a _ ha (h.st.lt j hj)) (fun j hj=>hM a _ ha (h.st.lt j hj)) (fun _ _ j _=>pM a ha _) r z;rw[←qb7]at this;exact qa7 this (qd6 (by decide) O9m)
   . show(B r a).natAbs<2 ^ β;rw[h.good.restB r a (by omega),hB];have:1<2 ^ β:=Nat.one_lt_two_pow O9m;split
     . exact this
     . exact Nat.lt_trans (by decide) this
end Lat
namespace Lat
open Hb
theorem Df(w:Nat)(R:Mat):beside w R (fun r a=>R r (w+a))=R:=by
 funext r c
 unfold beside;by_cases h:c<w
 . rw[if_pos h]
 . rw[if_neg h];show R r (w+(c-w))=R r c;rw[show w+(c-w)=c by omega]
theorem Lf.table{n W w r:Nat}{kt:Nat->Nat}{hd:Nat->Int}{T T' P:Mat}(h:Lf n W w r kt hd (beside w T P))(hz:∀i c,r<=i->i<n->c<w->T' i c=0):Lf n W w r kt hd (beside w T' P):=by
 have same:∀k c,w<=c->beside w T' P k c=beside w T P k c:=fun k c hc=>by unfold beside;rw[if_neg (by omega),if_neg (by omega)]
 refine⟨fun j c h1 h2 h3=>?_,h.inc,h.ge,h.lt,fun j h1 h2=>?_,h.pos,fun k j h1 h2 h3=>?_⟩
 . by_cases z:c<w
   . rw[beside_lo z];exact hz j c h1 h2 z
   . rw[same j c (by omega)];exact h.zero j c h1 h2 h3
 . rw[same j _ (h.ge j h1 h2)];exact h.head j h1 h2
 . rw[same k _ (h.ge j h1 h3)];exact h.red k j h1 h2 h3
theorem Ew{n w w':Nat}{T T' P B:Mat}(h:D5 n w (beside w T P) B):D5 n w' (beside w' T' P) B:=fun i j hi hj=>by
 have:=h i j hi hj;unfold pD at this ⊢;rw[←this];exact Aj fun c _=>by rw[beside_hi,beside_hi]
structure Me(n w r E L m:Nat)(e:Int)(A T P PB Q QB:Mat)(kl kr:Nat->Nat)(hl hr:Nat->Int):Prop where
 e0:0<e
 going:Dr n w r E e T
 kl:Lf n (w+n) w r kl hl (beside w T P)
 kr:Lf w (n+w) n r kr hr (beside n (tr T) Q)
 told:∀x c,x<n->c<w->T x c=Hu n w A (P x) (Q c)
 dl:D5 n w (beside w T P) PB
 dr:D5 w n (beside n (tr T) Q) QB
 left:AQ n w r L m T
theorem Me.next{n w r E L m:Nat}{e:Int}{A T P PB Q QB R RB S SB:Mat}{kl kr tl ur:Nat->Nat}{hl hr:Nat->Int}{G G':Nat->Prop}(hL:e.natAbs.log2<=L)(h:Me n w r E L m e A T P PB Q QB kl kr hl hr)
 (s1:Bx n (w+n) w r n G (beside w T P) PB kl hl tl R RB)
 (s2:Bx w (n+w) n r w G' (beside n (tr R) Q) QB kr hr ur S SB) :
 Oo n w T (tr S)/\(¬Straight n w T->0<m/\Me n w r E L (m-1) e A (tr S) (fun x a=>R x (w+a)) RB (fun x a=>S x (n+a)) SB kl kr hl hr):=by
 obtain⟨a1,a2,a3,a4⟩:=Je h.e0 h.going h.kl s1 h.told;have RC:Lf w (n+w) n r kr hr (beside n (tr R) Q):=h.kr.table fun i c h1 h2 h3=>a2.sq.row0 i c h1 h2 h3;have t2:∀x c,x<w->c<n->tr R x c=Hu w n (tr A) (Q x) ((fun y a=>R y (w+a)) c):=fun x c hx hc=>Ni (T:=R) (P:=fun y a=>R y (w+a)) a4 x c hx hc;obtain⟨b1,b2,b3,b4⟩:=Je h.e0 a2 RC s2 t2;have st:Oo n w T (tr S):=⟨R,a1,b1⟩
 refine⟨st,fun ns=>?_⟩;obtain⟨m0,lf⟩:=h.going.next h.e0 hL st h.left ns;refine⟨m0,h.e0,b2,?_,?_,?_,?_,?_,lf⟩
 . have:Lf n (w+n) w r kl hl (beside w R fun x a=>R x (w+a)):=by rw[Df];exact a3
   exact this.table fun i c h1 h2 h3=>b2.sq.row0 i c h1 h2 h3
 . have:Lf w (n+w) n r kr hr (beside n S fun x a=>S x (n+a)):=by rw[Df];exact b3
   exact this.table fun i c h1 h2 h3=>b2.sq.flip.row0 i c h1 h2 h3
 . intro x c hx hc;show S c x=_;rw[b4 c x hc hx,Dj]
 . have d:=s1.st.good.dual h.dl;have:D5 n w (beside w R fun x a=>R x (w+a)) RB:=by rw[Df];exact d
   exact Ew this
 . have d:=s2.st.good.dual (Ew h.dr);have:D5 w n (beside n S fun x a=>S x (n+a)) SB:=by rw[Df];exact d
   exact Ew this
noncomputable def one:Mat:=fun i j=>if i=j then 1 else 0
theorem M5(n w:Nat)(T:Mat):D5 n w (beside w T one) one:=fun i j hi hj=>by
 unfold pD
 rw[show(fun c=>beside w T one i (w+c)*one j c)=fun c=>(if c=i then 1 else 0)*one j c from funext fun c=>by
  rw[beside_hi];show(if i=c then(1:Int) else 0)*_=_;by_cases e:i=c
  . rw[if_pos e,if_pos e.symm]
  . rw[if_neg e,if_neg fun z=>e z.symm]]
 rw[B7 (fun c=>one j c) i n,if_pos hi];show(if j=i then(1:Int) else 0)=_;by_cases e:i=j
 . rw[if_pos e,if_pos e.symm]
 . rw[if_neg e,if_neg fun z=>e z.symm]
theorem bA{n w:Nat}(A:Mat):∀x c,x<n->c<w->A x c=Hu n w A (one x) (one c):=fun x c hx hc=>by
 unfold Hu
 rw[Bm (j:=x) hx fun k _ hne=>by
  have:one x k=0:=if_neg fun z=>hne z.symm;rw[this];simp]
 rw[Bm (j:=c) hc fun k _ hne=>by
  have:one c k=0:=if_neg fun z=>hne z.symm;rw[this];simp]
 have e1:one x x=1:=if_pos rfl;have e2:one c c=1:=if_pos rfl;rw[e1,e2];simp
theorem Xz{n w D D' L:Nat}{A R RB S SB:Mat}{t u:Nat->Nat}{G G':Nat->Prop}(hD:Jt n G (beside w A one) D)(SJ:Jt w G' (beside n (tr R) one) D')
 (s1:Cs n (w+n) w n G (beside w A one) one t R RB) (s2:Cs w (n+w) n w G' (beside n (tr R) one) one u S SB) :
 ∃(r:Nat) (e:Int),r<=n/\r<=w/\e<=D/\Me n w r D L (r*(L+2)) e A (tr S) (fun x a=>R x (w+a)) RB (fun x a=>S x (n+a)) SB t u (fun j=>R j (t j)) (fun j=>S j (u j)) ∧
   (∀j,j<n->R j (t j)<=D)/\∀j,j<w->S j (u j)<=D':=by
 obtain⟨r,hr,st,hz,K,pr,hd⟩:=s1.first hD;obtain⟨r',hr',st',hz',K',_,hd'⟩:=s2.first SJ;have e0:0<prodN (fun j=>R j (t j)) r:=Cg fun j hj=>st.pos j hj;have qS:C7 w n (tr R) (tr (tr S)):=(s2.rows O9m).cols (fun k c _ hc=>beside_lo hc) fun _ _ _ _=>rfl;have g:=Oo.first (T:=A) hr st hz qS pr;have rw':=g.sq.rw
 have er:r'=r:=by
  refine qf6 (qe9 fun z=>?_) (qe9 fun z=>?_)
  . have p:=st'.pos r z;have:S r (u r)=0:=g.sq.col0 (u r) r (st'.lt r z) (qa0 _) O9m;omega
  . have p:0<S r' r':=g.pos r' z;have:S r' r'=0:=hz' r' r' (qa0 _) O9m O9m;omega
 subst er;have d1:=s1.good.dual (M5 n w A);have d2:=s2.good.dual (M5 w n (tr R));have tl:=s1.told (qa0 _) (Jv (bA (n:=n) (w:=w) A));have t2:∀x c,x<w->c<n->tr R x c=Hu w n (tr A) (one x) ((fun y a=>R y (w+a)) c):=fun x c hx hc=>Ni (T:=R) (P:=fun y a=>R y (w+a)) (Q:=one) tl x c hx hc;have QI:=s2.told (qa0 _) (Jv t2);refine⟨r',_,hr,rw',pr,⟨e0,g,?_,?_,fun x c hx hc=>?_,?_,?_,AQ.start g⟩,hd,hd'⟩
 . have:Lf n (w+n) w r' t (fun j=>R j (t j)) (beside w R fun x a=>R x (w+a)):=by rw[Df];exact K
   exact this.table fun i c h1 h2 h3=>g.sq.row0 i c h1 h2 h3
 . have:Lf w (n+w) n r' u (fun j=>S j (u j)) (beside n S fun x a=>S x (n+a)):=by rw[Df];exact K'
   exact this.table fun i c h1 h2 h3=>g.sq.flip.row0 i c h1 h2 h3
 . show S c x=_;rw[QI c x hc hx,Dj]
 . have:D5 n w (beside w R fun x a=>R x (w+a)) RB:=by rw[Df];exact d1
   exact Ew this
 . have:D5 w n (beside n S fun x a=>S x (n+a)) SB:=by rw[Df];exact d2
   exact Ew this
structure DiagAt(n w m:Nat)(E:Nat)(A P PB Q QB:Mat)(f:Nat->Int):Prop where
 mn:m<=n
 mw:m<=w
 diag:∀x y,x<n->y<w->Hu n w A (P x) (Q y)=if x=y then f x else 0
 pos:∀x,x<m->0<f x
 zero:∀x,m<=x->x<n->x<w->f x=0
 prod:prodN f m<=E
 dl:D5 n 0 P PB
 dr:D5 w 0 Q QB
theorem Tz{n w:Nat}{T P B:Mat}(h:D5 n w (beside w T P) B):D5 n 0 P B:=fun i j hi hj=>by
 rw[←h i j hi hj];unfold pD;exact Aj fun c _=>by rw[beside_hi,qn6]
theorem Me.diag{n w r E L m:Nat}{e:Int}{A T P PB Q QB:Mat}{kl kr:Nat->Nat}{hl hr:Nat->Int}(h:Me n w r E L m e A T P PB Q QB kl kr hl hr)(s:Straight n w T):DiagAt n w r E A P PB Q QB (fun x=>T x x):=by
 refine⟨h.going.sq.rn,h.going.sq.rw,fun x y hx hy=>?_,h.going.pos,fun x h1 h2 h3=>h.going.sq.row0 x x h1 h2 h3,h.going.prod,Tz h.dl,Tz h.dr⟩;rw[←h.told x y hx hy];by_cases z:x=y
 . rw[if_pos z,z]
 . rw[if_neg z];exact s x y hx hy z
theorem DiagAt.share{n w m E:Nat}{A P PB Q QB:Mat}{f:Nat->Int}(h:DiagAt n w m E A P PB Q QB f){i j:Nat}(hij:i<j)(hj:j<m){g a b:Int}(S:Shares (f i) (f j) g a b) :
 DiagAt n w m E A (addR (addR P i j 1) j i (-(b*f j / g))) (addR (addR PB j i (-1)) i j (b*f j / g)) (blendR Q i j a b (-(f j / g)) (f i / g)) (blendR QB i j (f i / g) (f j / g) (-b) a) (put2 f i j g (f i / g*f j)):=by
 have ne:i≠j:=O9m
 have mn:=h.mn;have mw:=h.mw;have pi:=h.pos i O9m;have pj:=h.pos j hj;have pg:=S.pos;have pr:=S.pair;have gz:f i / g*g=f i:=qo6 S.dA
 have po:0<f i / g*f j:=by
  have:0<g*(f i / g*f j):=by rw[pr.pr];exact Int.mul_pos pi pj
  exact Int.pos_of_mul_pos_right this O9m
 refine⟨mn,mw,Uk (f8 n w A) ne O9m O9m O9m O9m h.diag S,fun x hx=>?_,fun x h1 h2 h3=>?_,?_,?_,?_⟩
 . by_cases e1:x=i
   . rw[e1,L3];exact pg
   . by_cases e2:x=j
     . rw[e2,L1 f ne];exact po
     . rw[Gd f e1 e2];exact h.pos x hx
 . rw[Gd f (by omega) (by omega)];exact h.zero x h1 h2 h3
 . rw[p8 hij hj (by omega) (by omega) pr.pr];exact h.prod
 . have d1:=h.dl.add (p:=i) (q:=j) O9m O9m ne 1;have d2:=d1.add (p:=j) (q:=i) O9m O9m (fun z=>ne z.symm) (-(b*f j / g));rw[qj6]at d2;exact d2
 . have B:=S.blend (π:=(f i).natAbs+(f j).natAbs) pi (qa1 O9m (qc2 ql7)) (qa1 O9m (qc2 ql7));have d:=h.dr.blend (p:=i) (q:=j) O9m O9m ne B.one;rw[qj6]at d;exact d
theorem DiagAt.le{n w m E:Nat}{A P PB Q QB:Mat}{f:Nat->Int}(h:DiagAt n w m E A P PB Q QB f){x:Nat}(hx:x<m):f x<=E:=qo0 (Qu h.pos hx) h.prod
noncomputable def O6(n r:Nat)(kt:Nat->Nat):Nat->Prop:=fun c=>∃j,r<=j/\j<n/\c=kt j
theorem Lf.bits{n W w r β η:Nat}{kt:Nat->Nat}{hd:Nat->Int}{M B:Mat}(K:Lf n W w r kt hd M)(hη:∀j,r<=j->j<n->hd j<=2 ^ η)(b1:Bits n W β M)(b2:Bits n n β B)(hβ:η+1<=β):BB n W (O6 n r kt) (β-(η+1)) β (M,B):=by
 refine⟨b1,b2,fun k c hk hc=>?_⟩;obtain⟨j,h1,h2,rfl⟩:=hc
 have le:(M k (kt j)).natAbs<=2 ^ η:=by
  have p:=K.pos j h1 h2;have q:=hη j h1 h2
  have q':(hd j).natAbs<=2 ^ η:=by
   have:((hd j).natAbs:Int)<=((2 ^ η:Nat):Int):=by rw[Int.natAbs_of_nonneg (by omega)];exact_mod_cast q
   exact_mod_cast this
  rcases qi8 k j with z | z | z
  . obtain⟨a,b⟩:=K.red k j h1 z h2;omega
  . subst z;rw[K.head k h1 h2];exact q'
  . rw[K.zero k _ (by omega) hk (K.inc j k h1 z hk)];exact qa5 _
 show(M k (kt j)).natAbs*2 ^ (β-(η+1))<2 ^ β;have e:2 ^ β=2 ^ (η+1)*2 ^ (β-(η+1)):=by rw[←qb7];congr 1;omega
 rw[e];refine Nat.mul_lt_mul_of_pos_right ?_ (Nat.two_pow_pos _);exact To le
noncomputable def Ju(π b η r n:Nat):Nat:=Cy π b r+La (η+1+Cy π b r) η r (n-r)
theorem eX{n W r β η π b:Nat}{kt:Nat->Nat}{s:Mat × Mat}(bb:BB n W (O6 n r kt) (β-(η+1)) (β+Cy π b r) s)(hr:r<=n)(hβ:η+1<=β):Ue n r r kt (η+1+Cy π b r) s.1:=by
 have:=cT bb hr (kt:=kt) (fun j h1 h2=>⟨j,h1,h2,rfl⟩) O9m;rw[show β+Cy π b r-(β-(η+1))=η+1+Cy π b r by omega]at this;exact this
theorem j9(π b:Nat){i r:Nat}(h:i<=r):Cy π b i<=Cy π b r:=by
 induction r with
 | zero=>rw[show i=0 by omega];exact qa0 _
 | succ r ih =>
   by_cases e:i=r+1
   . rw[e];exact qa0 _
   . have:=ih O9m;show _<=Cy π b r+Ed π b r;omega
theorem aA(c η r:Nat){d e:Nat}(h:d<=e):La c η r d<=La c η r e:=by
 induction e with
 | zero=>rw[show d=0 by omega];exact qa0 _
 | succ e ih =>
   by_cases z:d=e+1
   . rw[z];exact qa0 _
   . have:=ih O9m;show _<=La c η r e+_;omega
end Lat
namespace Hb
open PySem L2
theorem Y9{g:TG}{te:TE}{D:Addr}{Q:Hp->Prop}{τ:St}{H:Hp}{K:W.Frag}{a b:Addr}{xs ys:List V}{n:Nat}(hn:xs.length=n/\ys.length=n)(Pv:Nat->List V->St->Hp->Prop)(h0:Pv 0 [] τ H)(hl:∀i zs τ H,i<=n->Pv i zs τ H->Du K H a xs/\Du K H b ys)
 (hs:∀i x y zs τ H p,xs[i]?=some x->ys[i]?=some y->Pv i zs τ H->H p=none->g (.ref p) τ (upd H p (.tup [x,y])) fun τ2 H2=>te τ2 H2 fun y H4=>H4 D=some (.lst zs)/\zs.length<sizeLine/\Pv (i+1) (zs++[y]) τ2 (upd H4 D (.lst (zs++[y]))))
 (hd:∀zs τ H,Pv n zs τ H->Q H):Ng (Ityp K a b) g l0 te D Q τ H:=aF hn Pv h0 hl (fun i x y zs τ H p e1 e2 q hp=>hs i x y zs τ H p e1 e2 q hp) hd
noncomputable abbrev Xv:Nat:=67108864
theorem FZ:∃n:Nat,n=2 ^ 9000:=⟨_,rfl⟩
noncomputable def L9:Nat:=Classical.choose FZ
theorem R6:L9=2 ^ 9000:=Classical.choose_spec FZ
theorem Ym{i j:Int}{n:Nat}(hi:i.natAbs<L9)(hj:j.natAbs<2 ^ n)(h:9000+n<=134217728:=by decide):IntMulOk i j:=Ih (R6▸hi) hj h
theorem U7{i j:Int}(hi:i.natAbs<L9)(hj:j.natAbs<L9):IntMulOk i j:=Ih (R6▸hi) (R6▸hj) (by decide)
theorem Nh.of9{i j:Int}(h0:j≠0)(h:j.natAbs<L9):Nh i j:=Nh.of h0 (R6▸h)
theorem MR{i j:Int}(hi:i.natAbs<L9)(hj:j.natAbs<L9):(i*j).natAbs<2 ^ 18000:=by
 rw[qa4,show 18000=9000+9000 from rfl,qb7];exact ql2 (R6▸hi) (R6▸hj)
theorem EG{x π:Nat}(h:x<=2 ^ π)(hπ:π<=8999):x<L9:=by
 rw[R6];exact qa7 h (qd6 (by decide) O9m)
noncomputable def BO(n W:Nat)(s:Lat.Mat × Lat.Mat):Prop:=Lat.Bits n W Xv s.1/\Lat.Bits n n Xv s.2
noncomputable def TA(H:Hp)(r:Addr)(as:List Addr)(n W:Nat)(f:Lat.Mat):Prop:=as.length=n/\H r=some (.lst (as.map V.ref))/\∀i c,as[i]?=some c->H c=some (.lst (VI W (f i)))
section
variable{K:W.Frag}{H H':Hp}{r:Addr}{as:List Addr}{n W:Nat}{f g:Lat.Mat}
theorem TA.keep(x:TA H r as n W f)(h1:∀o,H r=some o->H' r=some o)(h2:∀a∈as,∀o,H a=some o->H' a=some o):TA H' r as n W f:=⟨x.1,h1 _ x.2.1,fun i c e=>h2 c (qh6 e) _ (x.2.2 i c e)⟩
theorem TA.same(x:TA H r as n W f)(s:Ao H H'):TA H' r as n W f:=x.keep (fun _ e=>s _ _ e) fun _ _ _ e=>s _ _ e
theorem TA.put{y:Addr}{o:HO}(x:TA H r as n W f)(h1:r≠y)(h2:∀a∈as,a≠y):TA (upd H y o) r as n W f:=x.keep (fun _ e=>by rw[As h1];exact e) fun a ha _ e=>by rw[As (h2 a ha)];exact e
theorem TA.row(x:TA H r as n W f){i:Nat}(hi:i<n):∃c,as[i]?=some c/\(as.map V.ref)[i]?=some (.ref c)/\c∈as/\SqL K H c (VI W (f i)):=by
 obtain⟨h1,_,h3⟩:=x;have e:=qb0 (l:=as) (i:=i) O9m;refine⟨as[i],e,by rw[qc1,e];rfl,qj4 _,.of (h3 i _ e)⟩
theorem TA.rep(x:TA H r as n W f):Rep K H (.ref r) (dT n W f):=by
 refine Xn (us:=as.map V.ref) (.of x.2.1) (by rw[qa3,x.1]) fun i hi=>?_;obtain⟨c,_,e,_,h⟩:=x.row (K:=K) hi;exact⟨c,e,h⟩
theorem TA.there(x:TA H r as n W f):H r≠none/\∀a∈as,H a≠none:=by
 refine⟨by rw[x.2.1];exact(fun z=>nomatch z),fun a ha=>?_⟩;obtain⟨i,hi,rfl⟩:=qh1 ha;rw[x.2.2 i _ (qb0 hi)];exact fun z=>by cases z
theorem TA.of{D:Addr}{H1:Hp}{w h:Nat}(R:Rows H H1 D as w f)(hl:as.length=h):TA H1 D as h w f:=⟨hl,R.at,fun i c e=>(R.row i c e).2.2⟩
theorem TA.congr(x:TA H r as n W f)(e:∀i c,i<n->c<W->f i c=g i c):TA H r as n W g:=by
 refine⟨x.1,x.2.1,fun i c ec=>?_⟩;have hi:i<n:=by rw[←x.1];exact(qb2.mp ec).1
 rw[x.2.2 i c ec,Fa fun k hk=>e i k hi hk]
theorem TA.x{p C dx:Addr}{fs:List (Str × V)}(x:TA H r as n W f)(hp:H p=some (.ins C dx fs))(sx:SameX p H H'):TA H' r as n W f:=by
 refine x.keep (fun o e=>sx _ _ (Eu x.2.1 hp (by intro z;cases z)) e) fun a ha o e=>sx _ _ ?_ e;obtain⟨i,hi,rfl⟩:=qh1 ha;exact Eu (x.2.2 i _ (qb0 hi)) hp (by intro z;cases z)
theorem TA.made{H2:Hp}{L D:Addr}{i:Nat}(x:TA H r as n W f)(s2:Ao H H2)(hi:i<n)(hL:H2 L=some (.lst ((as.map V.ref).set i (.ref D))))(hD:H2 D=some (.lst (VI W (g i))))(e:∀r,r≠i->g r=f r):TA H2 L (as.set i D) n W g:=by
 refine⟨by rw[qg4,x.1],by rw[hL,qp6],fun j c ec=>?_⟩;rw[qg2]at ec;by_cases hj:i=j
 . subst hj;rw[if_pos rfl,if_pos (by rw[x.1];exact hi)]at ec;cases ec;exact hD
 . rw[if_neg hj]at ec;rw[e j fun z=>hj z.symm];exact s2 _ _ (x.2.2 j c ec)
theorem TA.two{i j:Nat}{D1 D2:Addr}(x:TA H r as n W f)(hi:i<n)(hj:j<n)(hij:i≠j)(h':H' r=some (.lst (((as.map V.ref).set i (.ref D1)).set j (.ref D2))))(keep:∀a∈as,∀o,H a=some o->H' a=some o)(h1:H' D1=some (.lst (VI W (g i))))(h2:H' D2=some (.lst (VI W (g j))))(e:∀k,k≠i->k≠j->g k=f k):TA H' r ((as.set i D1).set j D2) n W g:=by
 refine⟨by rw[qg4,qg4,x.1],by rw[h',qp6,qp6],fun k c ec=>?_⟩;rw[qg2,qg4]at ec;by_cases hkj:j=k
 . subst hkj;rw[if_pos rfl,if_pos (by rw[x.1];exact hj)]at ec;cases ec;exact h2
 rw[if_neg hkj,qg2]at ec;by_cases hki:i=k
 . subst hki;rw[if_pos rfl,if_pos (by rw[x.1];exact hi)]at ec;cases ec;exact h1
 rw[if_neg hki]at ec;rw[e k (fun z=>hki z.symm) fun z=>hkj z.symm];exact keep c (qh6 ec) _ (x.2.2 k c ec)
theorem Z8{i j:Nat}{D1 D2 a:Addr}(h:a∈(as.set i D1).set j D2):a∈as\/a=D1\/a=D2:=by
 rcases qm6 h with h | h
 . rcases qm6 h with h | h
   . exact .inl h
   . exact .inr (.inl h)
 . exact .inr (.inr h)
theorem He{l i:Nat}(h:i<l):Xa l ((i:Nat):Int)=some i:=by
 unfold Xa;rw[if_pos (by omega),if_pos (by omega),qb6]
end
noncomputable def mNames:List Str:=["turn","blend","put_in","meet","shrink","shrink_row"]
structure LX(H:Hp)(C p r b:Addr)(sv:Option V)(n W:Nat)(s:Lat.Mat × Lat.Mat)(N:Addr->Prop):Prop where
 ob:∃dx fs,H p=some (.ins C dx fs)/\fs.lookup ("rows":Str)=some (.ref r)/\fs.lookup ("backs":Str)=some (.ref b)/\fs.lookup ("starts":Str)=sv/\(∀m∈mNames,fs.lookup m=none)/\fs.length<=10
 rw:∃as,TA H r as n W s.1/\∀a∈as,a≠r/\a≠b/\¬N a
 bk:∃bs,TA H b bs n n s.2/\∀a∈bs,a≠r/\a≠b/\¬N a
 ne:r≠b
 nr:¬N r
 nb:¬N b
 nn:∀a,N a->H a≠none
theorem LX.keep{H H':Hp}{C p r b:Addr}{sv:Option V}{n W:Nat}{s:Lat.Mat × Lat.Mat}{N:Addr->Prop}(x:LX H C p r b sv n W s N)(e:Ao H H'):LX H' C p r b sv n W s N:=by
 obtain⟨dx,fs,h1,h2⟩:=x.ob;obtain⟨as,a1,a2⟩:=x.rw;obtain⟨bs,b1,b2⟩:=x.bk;exact⟨⟨dx,fs,e _ _ h1,h2⟩,⟨as,a1.same e,a2⟩,⟨bs,b1.same e,b2⟩,x.ne,x.nr,x.nb,fun a ha z=>x.nn a ha (e.free z)⟩
theorem LX.refs{H:Hp}{C p r b:Addr}{sv:Option V}{n W:Nat}{s:Lat.Mat × Lat.Mat}{N:Addr->Prop}(x:LX H C p r b sv n W s N):p≠r/\p≠b:=by
 obtain⟨dx,fs,h1,_⟩:=x.ob;obtain⟨as,a1,_⟩:=x.rw;obtain⟨bs,b1,_⟩:=x.bk;exact⟨Eu h1 a1.2.1 (by intro z;cases z),Eu h1 b1.2.1 (by intro z;cases z)⟩
noncomputable def oK(t:Tn)(s:Lat.Mat × Lat.Mat):Lat.Mat × Lat.Mat:=(Eb t s.1,Eb (CV t) s.2)
noncomputable def gW(n W:Nat)(f:Lat.Mat):Tn->Prop
 | .ad i j k=>i<n/\j<n/\i≠j/\∀c,c<W->IntMulOk k (f j c)
 | .mi i=>i<n
 | .sw _ _=>False
noncomputable def Op(r b:Addr)(H H':Hp):Prop:=∀x o,x≠r->x≠b->H x=some o->H' x=some o
theorem Op.of{r b:Addr}{H H':Hp}(s:Ao H H'):Op r b H H':=fun _ _ _ _ e=>s _ _ e
theorem Op.trans{r b:Addr}{H H1 H2:Hp}(x:Op r b H H1)(y:Op r b H1 H2):Op r b H H2:=fun a o n1 n2 e=>y a o n1 n2 (x a o n1 n2 e)
theorem Op.l{r b:Addr}{H H':Hp}{o:HO}(x:Op r b H H'):Op r b H (upd H' r o):=fun a u n1 n2 e=>by rw[As n1];exact x a u n1 n2 e
theorem Op.r{r b:Addr}{H H':Hp}{o:HO}(x:Op r b H H'):Op r b H (upd H' b o):=fun a u n1 n2 e=>by rw[As n2];exact x a u n1 n2 e
section
variable(K:W.Frag)(CL CS CW:Addr)
noncomputable def Qh:Sp:=fun vs H Q _=>∃(r:Addr) (u:V) (as:List Addr) (n W:Nat) (f:Lat.Mat) (t:Tn),vs=[.ref r,u]/\TA H r as n W f/\Rep K H u (Y7 t)/\gW n W f t/\n<=1000/\W<=1000 ∧
 ∀(D:Addr) (as':List Addr) (H':Hp),H D=none->Ao H H'->TA H' D as' n W (Eb t f)->(∀a∈as',(a∈as\/H a=none)/\a≠D)->Q (.ref D) H'
noncomputable def Hy(_K:W.Frag)(CL CS CW:Addr):Sp:=fun vs H Q _=>∃(p dx C:Addr) (r b:V),vs=[.ref p,r,b]/\(C=CL\/C=CS)/\H p=some (.ins C dx [])/\∀H',(∀fs,fs=putF "backs" b (putF "rows" r [])->H'=upd (upd H p (.ins C dx (putF "rows" r []))) p (.ins C dx fs)->Q .non H')
noncomputable def Gr(K:W.Frag)(CL CS CW:Addr):Sp:=fun vs H Q _=>∃(p:Addr) (u:V) (C r b:Addr) (sv:Option V) (n W:Nat) (s:Lat.Mat × Lat.Mat) (N:Addr->Prop) (t:Tn),vs=[.ref p,u]/\(C=CL\/C=CS)/\LX H C p r b sv n W s N/\Rep K H u (Y7 t)/\gW n W s.1 t/\gW n n s.2 (CV t)/\n<=1000/\W<=1000 ∧
 ∀(r' b':Addr) (H':Hp),SameX p H H'->H r'=none->H b'=none->LX H' C p r' b' sv n W (oK t s) N->Q .non H'
noncomputable def Ox:Sp:=fun vs H Q _=>∃A B:Int,vs=[.int A,.int B]/\0<A/\B≠0/\A.natAbs<L9/\B.natAbs<L9/\∀(L:Addr) (g a b:Int) (H':Hp),Ao H H'->Du K H' L [.int g,.int a,.int b]->Lat.Shares A B g a b->Q (.ref L) H'
noncomputable def Hz(K:W.Frag)(CL CS CW:Addr):Sp:=fun vs H Q _=>∃(p C r b:Addr) (sv:Option V) (n W i j:Nat) (A B:Int) (s:Lat.Mat × Lat.Mat) (N:Addr->Prop),vs=[.ref p,.int i,.int j,.int A,.int B]/\(C=CL\/C=CS)/\LX H C p r b sv n W s N/\i<n/\j<n/\i≠j/\n<=1000/\W<=1000/\0<A/\B≠0/\A.natAbs<L9/\B.natAbs<L9/\BO n W s ∧
 ∀(L:Addr) (g a c:Int) (H':Hp),Op r b H H'->Kp H H'->Du K H' L [.int g,.int a,.int c]->Lat.Shares A B g a c->LX H' C p r b sv n W (Lat.blendS i j a c (-(B / g)) (A / g) s) N->Q (.ref L) H'
end
noncomputable def LA(W:Nat)(t:Nat->Nat)(f m:Nat)(R:Lat.Mat):Prop:=∀j,f<=j->j<m->t j<W/\0<R j (t j)/\(R j (t j)).natAbs<L9
structure SX(CS:Addr)(H0 H:Hp)(p q:Addr)(M:Addr->Prop)(n W:Nat)(t:Nat->Nat)(cnt:Nat)(s:Lat.Mat × Lat.Mat):Prop where
 ex:∃r b,LX H CS p r b (some (.ref q)) n W s M/\H0 r=none/\H0 b=none
 st:H q=some (.lst (VI cnt fun i=>((t i:Nat):Int)))
 same:Ao H0 H
 fp:H0 p=none
 fq:H0 q=none
 mq:M q
 sm:n<=100/\W<=200/\cnt<=n
section
variable{CS:Addr}{H0 H H':Hp}{p q:Addr}{M:Addr->Prop}{n W cnt:Nat}{t:Nat->Nat}{s s':Lat.Mat × Lat.Mat}
theorem SX.redo{H1:Hp}{r' b':Addr}(x:SX CS H0 H p q M n W t cnt s)(e:Ao H H1)(sx:SameX p H1 H')(h1:H1 r'=none)(h2:H1 b'=none)(y:LX H' CS p r' b' (some (.ref q)) n W s' M):SX CS H0 H' p q M n W t cnt s':=by
 have s1:=x.same.trans e;obtain⟨r,b,z,_⟩:=x.ex;obtain⟨dx,fs,hp,_⟩:=z.ob;exact⟨⟨r',b',y,s1.free h1,s1.free h2⟩,sx _ _ (Eu x.st hp (by intro z;cases z)) (e _ _ x.st),sx.same s1 x.fp,x.fp,x.fq,x.mq,x.sm⟩
theorem SX.redo2{r b:Addr}(x:SX CS H0 H p q M n W t cnt s)(lx:LX H CS p r b (some (.ref q)) n W s M)(f1:H0 r=none)(f2:H0 b=none)(fr:Op r b H H')(_kp:Kp H H')(y:LX H' CS p r b (some (.ref q)) n W s' M):SX CS H0 H' p q M n W t cnt s' :=
 ⟨⟨r,b,y,f1,f2⟩,fr _ _ (fun z=>lx.nr (z▸x.mq)) (fun z=>lx.nb (z▸x.mq)) x.st,fun a o e=>fr _ _ (Bb e f1) (Bb e f2) (x.same _ _ e),x.fp,x.fq,x.mq,x.sm⟩
theorem SX.re(x:SX CS H0 H p q M n W t cnt s)(h:s=s'):SX CS H0 H p q M n W t cnt s':=h▸x
end
theorem insAt_get{α:Type}(k:Nat)(y:α)(xs:List α)(h:k<=xs.length)(j:Nat):(insAt k y xs)[j]?=if j<k then xs[j]? else if j=k then some y else xs[j-1]?:=by
 unfold insAt;by_cases h1:j<k
 . rw[if_pos h1,qj3 (by rw[qg0];omega),List.getElem?_take,if_pos h1]
 . rw[if_neg h1,qm2 (by rw[qg0];omega),qg0,Nat.min_eq_left h];by_cases h2:j=k
   . rw[if_pos h2,h2,qj7];rfl
   . rw[if_neg h2];obtain⟨e,rfl⟩:∃e,j=k+1+e:=⟨j-(k+1),O9m⟩
     rw[show k+1+e-k=e+1 by omega,List.getElem?_cons_succ,List.getElem?_drop]
     congr 1
     omega
theorem Tm{α:Type}{xs:List α}{i s:Nat}{y:α}(hi:xs[i]?=some y)(hs:s<=i)(j:Nat):(insAt s y (xs.eraseIdx i))[j]?=xs[Lat.mvI i s j]?:=by
 have hl:i<xs.length:=(qb2.mp hi).1;rw[insAt_get _ _ _ (by rw[qg1 hl];omega)];unfold Lat.mvI;by_cases h1:j<s
 . rw[if_pos h1,if_pos h1,List.getElem?_eraseIdx,if_pos (by omega)]
 . rw[if_neg h1,if_neg h1];by_cases h2:j=s
   . rw[if_pos h2,if_pos h2,hi]
   . rw[if_neg h2,if_neg h2,List.getElem?_eraseIdx];by_cases h3:j<=i
     . rw[if_pos (by omega),if_pos h3]
     . rw[if_neg (by omega),if_neg h3]
       congr 1
       omega
theorem Ts{α β:Type}(g:α->β)(k:Nat)(y:α)(xs:List α):(insAt k y xs).map g=insAt k (g y) (xs.map g):=by
 unfold insAt;rw[qe7,ql5,List.map_take,List.map_drop]
theorem N9{α β:Type}(g:α->β):∀(xs:List α) (i:Nat),(xs.eraseIdx i).map g=(xs.map g).eraseIdx i
 | [],_=>rfl
 | _::_,0=>rfl
 | x::xs,i+1=>congrArg (g x::·) (N9 g xs i)
theorem TA.move{H H1:Hp}{r:Addr}{as:List Addr}{n W i s:Nat}{f:Lat.Mat}{ci:Addr}(x:TA H r as n W f)(hi:i<n)(hs:s<=i)(y9:as[i]?=some ci)(h1:H1 r=some (.lst (insAt s (.ref ci) ((as.map V.ref).eraseIdx i))))(h2:∀a∈as,H1 a=H a) :
 TA H1 r (insAt s ci (as.eraseIdx i)) n W (Lat.moveR f i s)/\∀a∈insAt s ci (as.eraseIdx i),a∈as:=by
 have mem:∀a∈insAt s ci (as.eraseIdx i),a∈as:=fun a ha=>by
  obtain⟨j,hj⟩:=qo1 ha;rw[Tm y9 hs]at hj;exact qh6 hj
 refine⟨⟨?_,?_,fun j c e=>?_⟩,mem⟩
 . unfold insAt;rw[qf3,qe4,qg0,qi3,qg1 (by rw[x.1];exact hi),x.1];omega
 . rw[h1,Ts,N9]
 . rw[Tm y9 hs]at e;rw[h2 c (qh6 e),Lat.move_row];exact x.2.2 _ _ e
theorem X3{i s st:Nat}{t:Nat->Nat}(hs:s<=i):insAt s (V.int ((st:Nat):Int)) (VI i fun k=>((t k:Nat):Int))=VI (i+1) fun k=>((Lat.insT t s st k:Nat):Int):=by
 apply qm9;intro j;rw[insAt_get _ _ _ (by rw[Ba];exact hs)];by_cases hj:j<i+1
 . rw[Ch hj];unfold Lat.insT;by_cases h1:j<s
   . rw[if_pos h1,if_pos h1,Ch (by omega)]
   . rw[if_neg h1,if_neg h1];by_cases h2:j=s
     . rw[if_pos h2,if_pos h2]
     . rw[if_neg h2,if_neg h2,Ch (by omega)]
 . rw[if_neg (by omega),if_neg (by omega),qf4 (by rw[Ba];omega),qf4 (by rw[Ba];omega)]
theorem Qj(t:Nat->Nat)(p f:Nat)(s:Lat.Mat × Lat.Mat):∀d l,l≠p->(Lat.shrS t p f s d).1 l=s.1 l
 | 0,_,_=>rfl
 | d+1,l,h=>by
   rw[Lat.shrS];show Lat.addR _ _ _ _ l=_;rw[Lat.addR_row_ne h];exact Qj t p f s d l h
noncomputable def Uc(n W:Nat)(t:Nat->Nat)(i f m:Nat)(s:Lat.Mat × Lat.Mat):Prop:=∀d,d<=m-f->BO n W (Lat.shrS t i f s d)
noncomputable def Zm(n W:Nat)(t:Nat->Nat)(i:Nat)(s:Lat.Mat × Lat.Mat):Prop:=∀d,d<=i->LA W t (i-d+1) (i+1) (Lat.downS t i s d).1/\Uc n W t (i-d) (i-d+1) (i+1) (Lat.downS t i s d)
noncomputable def jX(t:Nat->Nat)(spot i:Nat)(k:Int)(s:Lat.Mat × Lat.Mat):Lat.Mat × Lat.Mat:=Lat.shrS t i (spot+1) (Lat.addS i spot (-k) s) (i-(spot+1))
noncomputable def Re(spot i:Nat)(A B g a b:Int)(s:Lat.Mat × Lat.Mat):Lat.Mat × Lat.Mat:=Lat.blendS spot i a b (-(B / g)) (A / g) s
noncomputable def BV(t:Nat->Nat)(spot i:Nat)(A B g a b:Int)(s:Lat.Mat × Lat.Mat):Lat.Mat × Lat.Mat:=Lat.shrS t spot (spot+1) (Re spot i A B g a b s) (i-(spot+1))
noncomputable def JW(t:Nat->Nat)(spot i:Nat)(A B g a b:Int)(s:Lat.Mat × Lat.Mat):Lat.Mat × Lat.Mat:=Lat.shrS t i (spot+1) (BV t spot i A B g a b s) (i-(spot+1))
structure CU(n W:Nat)(t:Nat->Nat)(spot i:Nat)(s:Lat.Mat × Lat.Mat)(Nx:Lat.Mat × Lat.Mat->Prop):Prop where
 bo:BO n W s
 hd:LA W t spot i s.1
 oth:s.1 i (t spot)≠0/\(s.1 i (t spot)).natAbs<L9
 add:∀k,s.1 i (t spot)=k*s.1 spot (t spot)->Uc n W t i (spot+1) i (Lat.addS i spot (-k) s)/\Nx (jX t spot i k s)
 ble:∀g a b,Lat.Shares (s.1 spot (t spot)) (s.1 i (t spot)) g a b->Uc n W t spot (spot+1) i (Re spot i (s.1 spot (t spot)) (s.1 i (t spot)) g a b s)/\Uc n W t i (spot+1) i (BV t spot i (s.1 spot (t spot)) (s.1 i (t spot)) g a b s)/\Nx (JW t spot i (s.1 spot (t spot)) (s.1 i (t spot)) g a b s)
structure IC(n W i:Nat)(t:Nat->Nat)(s0:Lat.Mat × Lat.Mat)(I:Nat->Lat.Mat × Lat.Mat->Prop):Prop where
 start:I 0 s0
 ok:∀spot s,spot<=i->I spot s->∃c,c<W/\s.1 i c≠0
 skip:∀spot s,spot<i->I spot s->(∀c,c<=t spot->s.1 i c=0)->I (spot+1) s
 meet:∀spot s,spot<i->I spot s->(∀c,c<t spot->s.1 i c=0)->s.1 i (t spot)≠0->CU n W t spot i s (I (spot+1))
noncomputable def Fc(W:Nat)(u:Nat->Int)(st:Nat):Prop:=(∀c,c<st->u c=0)/\u st≠0/\st<W
theorem Fc.one{W W':Nat}{u:Nat->Int}{a b:Nat}(h:Fc W u a)(k:Fc W' u b):a=b:=by
 rcases qi8 a b with e | e | e
 . exact absurd (k.1 a e) h.2.1
 . exact e
 . exact absurd (h.1 b e) k.2.1
theorem Fc.ex{W:Nat}{u:Nat->Int}(h:∃c,c<W/\u c≠0):∃st,Fc W u st:=by
 obtain⟨c,hc,h0⟩:=h
 induction c using Nat.strongRecOn with
 | _ c ih =>
   by_cases z:∃d,d<c/\u d≠0
   . obtain⟨d,hd,hd0⟩:=z;exact ih d hd O9m hd0
   . refine⟨c,fun d hd=>?_,h0,hc⟩;exact qe2 fun k=>z ⟨d,hd,k⟩
structure Xx(n W:Nat)(J:Nat->(Nat->Nat)->Lat.Mat × Lat.Mat->Prop):Prop where
 step:∀i t s,i<n->J i t s->∃I,IC n W i t s I/\∀spot st s',spot<=i->I spot s'->Fc W (s'.1 i) st->(spot<i->st<t spot) →
  Zm n W (Lat.insT t spot st) i (Lat.insS i spot st s')/\J (i+1) (Lat.insT t spot st) (Lat.downS (Lat.insT t spot st) i (Lat.insS i spot st s') (i+1))
theorem V6{w n:Nat}{f g:Nat->Int}{h:Nat->Int}(h1:∀c,c<w->h c=f c)(h2:∀a,a<n->h (w+a)=g a):VI w f++VI n g=VI (w+n) h:=by
 apply qm9;intro j;by_cases e1:j<w
 . rw[qj3 (by rw[Ba];exact e1),Ch e1,Ch (by omega),h1 j e1]
 . rw[qm2 (by rw[Ba];omega),Ba];by_cases e2:j<w+n
   . rw[Ch (by omega),Ch e2,←h2 (j-w) (by omega),show w+(j-w)=j by omega]
   . rw[qf4 (by rw[Ba];omega),qf4 (by rw[Ba];omega)]
theorem EX{w n:Nat}{f:Nat->Int}:Md (VI (w+n) f) (some (w:Int)) none=VI n fun a=>f (w+a):=by
 have e:=V6 (w:=w) (n:=n) (f:=f) (g:=fun a=>f (w+a)) (h:=f) (fun _ _=>rfl) (fun _ _=>rfl);have s1:HT.sIx (w+n) 0 (some (w:Int))=w:=by rw[HT.sIx_nat];omega
 unfold Md;rw[Ba,s1,←e,List.drop_append_of_le_length (by rw[Ba];omega),List.drop_of_length_le (by rw[Ba];omega),List.nil_append];apply qk6;rw[Ba];simp only[HT.sIx];omega
theorem KU{w n:Nat}{f:Nat->Int}:Md (VI (w+n) f) none (some (w:Int))=VI w f:=by
 have e:=V6 (w:=w) (n:=n) (f:=f) (g:=fun a=>f (w+a)) (h:=f) (fun _ _=>rfl) (fun _ _=>rfl);have s1:HT.sIx (w+n) (w+n) (some (w:Int))=w:=by rw[HT.sIx_nat];omega
 have s2:HT.sIx (w+n) 0 none=0:=rfl;unfold Md;rw[Ba,s1,s2,List.drop_zero,Nat.sub_zero,←e,List.take_append_of_le_length (by rw[Ba];omega),qk6 (by rw[Ba];omega)]
section
variable(K:W.Frag)(CL CS CW:Addr)
noncomputable def Ow(K:W.Frag)(CL CS CW:Addr):Sp:=fun vs H Q _=>∃(v:V) (L r b:Addr) (sv:Option V) (N:Addr->Prop) (n w:Nat) (T P PB:Lat.Mat) (J:Nat->(Nat->Nat)->Lat.Mat × Lat.Mat->Prop),vs=[v,.int w,.ref L]/\Rep K H v (dT n w T)/\LX H CL L r b sv n n (P,PB) N/\n<=60/\w<=60/\Xx n (w+n) J/\(∀t,J 0 t (Lat.beside w T P,PB))/\(∀i t s,J i t s->∀j,j<i->t j<w+n) ∧
 ∀(tp D L' r' b':Addr) (as:List Addr) (t:Nat->Nat) (s:Lat.Mat × Lat.Mat) (H':Hp),Ao H H'->J n t s->Du K H' tp [.ref D,.ref L']->TA H' D as n w s.1->LX H' CL L' r' b' none n n (fun x a=>s.1 x (w+a),s.2) N->H D=none->H L'=none->H r'=none->H b'=none->Q (.ref tp) H'
noncomputable def Mn:Sp:=fun vs H Q _=>∃(c:Addr) (W st:Nat) (u:Nat->Int),vs=[.ref c]/\SqL K H c (VI W u)/\Fc W u st/\W<=1000/\Q (.int (st:Int)) H
noncomputable def Gq(_K:W.Frag)(CL CS CW:Addr):Sp:=fun vs H Q _=>∃(H0:Hp) (p q:Addr) (M:Addr->Prop) (n W:Nat) (t:Nat->Nat) (cnt:Nat) (s:Lat.Mat × Lat.Mat) (i f:Nat),vs=[.ref p,.int i,.int f]/\SX CS H0 H p q M n W t cnt s/\i<n/\f<=cnt/\(i<f\/cnt<=i)/\LA W t f cnt s.1/\Uc n W t i f cnt s ∧
 ∀H',SX CS H0 H' p q M n W t cnt (Lat.shrS t i f s (cnt-f))->Q .non H'
noncomputable def Qe(_K:W.Frag)(CL CS CW:Addr):Sp:=fun vs H Q _=>∃(H0:Hp) (p q:Addr) (M:Addr->Prop) (n W:Nat) (t:Nat->Nat) (i:Nat) (s:Lat.Mat × Lat.Mat),vs=[.ref p]/\SX CS H0 H p q M n W t (i+1) s/\Zm n W t i s ∧
 ∀H',SX CS H0 H' p q M n W t (i+1) (Lat.downS t i s (i+1))->Q .non H'
noncomputable def Wf(_K:W.Frag)(CL CS CW:Addr):Sp:=fun vs H Q _=>∃(H0:Hp) (p q:Addr) (M:Addr->Prop) (n W:Nat) (t:Nat->Nat) (spot i:Nat) (s:Lat.Mat × Lat.Mat) (Nx:Lat.Mat × Lat.Mat->Prop),vs=[.ref p,.int spot,.int i]/\SX CS H0 H p q M n W t i s/\spot<i/\i<n/\CU n W t spot i s Nx ∧
 ∀H' s',SX CS H0 H' p q M n W t i s'->Nx s'->Q .non H'
noncomputable def Qf(_K:W.Frag)(CL CS CW:Addr):Sp:=fun vs H Q _=>∃(H0:Hp) (p q:Addr) (M:Addr->Prop) (n W:Nat) (t:Nat->Nat) (i:Nat) (s:Lat.Mat × Lat.Mat) (I:Nat->Lat.Mat × Lat.Mat->Prop),vs=[.ref p,.int i]/\SX CS H0 H p q M n W t i s/\i<n/\IC n W i t s I/\(∀j,j<i->t j<W) ∧
 ∀H' spot st s',spot<=i->I spot s'->Fc W (s'.1 i) st->(spot<i->st<t spot)->SX CS H0 H' p q M n W (Lat.insT t spot st) (i+1) (Lat.insS i spot st s')->Q .non H'
noncomputable def Wg(_K:W.Frag)(CL CS CW:Addr):Sp:=fun vs H Q _=>∃(p dx:Addr) (r b:V),vs=[.ref p,r,b]/\H p=some (.ins CS dx [])/\∀q H' fs,H q=none->fs=putF "starts" (.ref q) (putF "backs" b (putF "rows" r []))->SameX p H H'->H' q=some (.lst [])->H' p=some (.ins CS dx fs)->Q .non H'
end
end Hb
namespace L2
open PySem PySem.Spec PyProof.Rows PySem.SeqAt
section
variable{X:Cx}{n:Nat}{K:W.Frag}
theorem AK(hc:X.calm=true):Fd X (.builtin "any") (fun xs H Q=>∃(p:Addr) (bs:List Bool),xs=[.ref p]/\SqL X.K H p (bs.map V.bl)/\Q (.bl (bs.any id)) H):=by
 intro Ac s σ H xs us Q I r h;obtain⟨p,bs,rfl,hq,q⟩:=h;obtain⟨u,rfl,ru⟩:=S8 r;cases ru;obtain⟨its,rv,pl,hz⟩:=I.list hq;have hh:X.A.handled=none:=I.ok.hd hc
 have rel:∀(i:Nat) (v:Value),its.toArray[i]?=some v->∃b,bs[i]?=some b/\v=.bool b:=fun i v e=>by
  have e':its[i]?=some v:=by simpa using e
  have hlt:i<its.length:=(qb2.mp e').1;have l1:=rv.length;rw[qa3]at l1;have hb:bs[i]?=some (bs[i]'(O9m)):=by simp<;>omega
  obtain⟨u,hu,ru⟩:=rv.get (i:=i) (x:=V.bl (bs[i]'(O9m))) (by rw[qc1,hb];rfl);rw[e']at hu;cases hu;exact⟨_,hb,ru⟩
 refine call_any_walk (qn5 pl.isList ?_);refine⟨s.heap.objs.size,[s.heap.objs.size,p],[s.heap.objs.size],its.toArray.size,_,_,fun i=>(bs[i]?).getD false,rfl,Walks.list (show X.A.in1.handled=none from hh) s.heap.objs.size p ?_ its.toArray,⟨⟨_,qb5 _ rfl,rfl,rfl⟩,?_⟩,?_,fun h' tk k=>?_⟩
 . obtain⟨o,_,ho,_⟩:=pl;exact qc4 (qa9 ho)
 . exact pl.isList.at fun o e=>qa2 _ e
 . intro i v s' Q' E' hv hQ;obtain⟨b,hb,rfl⟩:=rel i v hv;dsimp only at hQ;rw[hb]at hQ;exact qi2 hQ
 . have e:(List.range its.toArray.size).any (fun i=>(bs[i]?).getD false)=bs.any id:=by
    have l1:=rv.length;rw[qa3]at l1;rw[qb4,←l1];rw[qk2,List.any_eq_true,List.any_eq_true];constructor
    . rintro ⟨i,hi,hx⟩;have hlt:=qj2.mp hi;have hb:bs[i]?=some bs[i]:=by simp
      rw[hb]at hx;exact⟨_,qj4 hlt,hx⟩
    . rintro ⟨b,hb,hx⟩;obtain⟨i,hi⟩:=qo1 hb;refine⟨i,qj2.mpr (qb2.mp hi).1,?_⟩;rw[hi];exact hx
   rw[e];have I1:Bk X Ac σ H { s with heap:=h',toks:=tk }:=I.kept (fun b o e=>k b o (by simp;exact qc4 (qa9 e)) (qa2 _ e));exact⟨.bl (bs.any id),H,I1,rfl,q⟩
theorem AM:bootBuiltins "any"=some (.builtin "any"):=by decide +kernel
theorem Ys(hc:X.calm=true)(hK:X.K=K:=by rfl):Fd X (.builtin "any") (fun xs H Q=>∃(p:Addr) (bs:List Bool),xs=[.ref p]/\SqL K H p (bs.map V.bl)/\Q (.bl (bs.any id)) H):=by subst hK;exact AK hc
end
end L2
namespace Hb
open PySem L2
noncomputable def gC:List Str:=["straighten","step","put_in_order","share"]
section
variable{K:W.Frag}{H H':Hp}
theorem Rk{nm a:Addr}(h:a≠nm):Jr H (fun a=>a=nm) a=H a:=Gh h
theorem y6{nm a:Addr}(h:a=nm):Jr H (fun a=>a=nm) a=none:=Rj h
theorem fF{p C dx:Addr}{fs:List (Str × V)}{a:Addr}{xs:List V}(h:SqL K H a xs)(hp:H p=some (.ins C dx fs))(sx:SameX p H H'):SqL K H' a xs:=by
 rcases h with(h|⟨o,h⟩) | h
 . exact .inl (.inl (sx _ _ (Eu h hp (by intro z;cases z)) h))
 . exact .inl (.inr ⟨o,sx _ _ (Eu h hp (by intro z;cases z)) h⟩)
 . exact .inr h
theorem Zv{p C dx:Addr}{fs:List (Str × V)}{a:Addr}{xs:List V}(h:Du K H a xs)(hp:H p=some (.ins C dx fs))(sx:SameX p H H'):Du K H' a xs:=by
 rcases h with(h|⟨o,h⟩) | h
 . exact .inl (.inl (sx _ _ (Eu h hp (by intro z;cases z)) h))
 . exact .inl (.inr ⟨o,sx _ _ (Eu h hp (by intro z;cases z)) h⟩)
 . exact .inr h
theorem jI{nm:Addr}{ys:List V}{o:HO}{a:Addr}{xs:List V}(h:Du K H a xs)(hn:H nm=some (.lst ys)):Du K (upd H nm o) a xs:=by
 rcases h with(h|⟨u,h⟩) | h
 . exact .inl (.inl (by rw[As (Eu h hn (by intro z;cases z))];exact h))
 . exact .inl (.inr ⟨u,by rw[As (Eu h hn (by intro z;cases z))];exact h⟩)
 . exact .inr h
theorem bE{m i:Nat}{f:Nat->Int}{x:Int}(hi:i<m):(VI m f).set i (.int x)=(G7 m fun k=>if k=i then x else f k).map V.int:=by
 show _=VI m _;apply qm9;intro j;rw[qg2,Ba];by_cases hj:i=j
 . subst hj;rw[if_pos rfl,if_pos hi,Ch hi,if_pos rfl]
 . rw[if_neg hj];by_cases h2:j<m
   . rw[Ch h2,Ch h2,if_neg fun z=>hj z.symm]
   . rw[qf4 (by rw[Ba];omega),qf4 (by rw[Ba];omega)]
theorem nY{p C dx:Addr}{fs:List (Str × V)}{v:V}{n w:Nat}{f:Nat->Nat->Int}(h:Rep K H v (dT n w f))(hp:H p=some (.ins C dx fs))(sx:SameX p H H'):Rep K H' v (dT n w f):=by
 obtain⟨a,us,rfl,hq,hl,hr⟩:=E7 h;refine Xn (fF hq hp sx) hl fun i hi=>?_;have e:=qb0 (l:=us) (i:=i) O9m;obtain⟨_,b,eb,hb⟩:=hr i _ e;exact⟨b,by rw[e,eb],fF hb hp sx⟩
end
theorem LX.x{H H':Hp}{C p r b:Addr}{sv:Option V}{n W:Nat}{s:Lat.Mat × Lat.Mat}{N:Addr->Prop}{q D dx:Addr}{fs:List (Str × V)}(x:LX H C p r b sv n W s N)(hq:H q=some (.ins D dx fs))(hqp:q≠p)(sx:SameX q H H')(kp:Kp H H'):LX H' C p r b sv n W s N:=by
 obtain⟨dx,fs,h1,h2⟩:=x.ob;obtain⟨as,a1,a2⟩:=x.rw;obtain⟨bs,b1,b2⟩:=x.bk;exact⟨⟨dx,fs,sx _ _ hqp.symm h1,h2⟩,⟨as,a1.x hq sx,a2⟩,⟨bs,b1.x hq sx,b2⟩,x.ne,x.nr,x.nb,fun a ha=>kp a (x.nn a ha)⟩
theorem LX.more{H H':Hp}{C p r b:Addr}{sv:Option V}{n W:Nat}{s:Lat.Mat × Lat.Mat}{N N':Addr->Prop}(x:LX H C p r b sv n W s N)(e:Ao H H')(h:∀a,N' a->N a\/H a=none)(hn:∀a,N' a->H' a≠none):LX H' C p r b sv n W s N':=by
 obtain⟨dx,fs,h1,h2⟩:=x.ob;obtain⟨as,a1,a2⟩:=x.rw;obtain⟨bs,b1,b2⟩:=x.bk;refine⟨⟨dx,fs,e _ _ h1,h2⟩,⟨as,a1.same e,fun a ha=>⟨(a2 a ha).1,(a2 a ha).2.1,fun z=>?_⟩⟩,⟨bs,b1.same e,fun a ha=>⟨(b2 a ha).1,(b2 a ha).2.1,fun z=>?_⟩⟩,x.ne,fun z=>?_,fun z=>?_,hn⟩
 . exact(h a z).elim (a2 a ha).2.2 (a1.there.2 a ha)
 . exact(h a z).elim (b2 a ha).2.2 (b1.there.2 a ha)
 . exact(h r z).elim x.nr a1.there.1
 . exact(h b z).elim x.nb b1.there.1
structure WX(K:W.Frag)(CL CW:Addr)(H0 H:Hp)(p L R nm:Addr)(n w:Nat)(M:Option Lat.Mat)(l r:Lat.Mat × Lat.Mat)(ns:List Int):Prop where
 ob:∃tv dx fs,H p=some (.ins CW dx fs)/\fs.lookup ("table":Str)=some tv/\fs.lookup ("width":Str)=some (.int (w:Int))/\fs.lookup ("left":Str)=some (.ref L)/\fs.lookup ("right":Str)=some (.ref R)/\fs.lookup ("numbers":Str)=some (.ref nm)/\(∀m∈gC,fs.lookup m=none)/\fs.length<=10/\∀M',M=some M'->Rep K (Jr H fun a=>a=nm) tv (dT n w M')
 li:∃r1 b1 r2 b2,LX H CL L r1 b1 none n n l (fun a=>a=nm\/a=r2\/a=b2)/\LX H CL R r2 b2 none w w r (fun a=>a=nm)/\H0 r1=none/\H0 b1=none/\H0 r2=none/\H0 b2=none
 nu:H nm=some (.lst (ns.map V.int))
 same:Ao H0 H
 fr:H0 p=none/\H0 L=none/\H0 R=none/\H0 nm=none
 ne:p≠L/\p≠R/\L≠R
 sm:n<=60/\w<=60
noncomputable def aR(m:Nat)(M:Lat.Mat):List Int:=((List.range m).map fun i=>M i i).filter fun x=>decide (x≠0)
theorem WX.keep{K:W.Frag}{CL CW:Addr}{H0 H H':Hp}{p L R nm:Addr}{n w:Nat}{M:Option Lat.Mat}{l r:Lat.Mat × Lat.Mat}{ns:List Int}(x:WX K CL CW H0 H p L R nm n w M l r ns)(s:Ao H H'):WX K CL CW H0 H' p L R nm n w M l r ns:=by
 obtain⟨tv,dx,fs,hp,l1,l2,l3,l4,l5,l6,l7,hrep⟩:=x.ob;obtain⟨r1,b1,r2,b2,lx,ly,f⟩:=x.li;exact⟨⟨tv,dx,fs,s _ _ hp,l1,l2,l3,l4,l5,l6,l7,fun M' e=>Rep.same (bG s) (hrep M' e)⟩,⟨r1,b1,r2,b2,lx.keep s,ly.keep s,f⟩,s _ _ x.nu,x.same.trans s,x.fr,x.ne,x.sm⟩
theorem WX.num{K:W.Frag}{CL CW:Addr}{H0 H:Hp}{p L R nm:Addr}{n w:Nat}{M:Option Lat.Mat}{l r:Lat.Mat × Lat.Mat}{ns ns':List Int}(x:WX K CL CW H0 H p L R nm n w M l r ns):WX K CL CW H0 (upd H nm (.lst (ns'.map V.int))) p L R nm n w M l r ns':=by
 obtain⟨tv,dx,fs,hp,l1,l2,l3,l4,l5,l6,l7,hrep⟩:=x.ob;obtain⟨r1,b1,r2,b2,lx,ly,f⟩:=x.li;have ND:p≠nm:=Eu hp x.nu (by intro z;cases z)
 have go:∀{q r b:Addr}{m:Nat}{s:Lat.Mat × Lat.Mat}{N:Addr->Prop},LX H CL q r b none m m s N->N nm->LX (upd H nm (.lst (ns'.map V.int))) CL q r b none m m s N:=fun {q r b m s N} y hN=>by
  obtain⟨d2,f2,e1,e2⟩:=y.ob;obtain⟨as,a1,a2⟩:=y.rw;obtain⟨bs,b1,b2⟩:=y.bk;refine⟨⟨d2,f2,by rw[As (Eu e1 x.nu (by intro z;cases z))];exact e1,e2⟩,⟨as,a1.put (fun z=>y.nr (z▸hN)) fun a ha z=>(a2 a ha).2.2 (z▸hN),a2⟩,⟨bs,b1.put (fun z=>y.nb (z▸hN)) fun a ha z=>(b2 a ha).2.2 (z▸hN),b2⟩,y.ne,y.nr,y.nb,fun a ha z=>?_⟩;by_cases e:a=nm
  . rw[e,Ae]at z;cases z
  . rw[As e]at z;exact y.nn a ha z
 refine⟨⟨tv,dx,fs,by rw[As ND];exact hp,l1,l2,l3,l4,l5,l6,l7,fun M' e=>Rep.same (Tt fun a o n e=>by rw[As n];exact e) (hrep M' e)⟩,⟨r1,b1,r2,b2,go lx (.inl rfl),go ly rfl,f⟩,Ae,fun a o e=>by rw[As (Bb e x.fr.2.2.2)];exact x.same _ _ e,x.fr,x.ne,x.sm⟩
theorem WX.drop{K:W.Frag}{CL CW:Addr}{H0 H:Hp}{p L R nm:Addr}{n w:Nat}{M:Option Lat.Mat}{l r:Lat.Mat × Lat.Mat}{ns:List Int}(x:WX K CL CW H0 H p L R nm n w M l r ns):WX K CL CW H0 H p L R nm n w none l r ns:=by
 obtain⟨tv,dx,fs,hp,l1,l2,l3,l4,l5,l6,l7,_⟩:=x.ob;exact⟨⟨tv,dx,fs,hp,l1,l2,l3,l4,l5,l6,l7,fun M' e=>by cases e⟩,x.li,x.nu,x.same,x.fr,x.ne,x.sm⟩
theorem WX.left{K:W.Frag}{CL CW:Addr}{H0 H H1 H':Hp}{p L R nm r1 b1 r2 b2 r' b':Addr}{n w:Nat}{M:Option Lat.Mat}{l r l':Lat.Mat × Lat.Mat}{ns:List Int}(x:WX K CL CW H0 H p L R nm n w M l r ns)(lx:LX H CL L r1 b1 none n n l (fun a=>a=nm\/a=r2\/a=b2))(ly:LX H CL R r2 b2 none w w r (fun a=>a=nm))(f3:H0 r2=Option.none)(f4:H0 b2=Option.none)
 (s:Ao H H1) (sx:SameX L H1 H') (h1:H1 r'=Option.none) (h2:H1 b'=Option.none) (y:LX H' CL L r' b' Option.none n n l' (fun a=>a=nm\/a=r2\/a=b2)):WX K CL CW H0 H' p L R nm n w Option.none l' r ns/\LX H' CL R r2 b2 Option.none w w r (fun a=>a=nm):=by
 obtain⟨tv,dx,fs,hp,l1,l2,l3,l4,l5,l6,l7,_⟩:=x.ob;obtain⟨dl,fl,hL,_⟩:=lx.ob;obtain⟨UG,uD,hL',_⟩:=y.ob;obtain⟨n1,n2,n3⟩:=x.ne;have kp:Kp H1 H':=Kp.x sx hL';have lz:=(ly.keep s).x (s _ _ hL) n3 sx kp;have s0:=x.same.trans s;exact⟨⟨⟨tv,dx,fs,sx _ _ n1 (s _ _ hp),l1,l2,l3,l4,l5,l6,l7,fun M' e=>by cases e⟩,⟨r',b',r2,b2,y,lz,s0.free h1,s0.free h2,f3,f4⟩,sx _ _ (Eu x.nu hL (by intro z;cases z)) (s _ _ x.nu),sx.same s0 x.fr.2.1,x.fr,x.ne,x.sm⟩,lz⟩
theorem WX.right{K:W.Frag}{CL CW:Addr}{H0 H H':Hp}{p L R nm r1 b1 r2 b2:Addr}{n w:Nat}{M:Option Lat.Mat}{l r r':Lat.Mat × Lat.Mat}{ns:List Int}(x:WX K CL CW H0 H p L R nm n w M l r ns)(lx:LX H CL L r1 b1 Option.none n n l (fun a=>a=nm\/a=r2\/a=b2))(ly:LX H CL R r2 b2 Option.none w w r (fun a=>a=nm))(f1:H0 r1=Option.none)(f2:H0 b1=Option.none)(f3:H0 r2=Option.none)(f4:H0 b2=Option.none)
 (fr:Op r2 b2 H H') (kp:Kp H H') (y:LX H' CL R r2 b2 Option.none w w r' (fun a=>a=nm)):WX K CL CW H0 H' p L R nm n w Option.none l r' ns/\LX H' CL L r1 b1 Option.none n n l (fun a=>a=nm\/a=r2\/a=b2):=by
 obtain⟨tv,dx,fs,hp,l1,l2,l3,l4,l5,l6,l7,_⟩:=x.ob;obtain⟨dl,fl,hL,SD⟩:=lx.ob;obtain⟨as,a1,a2⟩:=lx.rw;obtain⟨bs,b3,b4⟩:=lx.bk;obtain⟨aO,c1,_⟩:=ly.rw;obtain⟨kT,c2,_⟩:=ly.bk;have no:∀a C d f,H a=some (.ins C d f)->H' a=some (.ins C d f):=fun a C d f e=>fr _ _ (Eu e c1.2.1 (by intro z;cases z)) (Eu e c2.2.1 (by intro z;cases z)) e
 have lz:LX H' CL L r1 b1 Option.none n n l (fun a=>a=nm\/a=r2\/a=b2):=⟨⟨dl,fl,no _ _ _ _ hL,SD⟩,⟨as,a1.keep (fun o e=>fr _ _ (fun z=>lx.nr (.inr (.inl z))) (fun z=>lx.nr (.inr (.inr z))) e) fun a ha o e=>fr _ _ (fun z=>(a2 a ha).2.2 (.inr (.inl z))) (fun z=>(a2 a ha).2.2 (.inr (.inr z))) e,a2⟩,
  ⟨bs,b3.keep (fun o e=>fr _ _ (fun z=>lx.nb (.inr (.inl z))) (fun z=>lx.nb (.inr (.inr z))) e) fun a ha o e=>fr _ _ (fun z=>(b4 a ha).2.2 (.inr (.inl z))) (fun z=>(b4 a ha).2.2 (.inr (.inr z))) e,b4⟩,lx.ne,lx.nr,lx.nb,fun a ha=>kp a (lx.nn a ha)⟩
 exact⟨⟨⟨tv,dx,fs,no _ _ _ _ hp,l1,l2,l3,l4,l5,l6,l7,fun M' e=>by cases e⟩,⟨r1,b1,r2,b2,lz,y,f1,f2,f3,f4⟩,fr _ _ (fun z=>ly.nr z.symm) (fun z=>ly.nb z.symm) x.nu,fun a o e=>fr _ _ (Bb e f3) (Bb e f4) (x.same _ _ e),x.fr,x.ne,x.sm⟩,lz⟩
theorem Kh(i:Nat)(M:Lat.Mat):aR (i+1) M=if M i i=0 then aR i M else aR i M++[M i i]:=by
 unfold aR;rw[List.range_succ,qe7,List.filter_append];by_cases h:M i i=0<;>simp[h]
theorem DY(i:Nat)(M:Lat.Mat):(aR i M).length<=i:=by
 unfold aR;refine qa1 (List.length_filter_le _ _) ?_;rw[qa3,List.length_range];exact qa0 _
structure Mf(n w:Nat)(M:Lat.Mat)(l r:Lat.Mat × Lat.Mat)(Nx:Lat.Mat->Lat.Mat × Lat.Mat->Lat.Mat × Lat.Mat->Prop):Prop where
 ex:∃J1,Xx n (w+n) J1/\(∀t,J1 0 t (Lat.beside w M l.1,l.2))/\(∀i t s,J1 i t s->∀j,j<i->t j<w+n)/\∀t1 s1,J1 n t1 s1 →
  ∃J2,Xx w (n+w) J2/\(∀t,J2 0 t (Lat.beside n (fun i j=>s1.1 j i) r.1,r.2))/\(∀i t s,J2 i t s->∀j,j<i->t j<n+w)/\∀t2 s2,J2 w t2 s2 →
    Nx (fun i j=>s2.1 j i) (fun x a=>s1.1 x (w+a),s1.2) (fun x a=>s2.1 x (n+a),s2.2)
section
variable(K:W.Frag)(CL CS CW:Addr)
noncomputable def Jn:Sp:=fun vs H Q _=>∃(v:V) (n w:Nat) (M:Lat.Mat),vs=[v]/\Rep K H v (dT n w M)/\n<=1000/\w<=1000/\(Lat.Straight n w M->∀H',Ao H H'->Q (.bl true) H')/\(¬Lat.Straight n w M->∀H',Ao H H'->Q (.bl false) H')
noncomputable def Wj(K:W.Frag)(CL CS CW:Addr):Sp:=fun vs H Q _=>∃(H0:Hp) (p dx:Addr) (v:V) (n w:Nat) (M:Lat.Mat),vs=[.ref p,v,.int (w:Int)]/\Ao H0 H/\H0 p=none/\H p=some (.ins CW dx [])/\Rep K H0 v (dT n w M)/\n<=60/\w<=60 ∧
 ∀L R nm H',WX K CL CW H0 H' p L R nm n w (some M) (Lat.one,Lat.one) (Lat.one,Lat.one) []->Q .non H'
noncomputable def Wi(K:W.Frag)(CL CS CW:Addr):Sp:=fun vs H Q _=>∃(H0:Hp) (p L R nm:Addr) (n w:Nat) (M:Lat.Mat) (l r:Lat.Mat × Lat.Mat) (ns:List Int) (Nx:Lat.Mat->Lat.Mat × Lat.Mat->Lat.Mat × Lat.Mat->Prop),vs=[.ref p]/\WX K CL CW H0 H p L R nm n w (some M) l r ns/\Mf n w M l r Nx ∧
 ∀L' R' M' l' r' H',Nx M' l' r'->WX K CL CW H0 H' p L' R' nm n w (some M') l' r' ns->Q .non H'
noncomputable def Jz(K:W.Frag)(CL CS CW:Addr):Sp:=fun vs H Q _=>∃(H0:Hp) (p L R nm:Addr) (n w:Nat) (M:Lat.Mat) (l r:Lat.Mat × Lat.Mat) (U:Nat->Lat.Mat->Lat.Mat × Lat.Mat->Lat.Mat × Lat.Mat->Prop),vs=[.ref p]/\WX K CL CW H0 H p L R nm n w (some M) l r []/\Mf n w M l r (fun M' l' r'=>∃m,U m M' l' r') ∧
 (∀m M' l' r',U m M' l' r'->¬Lat.Straight n w M'->Mf n w M' l' r' (fun M2 l2 r2=>∃m',m'<m/\U m' M2 l2 r2)) ∧
 ∀L' R' m M' l' r' H',U m M' l' r'->Lat.Straight n w M'->WX K CL CW H0 H' p L' R' nm n w (some M') l' r' (aR (min n w) M')->Q .non H'
structure V8(n w:Nat)(i j:Nat)(f:Nat->Int)(l r:Lat.Mat × Lat.Mat):Prop where
 p1:0<f i/\(f i).natAbs<L9
 p2:f j≠0/\(f j).natAbs<L9
 bl:BO n n l/\BO n n (Lat.addS i j 1 l)
 br:BO w w r
noncomputable def gI(i j:Nat)(g:Int)(f:Nat->Int):Nat->Int:=Lat.put2 f i j g (f i / g*f j)
noncomputable def iH(i j:Nat)(g b:Int)(f:Nat->Int)(l:Lat.Mat × Lat.Mat):Lat.Mat × Lat.Mat:=Lat.addS j i (-(b*f j / g)) (Lat.addS i j 1 l)
noncomputable def DI(i j:Nat)(g a b:Int)(f:Nat->Int)(r:Lat.Mat × Lat.Mat):Lat.Mat × Lat.Mat:=Lat.blendS i j a b (-(f j / g)) (f i / g) r
noncomputable def Tg(K:W.Frag)(CL CS CW:Addr):Sp:=fun vs H Q _=>∃(H0:Hp) (p L R nm:Addr) (n w m i j:Nat) (l r:Lat.Mat × Lat.Mat) (f:Nat->Int),vs=[.ref p,.int (i:Int),.int (j:Int)]/\WX K CL CW H0 H p L R nm n w none l r (G7 m f)/\i<j/\j<m/\m<=n/\m<=w/\V8 n w i j f l r ∧
 (f i∣f j->Q .non H)/\∀g a b H',Lat.Shares (f i) (f j) g a b->WX K CL CW H0 H' p L R nm n w none (iH i j g b f l) (DI i j g a b f r) (G7 m (gI i j g f))->Q .non H'
noncomputable def Th(K:W.Frag)(CL CS CW:Addr):Sp:=fun vs H Q _=>∃(H0:Hp) (p L R nm:Addr) (n w m:Nat) (l r:Lat.Mat × Lat.Mat) (f:Nat->Int) (V:Nat->(Nat->Int)->Lat.Mat × Lat.Mat->Lat.Mat × Lat.Mat->Prop),vs=[.ref p]/\WX K CL CW H0 H p L R nm n w none l r (G7 m f)/\m<=n/\m<=w/\V 0 f l r ∧
 (∀d i j f l r,V d f l r->d<5*m+m*m->i<j->j<m->V8 n w i j f l r/\(f i∣f j->V (d+1) f l r)/\∀g a b,Lat.Shares (f i) (f j) g a b->V (d+1) (gI i j g f) (iH i j g b f l) (DI i j g a b f r)) ∧
 ∀d f' l' r' H',V d f' l' r'->Lat.ChainTo m m f'->WX K CL CW H0 H' p L R nm n w none l' r' (G7 m f')->Q .non H'
end
structure El(n w:Nat)(A:Lat.Mat)(Fin:Nat->(Nat->Int)->Lat.Mat × Lat.Mat->Lat.Mat × Lat.Mat->Prop):Prop where
 ex:∃(U:Nat->Lat.Mat->Lat.Mat × Lat.Mat->Lat.Mat × Lat.Mat->Prop) (Y:Nat->Nat->(Nat->Int)->Lat.Mat × Lat.Mat->Lat.Mat × Lat.Mat->Prop),Mf n w A (Lat.one,Lat.one) (Lat.one,Lat.one) (fun M l r=>∃m,U m M l r) ∧
  (∀m M l r,U m M l r->¬Lat.Straight n w M->Mf n w M l r (fun M' l' r'=>∃m',m'<m/\U m' M' l' r')) ∧
  (∀m M l r,U m M l r->Lat.Straight n w M->∃k f,aR (min n w) M=G7 k f/\k<=n/\k<=w/\Y k 0 f l r) ∧
  (∀k d i j f l r,Y k d f l r->d<5*k+k*k->i<j->j<k->V8 n w i j f l r/\(f i∣f j->Y k (d+1) f l r)/\∀g a b,Lat.Shares (f i) (f j) g a b->Y k (d+1) (gI i j g f) (iH i j g b f l) (DI i j g a b f r)) ∧
  ∀k d f l r,Y k d f l r->Fin k f l r
structure Zj(K:W.Frag)(H H':Hp)(tp nm r1 D1 D2 b2:Addr)(n w k:Nat)(f:Nat->Int)(l r:Lat.Mat × Lat.Mat):Prop where
 same:Ao H H'
 tup:Du K H' tp [.ref nm,.ref r1,.ref D1,.ref D2,.ref b2]
 num:H' nm=some (.lst (VI k f))
 left:Rep K H' (.ref r1) (dT n n l.1)
 lback:Rep K H' (.ref D1) (dT n n fun i j=>l.2 j i)
 right:Rep K H' (.ref D2) (dT w w fun i j=>r.1 j i)
 rback:Rep K H' (.ref b2) (dT w w r.2)
 new:∀a,a=nm\/a=r1\/a=D1\/a=D2\/a=b2->H a=none/\∃us,H' a=some (.lst us)/\us.length<=60
section
variable(K:W.Frag)
noncomputable def Iv:Sp:=fun vs H Q _=>∃(v:V) (n w:Nat) (A:Lat.Mat) (Fin:Nat->(Nat->Int)->Lat.Mat × Lat.Mat->Lat.Mat × Lat.Mat->Prop),vs=[v,.int (w:Int)]/\Rep K H v (dT n w A)/\n<=40/\w<=60/\El n w A Fin ∧
 ∀(tp nm r1 D1 D2 b2:Addr) (k:Nat) (f:Nat->Int) (l r:Lat.Mat × Lat.Mat) (H':Hp),Fin k f l r->Lat.ChainTo k k f->k<=n->k<=w->Zj K H H' tp nm r1 D1 D2 b2 n w k f l r->Q (.ref tp) H'
end
end Hb
namespace Hb
open Lat
section
variable{C:Nat->Prop}{δ:Nat}
theorem BB.bo{n W β:Nat}{s:Mat × Mat}(h:BB n W C δ β s)(hb:β<=Xv):BO n W s:=⟨(h.mono hb).1,(h.mono hb).2.1⟩
theorem Wb{n W w i:Nat}{G:Nat->Prop}{R0 B0:Mat}{t:Nat->Nat}{π b β:Nat}(H:Gb n W w i G R0 B0 t π b)(hW:W=w+n)(dl:D5 n w R0 B0)(bb:BB n W C δ β (R0,B0))(hb:β+Ed π b i<=Xv)(hπ:π<=8990)(iL:∀j,j<i->G (t j))
 (hG:∀spot (s:Mat × Mat) st,spot<=i->Cr n W w i G R0 B0 t π b spot s.1 s.2->Fc W (s.1 i) st->G st)
 (hd:∀t1 Y R1 B1 R2 B2,EZ n W w i G R0 B0 t1 Y R1 B1->Js n W w i R1 B1 t1 0 R2 B2->∀j,j<=i->(R2 j (t1 j)).natAbs<L9) :
 ∃I,IC n W i t (R0,B0) I/\∀spot st s',spot<=i->I spot s'->Fc W (s'.1 i) st->(spot<i->st<t spot) →
   Zm n W (insT t spot st) i (insS i spot st s')/\G st/\EZ n W w i G R0 B0 (insT t spot st) (b+i+3+2*π+i*(π+1)) (insS i spot st s').1 (insS i spot st s').2 ∧
   Js n W w i (insS i spot st s').1 (insS i spot st s').2 (insT t spot st) 0 (downS (insT t spot st) i (insS i spot st s') (i+1)).1 (downS (insT t spot st) i (insS i spot st s') (i+1)).2 ∧
   BB n W C δ (β+Ed π b i) (downS (insT t spot st) i (insS i spot st s') (i+1)):=by
 have hi:=H.hi
 have FW:∀spot,spot<=i->spot*cM π i<=Ed π b i:=fun spot hs=>by
  unfold Ed;exact qa1 (qb1 _ hs) (qc9 _ _)
 refine⟨fun spot s=>Cr n W w i G R0 B0 t π b spot s.1 s.2/\BB n W C δ (β+spot*cM π i) s,⟨⟨Cr.start H,by rw[Nat.zero_mul];exact bb⟩,?_,?_,?_⟩,?_⟩
 . rintro spot s _ ⟨p,_⟩;obtain⟨c,hc,h0⟩:=(p.good.dual dl).row hi;exact⟨w+c,O9m,h0⟩
 . rintro spot s hs ⟨p,q⟩ hz;refine⟨p.skip hz,q.mono ?_⟩;rw[qd3];omega
 . rintro spot s hs ⟨p,q⟩ hz h0;have CY:=FW (spot+1) hs;rw[qd3,qd1]at CY;have en:β+(spot+1)*cM π i=β+spot*cM π i+cM π i:=by rw[qd3,qd1];omega
   have lA:(s.1 spot (t spot)).natAbs<=2 ^ π:=by rw[p.old spot _ (qa0 _) hs];exact H.hd spot hs
   have lB:=p.pv spot (qa0 _) hs;refine⟨BB.bo q O9m,fun j hj1 hj2=>⟨H.lt j hj2,p.pos j hj2,EG (π:=π) ?_ O9m⟩,⟨h0,EG lB O9m⟩,fun k hk=>?_,fun g a b' sh=>?_⟩
   . rw[p.old j _ hj1 hj2];exact H.hd j hj2
   . obtain⟨m1,m2,m3⟩:=p.meetAdd H hs hz hk q;refine⟨fun d hd=>BB.bo (m3 d O9m) O9m,m1,?_⟩;rw[en];exact m3 _ O9m
   . obtain⟨m1,m2,m3,m4⟩:=p.meetBlend H hs hz (sh.blend (p.pos spot hs) lA lB) q;refine⟨fun d hd=>BB.bo (m3 d O9m) O9m,fun d hd=>BB.bo (m4 d O9m) O9m,m1,?_⟩;rw[en];exact m4 _ O9m
 . rintro spot st s' hs ⟨p,q⟩ hB hex;have pV:=hG spot s' st hs p hB;obtain⟨e1,e2,e3,e4,e5⟩:=dO H p hs hB.1 hB.2.1 hB.2.2 pV iL hex q;refine⟨fun d hd'=>⟨fun j hj1 hj2=>?_,fun m hm=>BB.bo (e5 d hd' m O9m) hb⟩,pV,e1,e2,e4 _ (qa0 _)⟩;obtain⟨dn,_,_⟩:=Rq e1 hi (e3.mono (Nat.add_le_add_left (FW i (qa0 _)) β)) d O9m;have hh:=hd _ _ _ _ _ _ e1 e2 j O9m;rw[e2.hd j (by omega)]at hh;have hx:=dn.hd j O9m;refine⟨e1.lt j O9m,(dn.s0).pos j O9m,?_⟩;rw[hx];exact hh
end
noncomputable abbrev JF(n w:Nat)(M:Mat):Nat->(Nat->Nat)->Mat × Mat->Prop:=fun i t s=>Cs n (w+n) w i (fun c=>c<w+n) M one t s.1 s.2
theorem O7{n w b0 D π b β:Nat}{M:Mat}(hM:∀r c,r<n->c<w+n->(M r c).natAbs<=2 ^ b0)(dets:Jt n (fun c=>c<w+n) M D)(h1:D<=2 ^ π)(h2:n*D<=2 ^ b)(h3:b0<=π)(h4:b0<=b)(hβ:b<β)(pG:n+b0<β)(hbig:∀i,i<n->β+Ed π b i<=Xv)(hπ:π<=8990)(dl:D5 n w M one) :
 Xx n (w+n) (JF n w M):=by
 refine⟨fun i t s hi hJ=>?_⟩;have iD:i*D<=2 ^ b:=qa1 (qb1 _ (qc2 hi)) h2;have H:=z9 hM dets hJ hi h1 iD h3 h4;have bb:BB n (w+n) (fun _=>False) 0 β (s.1,s.2):=Mc hM dets (fun k a=>rfl) hJ (qc2 hi) iD h4 hβ pG
 obtain⟨I,P,e⟩:=Wb H rfl (hJ.good.dual dl) bb (hbig i hi) hπ hJ.pg (fun _ _ _ _ _ hB=>hB.2.2) fun t1 Y R1 B1 R2 B2 I1 D1 j hj=>by
  have:=(hJ.next I1 D1).headD dets (show i+1<=n from hi) (show j<i+1 by omega);exact EG (qa1 this h1) O9m
 refine⟨I,P,fun spot st s' hs hI hB hex=>?_⟩;obtain⟨e1,_,e3,e4,_⟩:=e spot st s' hs hI hB hex;exact⟨e1,hJ.next e3 e4⟩
theorem JF.lt{n w:Nat}{M:Mat}:∀i t s,JF n w M i t s->∀j,j<i->t j<w+n:=fun _ _ _ h j hj=>h.st.lt j hj
noncomputable def JL(n w r:Nat)(M B0:Mat)(kt:Nat->Nat)(hd:Nat->Int)(π b η β:Nat):Nat->(Nat->Nat)->Mat × Mat->Prop:=fun i t s =>
 (i<=r/\Bx n (w+n) w r i (fun c=>c<w) M B0 kt hd t s.1 s.2/\BB n (w+n) (O6 n r kt) (β-(η+1)) (β+Cy π b i) s) ∨
 (r<=i/\Bx n (w+n) w r i (fun c=>c<w+n) M B0 kt hd t s.1 s.2/\Ue n r i kt (η+1+Cy π b r+(i-r)*(η+1)) s.1/\BB n (w+n) (O6 n r kt) (β-(η+1)) (β+Cy π b r+La (η+1+Cy π b r) η r (i-r)) s/\∀j,j<i->(s.1 j (t j)).natAbs<L9)
theorem JL.lt{n w r:Nat}{M B0:Mat}{kt:Nat->Nat}{hd:Nat->Int}{π b η β:Nat}:∀i t s,JL n w r M B0 kt hd π b η β i t s->∀j,j<i->t j<w+n:=fun _ _ _ h j hj=>by
 rcases h with⟨_,h,_⟩|⟨_,h,_⟩<;>exact h.st.st.lt j hj
theorem O0{n w r E π b η β:Nat}{e:Int}{T P PB:Mat}{kt:Nat->Nat}{hd:Nat->Int}(g:Dr n w r E e T)(NJ:0<e)(K:Lf n (w+n) w r kt hd (beside w T P))(dl:D5 n w (beside w T P) PB)(hη:∀j,r<=j->j<n->hd j<=2 ^ η)
 (hβ:η+1<=β) (hbig:β+Ju π b η r n<=Xv) (hE:E<=2 ^ π) (he:e.natAbs<=2 ^ π) (hb:n*E<=2 ^ b) (rJ:π<=b) (hπ:π<=8990) (UB:η<=8990) :
 Xx n (w+n) (JL n w r (beside w T P) PB kt hd π b η β):=by
 have rn:=g.sq.rn;have dets:=Pd (P:=P) g.dets;have HJ:∀{i:Nat}{t:Nat->Nat}{s:Mat × Mat},i<=r->Bx n (w+n) w r i (fun c=>c<w) (beside w T P) PB kt hd t s.1 s.2->∀j,j<i->(s.1 j (t j)).natAbs<L9:=fun hi h j hj=>EG (qa1 (h.st.headD dets hi hj) hE) O9m
 have PF:∀j,r<=j->j<n->(hd j).natAbs<=2 ^ η:=fun j h1 h2=>by
  have p:=K.pos j h1 h2;have q:=hη j h1 h2;have:((hd j).natAbs:Int)<=((2 ^ η:Nat):Int):=by rw[Int.natAbs_of_nonneg (by omega)];exact_mod_cast q
  exact_mod_cast this
 refine⟨fun i t s hi hJ=>?_⟩;by_cases hir:i<r
 . obtain⟨_,h,bb⟩:i<=r/\Bx n (w+n) w r i (fun c=>c<w) (beside w T P) PB kt hd t s.1 s.2/\BB n (w+n) (O6 n r kt) (β-(η+1)) (β+Cy π b i) s:=by
    rcases hJ with hJ|⟨h,_⟩
    . exact hJ
    . omega
   have H:=v5 g (qc9 w n) h hir hE he (qa1 (qb1 _ (qc2 hi)) hb) rJ;have tm:Cy π b (i+1)<=Cy π b r:=j9 π b hir;have qI:Cy π b (i+1)=Cy π b i+Ed π b i:=rfl;have tn:Cy π b r<=Ju π b η r n:=qc9 _ _
   have hG:∀spot (s':Mat × Mat) st,spot<=i->Cr n (w+n) w i (fun c=>c<w) s.1 s.2 t π b spot s'.1 s'.2->Fc (w+n) (s'.1 i) st->st<w:=fun spot s' st hs p hB=>by
    obtain⟨c,hc,h0⟩:=dG NJ g.sq (fun k c _ hc=>beside_lo hc) hir ((h.st.good.mono (qk7 i)).trans p.good) (qa0 _) dl;rcases qe3 c st with z | z
    . exact absurd (hB.1 c z) h0
    . exact qa7 z hc
   obtain⟨I,Pu,ev⟩:=Wb (C:=O6 n r kt) (δ:=β-(η+1)) (β:=β+Cy π b i) H rfl (h.st.good.dual dl) bb O9m hπ h.st.pg hG fun t1 Y R1 B1 R2 B2 I1 D1 j hj=>by
    have:=(h.st.next I1 D1).headD dets (show i+1<=r from hir) (show j<i+1 by omega);exact EG (qa1 this hE) O9m
   refine⟨I,Pu,fun spot st s' hs hI hB hex=>?_⟩;obtain⟨e1,e2,e3,e4,e5⟩:=ev spot st s' hs hI hB hex;exact⟨e1,.inl ⟨hir,h.next hir e2 hs e3 e4,by rw[qI,←qn2];exact e5⟩⟩
 . have cZ:r<=i:=O9m
   obtain⟨h,ab,bb,h9⟩:Bx n (w+n) w r i (fun c=>c<w+n) (beside w T P) PB kt hd t s.1 s.2/\Ue n r i kt (η+1+Cy π b r+(i-r)*(η+1)) s.1/\BB n (w+n) (O6 n r kt) (β-(η+1)) (β+Cy π b r+La (η+1+Cy π b r) η r (i-r)) s/\∀j,j<i->(s.1 j (t j)).natAbs<L9:=by
    rcases hJ with⟨h1,h,bb⟩|⟨_,h⟩
    . have e:i=r:=O9m
      subst e;refine⟨h.wide fun c hc=>O9m,?_,?_,HJ (qa0 _) h⟩
      . rw[qj7,Nat.zero_mul];exact eX bb rn hβ
      . rw[qj7];exact bb
    . exact h
   have rN:r+(i-r)=i:=O9m
   have row:∀c,s.1 i c=beside w T P i c:=fun c=>h.st.good.rest i c (qa0 _);have zero:∀c,c<kt i->s.1 i c=0:=fun c hc=>by rw[row];exact K.zero i c cZ hi hc
   have hd0:0<s.1 i (kt i):=by rw[row,K.head i cZ hi];exact K.pos i cZ hi
   have MW:=K.lt i cZ hi;have bg:Fc (w+n) (s.1 i) (kt i):=⟨zero,O9m,MW⟩
   have em:La (η+1+Cy π b r) η r (i-r+1)=La (η+1+Cy π b r) η r (i-r)+(η+1+Cy π b r+(i-r)*(η+1)+(r+(i-r))+3):=rfl;have uF:La (η+1+Cy π b r) η r (i-r+1)<=La (η+1+Cy π b r) η r (n-r):=aA _ _ _ O9m;have tn:Ju π b η r n=Cy π b r+La (η+1+Cy π b r) η r (n-r):=rfl;rw[rN]at em;refine⟨fun _ s'=>s'=s,⟨rfl,?_,fun _ _ _ hs _=>hs,?_⟩,?_⟩
   . rintro spot _ _ rfl;exact⟨kt i,MW,O9m⟩
   . rintro spot _ hs rfl hz h0;exact absurd (h.skip K cZ hi hs (qa0 _)) h0
   . rintro spot st s' hs e hB hex;have e:=e.symm;subst e;have NW:=hB.one bg;subst NW
     have sU:spot=i:=by
      rcases qe3 spot i with z | z
      . exact absurd (h.skip K cZ hi z (qc2 (hex z))) hB.2.1
      . omega
     subst sU
     have NX:insS spot spot (kt spot) s=s:=by
      have m1:moveS spot spot s=s:=by
       show(moveR s.1 spot spot,moveR s.2 spot spot)=s;rw[K4,K4]
      rw[insS,m1,if_neg (by omega)]
     rw[NX];obtain⟨k1,k2,k3⟩:=h.last K cZ hi (fun c hc=>hc) MW (C:=O6 n r kt) (δ:=β-(η+1)) bb (fun k hk=>ab k spot hk (qa0 _) hi);have hbd:β+Cy π b r+La (η+1+Cy π b r) η r (spot-r)+(η+1+Cy π b r+(spot-r)*(η+1)+spot+3)<=Xv:=O9m
     have st':=k1.st.st
     have hh:∀d,d<=spot+1->∀j,j<=spot->(downS (insT t spot (kt spot)) spot s d).1 j (insT t spot (kt spot) j)=s.1 j (insT t spot (kt spot) j):=fun d hd j hj=>by
      obtain⟨l1,_⟩:=k2 d hd;have:=l1.rows j (insT t spot (kt spot) j);rw[this];split
      . rename_i z
        have tl:insT t spot (kt spot) j<kt spot:=by
         have:=st'.inc j spot z.2 O9m;have e:insT t spot (kt spot) spot=kt spot:=by unfold insT;rw[if_neg (by omega),if_pos rfl]
         omega
        rw[zero _ tl,qc7,Int.add_zero]
      . rfl
     have PJ:∀j,j<=spot->(s.1 j (insT t spot (kt spot) j)).natAbs<L9:=fun j hj=>by
      unfold insT;rcases qe3 j spot with z | z
      . rw[if_pos z];exact h9 j z
      . have:j=spot:=O9m
        subst this;rw[if_neg (by omega),if_pos rfl,row,K.head j cZ hi];exact EG (PF j cZ hi) O9m
     have hpos:∀j,j<=spot->0<s.1 j (insT t spot (kt spot) j):=fun j hj=>by
      have:=st'.pos j O9m;rw[hh (spot+1) (qa0 _) j hj]at this;exact this
     refine⟨fun d hd=>⟨fun j hj1 hj2=>⟨st'.lt j hj2,by rw[hh d (by omega) j (by omega)];exact hpos j O9m,by rw[hh d (by omega) j (by omega)];exact PJ j O9m⟩,fun m hm=>?_⟩,.inr ⟨O9m,k1,?_,?_,fun j hj=>by rw[hh (spot+1) (qa0 _) j (by omega)];exact PJ j O9m⟩⟩
     . rcases qe3 m d with z | z
       . have:=k3 d O9m m z;rw[this];exact BB.bo (k2 d O9m).2 hbd
       . have e:m=d:=O9m
         subst e;exact BB.bo (k2 (m+1) O9m).2 hbd
     . have:=h.above K cZ hi PF ab (k2 (spot+1) (qa0 _)).1;rw[show spot+1-r=(spot-r)+1 by omega,qd3,qd1];have e:η+1+Cy π b r+((spot-r)*(η+1)+(η+1))=η+1+Cy π b r+(spot-r)*(η+1)+η+1:=O9m
       rw[e];exact this
     . rw[show spot+1-r=(spot-r)+1 by omega,em];have:=(k2 (spot+1) (qa0 _)).2;rw[show β+Cy π b r+(La (η+1+Cy π b r) η r (spot-r)+(η+1+Cy π b r+(spot-r)*(η+1)+spot+3))=β+Cy π b r+La (η+1+Cy π b r) η r (spot-r)+(η+1+Cy π b r+(spot-r)*(η+1)+spot+3) by omega];exact this
theorem bO{M:Mat}{k:Nat}(hp:∀x,x<k->0<M x x):∀m,k<=m->(∀x,k<=x->x<m->M x x=0)->aR m M=G7 k fun x=>M x x:=by
 have base:∀j,j<=k->aR j M=G7 j fun x=>M x x:=fun j=>by
  induction j with
  | zero=>intro _;rfl
  | succ j ih =>
    intro hj;have:=hp j O9m;rw[Kh,if_neg (by omega),ih (by omega),My]
 intro m
 induction m with
 | zero=>intro h _;exact base 0 (qa5 _)▸(by rw[show k=0 by omega])
 | succ m ih =>
   intro h hz;by_cases e:k=m+1
   . subst e;exact base _ (qa0 _)
   . rw[Kh,if_pos (hz m (by omega) (by omega)),ih (by omega) fun x h1 h2=>hz x h1 (by omega)]
noncomputable abbrev Pr:Nat:=67000000
noncomputable def BF(n:Nat)(s:Mat × Mat):Prop:=Bits n n Pr s.1/\Bits n n Pr s.2
noncomputable def Gi(n:Nat)(s:Mat × Mat):Prop:=∀a b,a<n->b<n->pT n s.2 s.1 a b=if a=b then 1 else 0
theorem Gi.one(n:Nat):Gi n (Lat.one,Lat.one):=fun a b ha hb=>by
 show Ah (fun k=>Lat.one k a*Lat.one k b) n=_;rw[Bm ha fun k _ hk=>by unfold Lat.one;rw[if_neg hk,qh4]];unfold Lat.one;rw[if_pos rfl,qb8]
theorem Gi.go{n w:Nat}{T:Mat}{l:Mat × Mat}{R B:Mat}(h:Gi n l)(e:∀a b,pT n B R a b=pT n l.2 (beside w T l.1) a b):Gi n (fun x a=>R x (w+a),B):=fun a b ha hb=>by
 have:=e a (w+b);rw[←h a b ha hb];refine Eq.trans this ?_;exact Aj fun k _=>by rw[beside_hi]
theorem gR(i j:Nat):(one i j).natAbs<=1:=by
 unfold one;split<;>decide
theorem Ua{n w W b:Nat}{T P:Mat}(hT:∀i c,i<n->c<w->(T i c).natAbs<=2 ^ b)(hP:∀i c,i<n->c<W->(P i c).natAbs<=2 ^ b):∀i c,i<n->c<w+W->(beside w T P i c).natAbs<=2 ^ b:=fun i c hi hc=>by
 unfold beside;split
 . rename_i h;exact hT i c hi h
 . exact hP i (c-w) hi O9m
theorem Pa{n w W b:Nat}{T P:Mat}(hT:∀i c,i<n->c<w->(T i c).natAbs<2 ^ b)(hP:Bits n W b P):Bits n (w+W) b (beside w T P):=fun i c hi hc=>by
 unfold beside;split
 . rename_i h;exact hT i c hi h
 . exact hP i (c-w) hi O9m
theorem Pb{n w W b:Nat}{R:Mat}(h:Bits n (w+W) b R):Bits n W b fun x a=>R x (w+a):=fun i c hi hc=>h i (w+c) hi O9m
theorem Ep{n W b b':Nat}{R:Mat}(h:Bits n W b R)(hb:b<=b'):Bits n W b' R:=fun i c hi hc=>qa8 (h i c hi hc) (qb9 (by decide) hb)
theorem gX{e:Int}{D π:Nat}(h:e<=D)(hD:D<=2 ^ π)(h0:0<e):e.natAbs.log2<=π/\e.natAbs<=2 ^ π:=by
 have h1:e.natAbs<=2 ^ π:=by
  have:e.natAbs<=D:=O9m
  exact qa1 this hD
 refine⟨?_,h1⟩;have:e.natAbs.log2<π+1:=(Nat.log2_lt O9m).mpr (qa7 h1 (qd6 (by decide) O9m));omega
theorem JL.done{n w r π b η β c:Nat}{M B0:Mat}{kt:Nat->Nat}{hd:Nat->Int}{t:Nat->Nat}{s:Mat × Mat}(rn:r<=n)(h:JL n w r M B0 kt hd π b η β n t s)(hc:Ju π b η r n<=c):(∃G,Bx n (w+n) w r n G M B0 kt hd t s.1 s.2)/\Bits n (w+n) (β+c) s.1/\Bits n n (β+c) s.2:=by
 have e:Ju π b η r n=Cy π b r+La (η+1+Cy π b r) η r (n-r):=rfl;rcases h with⟨h0,h,bb⟩|⟨h0,h,_,bb,_⟩
 . have en:n=r:=O9m
   subst en;have:=bb.mono (show β+Cy π b n<=β+c by omega);exact⟨⟨_,h⟩,this.1,this.2.1⟩
 . have:=bb.mono (show _<=β+c by omega);exact⟨⟨_,h⟩,this.1,this.2.1⟩
end Hb
namespace Lat
open Hb
noncomputable def Ds(f:Nat->Nat):Nat->Nat
 | 0=>0
 | n+1=>Ds f n+f n
theorem G9{f g:Nat->Nat}:∀{n:Nat},(∀k,k<n->f k<=g k)->Ds f n<=Ds g n
 | 0,_=>qa0 _
 | n+1,h=>Nat.add_le_add (G9 fun k hk=>h k O9m) (h n O9m)
theorem Nf(f:Nat->Int):∀n:Nat,(Ah f n).natAbs<=Ds (fun k=>(f k).natAbs) n
 | 0=>qa0 _
 | n+1=>qa1 (qc8 (Ah f n) (f n)) (Nat.add_le_add_right (Nf f n) _)
theorem P8(f:Nat->Nat)(c:Nat):∀n:Nat,Ds (fun k=>f k*c) n=Ds f n*c
 | 0=>by show 0=0*c;omega
 | n+1=>by show Ds _ n+f n*c=(Ds f n+f n)*c;rw[P8 f c n,qd3]
theorem Zu{f g:Nat->Nat}{c:Nat}:∀{n:Nat},c<n->f c=f c->(∀k,k<n->k≠c->f k=g k)->g c=0->Ds f n=f c+Ds g n
 | 0,h,_,_,_=>O9m
 | n+1,h,e,hk,h0=>by
   show Ds f n+f n=f c+(Ds g n+g n)
   by_cases z:c=n
   . subst z;have:Ds f c=Ds g c:=qf6 (G9 fun k hk'=>ql1 (hk k O9m O9m)) (G9 fun k hk'=>ql1 (hk k O9m O9m).symm);omega
   . have:=Zu (n:=n) O9m rfl (fun k hk'=>hk k O9m) h0;have:=hk n O9m O9m;omega
theorem l8{i:Nat}{R B:Mat}{t:Nat->Nat}(P:Le R t 0 i){a m:Nat}(h:∀j,j<i->(Ah (fun k=>B k a*R k (t j)) i).natAbs<=m*(R j (t j)).natAbs):∀j,j<i->(B j a).natAbs<=2 ^ j*m:=by
 intro j
 induction j using Nat.strongRecOn with
 | _ j ih =>
   intro hj;have pj:=P.pos j (qa5 _) hj;have hs:=h j hj;rw[Jw (j:=j+1) (by omega) fun k h1 h2=>by rw[P.zero k _ (qa5 _) h2 (P.inc j k (qa5 _) (by omega) h2)];simp]at hs;have hs':(Ah (fun k=>B k a*R k (t j)) j+B j a*R j (t j)).natAbs<=m*(R j (t j)).natAbs:=hs
   have b:=Us (f:=fun k=>B k a*R k (t j)) (m:=m) (h:=(R j (t j)).natAbs) (j:=j) fun k hk=>by
    rw[qa4];obtain⟨r1,r2⟩:=P.red k j (qa5 _) hk hj;exact qd0 (ih k hk O9m) O9m
   have c:(B j a*R j (t j)).natAbs<=2 ^ j*m*(R j (t j)).natAbs:=O9m
   rw[qa4]at c;exact qm1 c O9m
section
variable{n w r E:Nat}{e:Int}{T P PB R RB:Mat}{kt t:Nat->Nat}{hd:Nat->Int}
theorem BW(g:Dr n w r E e T){x:Nat->Int}{v:Nat->Int}(hx:∀c,c<w->v c=Ah (fun k=>x k*T k c) n)(hv:∀c,c<w->(v c).natAbs<=e.natAbs):Ds (fun k=>(x k).natAbs) r<=2 ^ r*e.natAbs:=by
 have rn:=g.sq.rn;have rw':=g.sq.rw
 let a:Nat->Nat->Nat:=fun c k=>if c<=k/\k<r then(x k).natAbs*(T k k).natAbs else 0
 have step:∀c,c<r->Ds (a c) n=a c c+Ds (a (c+1)) n:=fun c hc=>Zu O9m rfl (fun k hk ne=>by
  show(if c<=k/\k<r then _ else 0)=if c+1<=k/\k<r then _ else 0
  by_cases z:c<=k/\k<r
  . rw[if_pos z,if_pos ⟨by omega,z.2⟩]
  . rw[if_neg z,if_neg (by omega)]) (by show(if c+1<=c/\c<r then _ else 0)=0;rw[if_neg (by omega)])
 have top:∀c,c<r->a c c<=e.natAbs+Ds (a (c+1)) n:=fun c hc=>by
  have h1:=hx c O9m;have h2:=Gk (f:=fun k=>x k*T k c) (g:=fun k=>if k=c then x c*T c c else if c+1<=k/\k<r then x k*T k c else 0) (n:=n+2) (p:=c) (q:=n+1) O9m O9m O9m
  have e1:Ah (fun k=>x k*T k c) n=x c*T c c+Ah (fun k=>if c+1<=k/\k<r then x k*T k c else 0) n:=by
   have:∀m,c<m->m<=n->Ah (fun k=>x k*T k c) m=x c*T c c+Ah (fun k=>if c+1<=k/\k<r then x k*T k c else 0) m:=fun m=>by
    induction m with
    | zero=>intro h;omega
    | succ m ih =>
      intro h hm;show Ah _ m+x m*T m c=x c*T c c+(Ah _ m+if c+1<=m/\m<r then x m*T m c else 0)
      by_cases z:c=m
      . subst z;have z1:Ah (fun k=>x k*T k c) c=0:=Bc fun k hk=>by rw[g.low k c (by omega) (by omega) hk,qc7]
        have z2:Ah (fun k=>if c+1<=k/\k<r then x k*T k c else 0) c=0:=Bc fun k hk=>by rw[if_neg (by omega)]
        rw[z1,z2,if_neg (by omega)];omega
      . rw[ih (by omega) (by omega)];by_cases y:m<r
        . rw[if_pos ⟨by omega,y⟩];omega
        . rw[if_neg (by omega),g.sq.row0 m c (by omega) (by omega) (by omega),qc7];omega
   exact this n O9m (qa0 _)
  have e2:(x c*T c c).natAbs<=e.natAbs+(Ah (fun k=>if c+1<=k/\k<r then x k*T k c else 0) n).natAbs:=by
   have:=hv c O9m;rw[h1,e1]at this;omega
  refine qa1 (ql1 ?_) (qa1 e2 (Nat.add_le_add_left (qa1 (Nf _ n) (G9 fun k hk=>?_)) _))
  . show(if c<=c/\c<r then _ else 0)=_;rw[if_pos ⟨qa0 _,hc⟩,qa4]
  . show(if c+1<=k/\k<r then x k*T k c else 0).natAbs<=if c+1<=k/\k<r then(x k).natAbs*(T k k).natAbs else 0
    by_cases z:c+1<=k/\k<r
    . rw[if_pos z,if_pos z,qa4];obtain⟨r1,r2⟩:=g.red c k O9m z.2;exact qc5 _ O9m
    . rw[if_neg z,if_neg z];exact qa0 _
 have all:∀d,d<=r->Ds (a (r-d)) n+e.natAbs<=2 ^ d*e.natAbs:=fun d=>by
  induction d with
  | zero =>
    intro _
    have:Ds (a (r-0)) n<=Ds (fun _=>0) n:=G9 fun k _=>by
     show(if r-0<=k/\k<r then _ else 0)<=0;rw[if_neg (by omega)];exact qa0 _
    have z:∀m,Ds (fun _=>0) m=0:=fun m=>by induction m with
     | zero=>rfl
     | succ m ih=>show Ds (fun _=>0) m+0=0;omega
    rw[z]at this;rw[qp4];omega
  | succ d ih =>
    intro hd;have i1:=ih O9m;have s:=step (r-(d+1)) O9m;have t:=top (r-(d+1)) O9m;rw[show r-(d+1)+1=r-d by omega]at s t;have p2:2 ^ (d+1)*e.natAbs=2 ^ d*e.natAbs+2 ^ d*e.natAbs:=by rw[qf1];grind
    omega
 have fin:=all r (qa0 _);rw[qj7]at fin
 have qZ:Ds (fun k=>(x k).natAbs) r<=Ds (a 0) r:=G9 fun k hk=>by
  show _<=if 0<=k/\k<r then _ else 0
  rw[if_pos ⟨qa5 _,hk⟩];have:=g.pos k hk;exact qf5 _ O9m
 have oY:∀m,r<=m->Ds (a 0) r<=Ds (a 0) m:=fun m=>by
  induction m with
  | zero=>intro h;rw[show r=0 by omega];exact qa0 _
  | succ m ih =>
    intro h;by_cases z:r=m+1
    . rw[z];exact qa0 _
    . have:=ih O9m;show _<=Ds (a 0) m+a 0 m;omega
 have:=oY n rn;omega
theorem bX(K:Lf n (w+n) w r kt hd (beside w T P))(he:1<=e.natAbs){x:Nat->Int}{v:Nat->Int}(rn:r<=n)(hx:∀c,c<w+n->v c=Ah (fun k=>x k*beside w T P k c) n)(hv:∀j,r<=j->j<n->(v (kt j)).natAbs<=(hd j).natAbs)(h0:Ds (fun k=>(x k).natAbs) r<=2 ^ r*e.natAbs):Ds (fun k=>(x k).natAbs) n<=2 ^ (n+1)*e.natAbs:=by
 have one:∀j,r<=j->j<n->(x j).natAbs<=1+Ds (fun k=>(x k).natAbs) j:=fun j h1 h2=>by
  have p:=K.pos j h1 h2;have e1:=hx (kt j) (K.lt j h1 h2);rw[Jw (j:=j+1) (by omega) fun k h3 h4=>by rw[K.zero k _ (by omega) h4 (K.inc j k h1 (by omega) h4),qc7]]at e1;have e2:v (kt j)=Ah (fun k=>x k*beside w T P k (kt j)) j+x j*hd j:=by rw[←K.head j h1 h2];exact e1
  have e3:(Ah (fun k=>x k*beside w T P k (kt j)) j).natAbs<=Ds (fun k=>(x k).natAbs) j*(hd j).natAbs:=by
   rw[←P8];refine qa1 (Nf _ j) (G9 fun k hk=>?_);obtain⟨r1,r2⟩:=K.red k j h1 hk h2;show(x k*_).natAbs<=_;rw[qa4];exact qc5 _ O9m
  have e4:=hv j h1 h2
  have e5:(x j*hd j).natAbs<=(1+Ds (fun k=>(x k).natAbs) j)*(hd j).natAbs:=by
   rw[qd3,qd1];omega
  rw[qa4]at e5;exact qm1 e5 O9m
 have all:∀d,r+d<=n->Ds (fun k=>(x k).natAbs) (r+d)+1<=2 ^ d*(2 ^ r*e.natAbs+1):=fun d=>by
  induction d with
  | zero=>intro _;rw[qp4];show Ds _ r+1<=_;omega
  | succ d ih =>
    intro hd';have i1:=ih O9m;have o:=one (r+d) O9m O9m;show Ds (fun k=>(x k).natAbs) (r+d)+(x (r+d)).natAbs+1<=_;rw[qf1];have:2 ^ d*2*(2 ^ r*e.natAbs+1)=2 ^ d*(2 ^ r*e.natAbs+1)+2 ^ d*(2 ^ r*e.natAbs+1):=by grind
    omega
 have fin:=all (n-r) O9m;rw[show r+(n-r)=n by omega]at fin
 have p1:2 ^ (n-r)*(2 ^ r*e.natAbs+1)=2 ^ n*e.natAbs+2 ^ (n-r):=by
  rw[Nat.mul_add,Nat.mul_one,←Nat.mul_assoc,←qb7]
  congr 3
  omega
 have p2:2 ^ (n-r)<=2 ^ n*e.natAbs:=qa1 (qb9 (by decide) O9m) (qf5 _ he);have p3:2 ^ (n+1)*e.natAbs=2 ^ n*e.natAbs+2 ^ n*e.natAbs:=by rw[qf1];grind
 omega
theorem Lf.le{M:Mat}{W:Nat}(K:Lf n W w r kt hd M){i j:Nat}(hi:i<n)(h1:r<=j)(h2:j<n):(M i (kt j)).natAbs<=(hd j).natAbs:=by
 have p:=K.pos j h1 h2;rcases qi8 i j with z | z | z
 . obtain⟨a,b⟩:=K.red i j h1 z h2;omega
 . rw[z,K.head j h1 h2];exact qa0 _
 . rw[K.zero i _ (by omega) hi (K.inc j i h1 z hi)];exact qa5 _
theorem S9{π β:Nat}{G:Nat->Prop}(NJ:0<e)(he:e.natAbs<=2 ^ π)(g:Dr n w r E e T)(g':Dr w n r E e (tr R))(K:Lf n (w+n) w r kt hd (beside w T P))(K':Lf n (w+n) w r kt hd R)(s:Good n (w+n) w n (beside w T P) PB R RB)(b1:Bits n n β P) :
 Bits n n (β+(2*n+π+2)) (fun x a=>R x (w+a)):=fun i a hi ha=>by
 obtain⟨x,hx⟩:=(s.eqv n (qa0 _)).1 i hi
 have h0:=BW g (x:=x) (v:=R i) (fun c hc=>by rw[hx c (by omega)];exact Aj fun k _=>by rw[beside_lo hc]) fun c hc=>by
  obtain⟨a,b⟩:=g'.le c i hc hi;show(tr R c i).natAbs<=_;omega
 have h1:=bX K (e:=e) O9m g.sq.rn hx (fun j h1 h2=>K'.le hi h1 h2) h0;show(R i (w+a)).natAbs<_;rw[hx (w+a) (by omega)];refine qa7 (qa1 (Nf _ n) (qa1 (G9 (g:=fun k=>(x k).natAbs*2 ^ β) fun k hk=>?_) ?_)) (m:=2 ^ (n+1)*2 ^ π*2 ^ β) ?_
 . show(x k*_).natAbs<=_;rw[qa4,beside_hi];exact qc5 _ (qc2 (b1 k a hk ha))
 . rw[P8];exact qb1 _ (qa1 h1 (qc5 _ he))
 . rw[←qb7,←qb7];exact qd6 (by decide) O9m
theorem P5{π β:Nat}(NJ:0<e)(he:e.natAbs<=2 ^ π)(g:Dr n w r E e T)(K:Lf n (w+n) w r kt hd (beside w T P))(s:Good n (w+n) w n (beside w T P) PB R RB)(st:Db (w+n) n R t)(tab:∀j,j<r->t j<w)(ker:∀j,r<=j->j<n->t j=kt j/\R j (t j)=hd j)(dl:D5 n w (beside w T P) PB)(b2:Bits n n β PB) :
 Bits n n (β+(2*n+π+2)) RB:=fun i a hi ha=>by
 have ex:∀k,∃y:Nat->Int,k<n->∀c,c<w+n->beside w T P k c=Ah (fun i=>y i*R i c) n:=fun k=>by
  by_cases hk:k<n
  . obtain⟨y,hy⟩:=(s.eqv n (qa0 _)).2 k hk;exact⟨y,fun _=>hy⟩
  . exact⟨fun _=>0,fun z=>absurd z hk⟩
 let y:Nat->Nat->Int:=fun k=>Classical.choose (ex k)
 have hy:∀k,k<n->∀c,c<w+n->beside w T P k c=Ah (fun i=>y k i*R i c) n:=fun k=>Classical.choose_spec (ex k)
 have QF:∀k,k<n->(y k i).natAbs<=2 ^ i*e.natAbs:=fun k hk=>by
  refine l8 (R:=R) (B:=fun i _=>y k i) (t:=t) (a:=0) (i:=n) ⟨fun j l _=>st.inc j l,fun j c _=>st.zero j c,fun j _=>st.pos j,fun l j _=>st.red l j⟩ (fun j hj=>?_) i hi;rw[←hy k hk (t j) (st.lt j hj)];have p:=st.pos j hj;by_cases z:j<r
  . rw[beside_lo (tab j z)];obtain⟨q1,q2⟩:=g.le k (t j) hk (tab j z);exact qa1 (show(T k (t j)).natAbs<=e.natAbs by omega) (qf5 _ O9m)
  . obtain⟨q1,q2⟩:=ker j O9m hj;rw[q2];rw[q1];exact qa1 (K.le hk O9m hj) (qk5 _ O9m)
 have rel:RB i a=Ah (fun k=>y k i*PB k a) n:=by
  have z:∀c,c<w+n->Ah (fun l=>(RB l a-Ah (fun k=>y k l*PB k a) n)*R l c) n=0:=fun c hc=>by
   have e1:Ah (fun l=>RB l a*R l c) n=Ah (fun k=>PB k a*beside w T P k c) n:=s.pt a c
   have e2:Ah (fun k=>PB k a*beside w T P k c) n=Ah (fun l=>Ah (fun k=>y k l*PB k a) n*R l c) n:=by
    have:Ah (fun k=>PB k a*beside w T P k c) n=Ah (fun k=>Ah (fun l=>y k l*PB k a*R l c) n) n:=Aj fun k hk=>by
     rw[hy k hk c hc,←Ay];exact Aj fun l _=>by grind
    rw[this,Cz];exact Aj fun l _=>by rw[Ff]
   have e3:Ah (fun l=>(RB l a-Ah (fun k=>y k l*PB k a) n)*R l c) n=Ah (fun l=>RB l a*R l c+(-1)*(Ah (fun k=>y k l*PB k a) n*R l c)) n:=Aj fun l _=>by grind
   rw[e3,B9,Ay,e1,e2];omega
  have d:=s.dual dl
  have q:Ah (fun c=>Ah (fun l=>(RB l a-Ah (fun k=>y k l*PB k a) n)*R l (w+c)) n*RB i c) n=RB i a-Ah (fun k=>y k i*PB k a) n:=by
   have:Ah (fun c=>Ah (fun l=>(RB l a-Ah (fun k=>y k l*PB k a) n)*R l (w+c)) n*RB i c) n=Ah (fun c=>Ah (fun l=>(RB l a-Ah (fun k=>y k l*PB k a) n)*(R l (w+c)*RB i c)) n) n:=Aj fun c _=>by
    rw[←Ff];exact Aj fun l _=>qe0 ..
   rw[this,Cz]
   rw[Bm hi fun l hl ne=>by
    rw[Ay];have:=d l i hl hi;unfold pD at this;rw[this,if_neg ne,qc7]]
   rw[Ay];have:=d i i hi hi;unfold pD at this;rw[this,if_pos rfl,ql8]
  have q0:Ah (fun c=>Ah (fun l=>(RB l a-Ah (fun k=>y k l*PB k a) n)*R l (w+c)) n*RB i c) n=0:=Bc fun c hc=>by rw[z (w+c) (by omega),qh4]
  omega
 rw[rel]
 have m1:(Ah (fun k=>y k i*PB k a) n).natAbs<=n*(2 ^ i*2 ^ π*2 ^ β):=Mj fun k hk=>by
  rw[qa4];exact qd0 (qa1 (QF k hk) (qc5 _ he)) (qc2 (b2 k a hk ha))
 refine qa7 m1 (qa7 (qb1 _ (qc2 (ql7 (n:=n)))) ?_);rw[←qb7,←qb7,←qb7];exact qd6 (by decide) O9m
theorem Db.same{W n:Nat}{R:Mat}{t:Nat->Nat}(st:Db W n R t){v:Nat->Int}(hv:In W n R v){j:Nat}(hj:j<n)(h0:∀k,k<j->v (t k)=0)(h1:v (t j)=R j (t j))(h2:∀k,j<k->k<n->0<=v (t k)/\v (t k)<R k (t k)):∀c,c<W->v c=R j c:=by
 obtain⟨x,hx⟩:=hv
 have hu:∀c,c<W->v c-R j c=Ah (fun k=>(x k-if k=j then 1 else 0)*R k c) n:=fun c hc=>by
  have e:Ah (fun k=>(x k-if k=j then 1 else 0)*R k c) n=Ah (fun k=>x k*R k c+(-1)*((if k=j then 1 else 0)*R k c)) n:=Aj fun k _=>by grind
  rw[e,B9,Ay,B7,if_pos hj,←hx c hc];omega
 have all:∀k,k<n->(x k-if k=j then 1 else 0)=0:=fun k=>by
  induction k using Nat.strongRecOn with
  | _ k ih =>
    intro hk;have p:=st.pos k hk;have e:=hu (t k) (st.lt k hk)
    rw[Bm hk fun i hi ne=>by
     rcases qe3 i k with z | z
     . rw[ih i z hi,qh4]
     . rw[st.zero i _ hi (st.inc k i (by omega) hi),qc7]]at e
    have small:(v (t k)-R j (t k)).natAbs<(R k (t k)).natAbs:=by
     rcases qi8 k j with z | z | z
     . rw[h0 k z,st.zero j _ hj (st.inc k j z hj)];omega
     . subst z;rw[h1];omega
     . have a:=h2 k z hk;have b:=st.red j k z hk;omega
    rw[e,qa4]at small;refine qe2 fun ne=>?_;have:1*(R k (t k)).natAbs<=(x k-if k=j then 1 else 0).natAbs*(R k (t k)).natAbs:=qb1 _ O9m;omega
 intro c hc;have:=hu c hc;rw[Bc fun k hk=>by rw[all k hk,qh4]]at this;omega
theorem i8(g:Dr n w r E e T)(K:Lf n (w+n) w r kt hd (beside w T P))(s:Good n (w+n) w n (beside w T P) PB R RB)(st:Db (w+n) n R t)(tab:∀j,j<r->t j<w)(ker:∀j,r<=j->j<n->t j=kt j/\R j (t j)=hd j){j:Nat}(h1:r<=j)(h2:j<n):∀c,c<w+n->R j c=beside w T P j c:=fun c hc=>by
 refine(st.same ((s.eqv n (qa0 _)).2 j h2) h2 (fun k hk=>?_) ?_ (fun k hk hn=>?_) c hc).symm
 . by_cases z:k<r
   . rw[beside_lo (tab k z)];exact g.sq.row0 j _ h1 h2 (tab k z)
   . rw[(ker k (by omega) (by omega)).1];exact K.zero j _ h1 h2 (K.inc k j O9m hk h2)
 . obtain⟨a,b⟩:=ker j h1 h2;rw[b,a];exact K.head j h1 h2
 . obtain⟨a,b⟩:=ker k O9m hn;rw[b,a];exact K.red j k O9m hk hn
end
end Lat
namespace Hb
open Lat
section
variable{n w b0 D π b β D2 π2 b2 β2 C1 C2:Nat}{A:Mat}
end
noncomputable def Nd(n:Nat)(f:Nat->Bool):Bool:=(List.range n).all f
theorem E8{n:Nat}{f:Nat->Bool}(h:Nd n f=true):∀i,i<n->f i=true:=fun i hi=>qi4.mp h i (qj2.mpr hi)
end Hb
namespace Lat
open Hb
theorem Qy:∀(k:Nat) (s:Nat->Nat),(∀x y,x<=k->y<=k->s x=s y->x=y)->∃x,x<=k/\k<=s x
 | 0,s,_=>⟨0,qa0 _,qa5 _⟩
 | k+1,s,h=>by
   apply qh5;intro no
   have lt:∀x,x<=k+1->s x<=k:=fun x hx=>by
    rcases qe3 k (s x) with z | z
    . exact absurd ⟨x,hx,z⟩ no
    . exact z
   obtain⟨x,hx,hk⟩:=Qy k (fun x=>if s x=k then s (k+1) else s x) fun x y hx hy e=>by
    by_cases h1:s x=k
    . by_cases h2:s y=k
      . exact h x y O9m O9m (h1.trans h2.symm)
      . rw[if_pos h1,if_neg h2]at e;have:=h (k+1) y (qa0 _) O9m e;omega
    . by_cases h2:s y=k
      . rw[if_neg h1,if_pos h2]at e;have:=h x (k+1) O9m (qa0 _) e;omega
      . rw[if_neg h1,if_neg h2]at e;exact h x y O9m O9m e
   have l1:=lt x O9m;have l2:=lt (k+1) (qa0 _);by_cases h1:s x=k
   . rw[if_pos h1]at hk;have:=h x (k+1) O9m (qa0 _) O9m;omega
   . rw[if_neg h1]at hk;omega
theorem CA{f:Nat->Int}{m:Nat}(ch:∀a b,a<=b->b<m->f a∣f b):∀(k:Nat) (s:Nat->Nat),(∀x y,x<k->y<k->s x=s y->x=y)->(∀x,x<k->s x<m)->prodN f k∣prodN (fun x=>f (s x)) k
 | 0,_,_,_=>Int.dvd_refl _
 | k+1,s,h,hm=>by
   obtain⟨x0,hx,hk⟩:=Qy k s fun x y hx hy e=>h x y O9m O9m e;have hd:f k∣f (s x0):=ch _ _ hk (hm x0 O9m)
   have ih:=CA ch k (fun x=>if x=x0 then s k else s x) (fun x y hx hy e=>by
    by_cases h1:x=x0
    . by_cases h2:y=x0
      . omega
      . rw[if_pos h1,if_neg h2]at e;have:=h k y O9m O9m e;omega
    . by_cases h2:y=x0
      . rw[if_neg h1,if_pos h2]at e;have:=h x k O9m O9m e;omega
      . rw[if_neg h1,if_neg h2]at e;exact h x y O9m O9m e) (fun x hx=>by
    split
    . exact hm k O9m
    . exact hm x O9m)
   show prodN f k*f k∣prodN (fun x=>f (s x)) k*f (s k)
   have e:prodN (fun x=>f (s x)) k*f (s k)=prodN (fun x=>f (if x=x0 then s k else s x)) k*f (s x0):=by
    by_cases z:x0=k
    . subst z
      congr 1
      exact prodN_congr' fun x hx=>by rw[if_neg (by omega)]
    . have:=K0 (f:=fun x=>f (s x)) (f':=fun x=>f (if x=x0 then s k else s x)) (i:=x0) (m:=k) O9m fun x _ hne=>by rw[if_neg hne]
      simp only[if_pos]at this;exact this.symm
   rw[e];exact Int.mul_dvd_mul ih hd
where
 prodN_congr' {f g:Nat->Int}:∀{n:Nat},(∀x,x<n->f x=g x)->prodN f n=prodN g n
  | 0,_=>rfl
  | n+1,h=>by
    show prodN f n*f n=prodN g n*g n;rw[prodN_congr' fun x hx=>h x (by omega),h n (by omega)]
theorem Qv{f g:Nat->Int}:∀{n:Nat},(∀x,x<n->f x=g x)->prodN f n=prodN g n
 | 0,_=>rfl
 | n+1,h=>by
   show prodN f n*f n=prodN g n*g n;rw[Qv fun x hx=>h x (by omega),h n (by omega)]
theorem Wd{d:Int}{g:Nat->Int}:∀{n:Nat},(∀k,k<n->d∣g k)->d∣Ah g n
 | 0,_=>Int.dvd_zero d
 | n+1,h=>Int.dvd_add (Wd fun k hk=>h k O9m) (h n O9m)
noncomputable def N8(U:Mat)(f:Nat->Int)(W:Mat)(m:Nat)(s:Nat->Nat)(j:Nat):Mat:=fun x y=>if x<j then W (s x) y else Ah (fun u=>(U x u*f u)*W u y) m
theorem Zz{m k:Nat}{f:Nat->Int}{U W:Mat}{g:Int}(hg:∀s:Nat->Nat,(∀x y,x<k->y<k->s x=s y->x=y)->(∀x,x<k->s x<m)->g∣prodN (fun x=>f (s x)) k) :
 ∀(d j:Nat),j+d=k->∀s:Nat->Nat,(∀x,x<j->s x<m)->g∣prodN (fun x=>f (s x)) j*det k (N8 U f W m s j)
 | 0,j,e,s,hs=>by
   have e':j=k:=e;subst e';by_cases h:∀x y,x<j->y<j->s x=s y->x=y
   . exact Int.dvd_mul_of_dvd_left (hg s h hs)
   . have:∃x y,x<j/\y<j/\s x=s y/\x≠y:=by
      apply qh5;intro no;exact h fun x y hx hy e=>qh5 fun ne=>no ⟨x,y,hx,hy,e,ne⟩
     obtain⟨x,y,hx,hy,e,ne⟩:=this;rw[C0 hx hy ne fun c _=>by unfold N8;rw[if_pos hx,if_pos hy,e],qc7];exact Int.dvd_zero _
 | d+1,j,e,s,hs=>by
   have hj:j<k:=O9m
   have e1:N8 U f W m s j=Bp (N8 U f W m s j) j fun c=>Ah (fun u=>(U j u*f u)*W u c) m:=by
    funext x y
    unfold Bp;by_cases z:x=j
    . rw[if_pos z];unfold N8;rw[if_neg (by omega),z]
    . rw[if_neg z]
   rw[e1,P3 _ hj,←Ay];refine Wd fun u hu=>?_
   have ih:=Zz (U:=U) (W:=W) hg d (j+1) O9m (fun x=>if x=j then u else s x) fun x hx=>by
    split
    . exact hu
    . exact hs x O9m
   have e2:det k (Bp (N8 U f W m s j) j (W u))=det k (N8 U f W m (fun x=>if x=j then u else s x) (j+1)):=Bu fun x c hx hc=>by
    unfold Bp N8;by_cases z:x=j
    . rw[if_pos z,if_pos (by omega)];show W u c=W (if x=j then u else s x) c;rw[if_pos z]
    . rw[if_neg z];by_cases z2:x<j
      . rw[if_pos z2,if_pos (by omega)];show W (s x) c=W (if x=j then u else s x) c;rw[if_neg z]
      . rw[if_neg z2,if_neg (by omega)]
   have e3:prodN (fun x=>f (if x=j then u else s x)) (j+1)=prodN (fun x=>f (s x)) j*f u:=by
    show prodN (fun x=>f (if x=j then u else s x)) j*f (if j=j then u else s j)=_;rw[if_pos rfl,Qv fun x hx=>by rw[if_neg (show x≠j by omega)]]
   rw[e3]at ih;rw[e2];obtain⟨c,hc⟩:=ih;refine⟨U j u*c,?_⟩
   have:prodN (fun x=>f (s x)) j*(U j u*f u*det k (N8 U f W m (fun x=>if x=j then u else s x) (j+1)))=U j u*(prodN (fun x=>f (s x)) j*f u*det k (N8 U f W m (fun x=>if x=j then u else s x) (j+1))):=by
    simp only[qe0,Int.mul_left_comm,qd4]
   rw[this,hc];simp only[Int.mul_left_comm]
theorem Ug{n:Nat}{P PB P':Mat}(h:∀a b,a<n->b<n->pT n PB P a b=if a=b then 1 else 0)(x:Nat):∀c,c<n->P' x c=Ah (fun u=>Ah (fun a=>P' x a*PB u a) n*P u c) n:=fun c hc=>by
 have e:Ah (fun u=>Ah (fun a=>P' x a*PB u a) n*P u c) n=Ah (fun a=>P' x a*pT n PB P a c) n:=by
  rw[Aj fun u _=>(Ff _ _ _).symm,Cz];refine Aj fun a _=>?_;show _=P' x a*Ah (fun k=>PB k a*P k c) n;rw[←Ay];exact Aj fun k _=>by rw[qe0]
 rw[e,Bm hc fun a ha ne=>by rw[h a c ha hc,if_neg ne,qc7],h c c hc hc,if_pos rfl,ql8]
theorem DiagAt.dvd{n w m m' E E':Nat}{A P PB Q QB P' OC Q' OB:Mat}{f f':Nat->Int}(h:DiagAt n w m E A P PB Q QB f)(hl:∀a b,a<n->b<n->pT n PB P a b=if a=b then 1 else 0)(hr:∀a b,a<w->b<w->pT w QB Q a b=if a=b then 1 else 0)(h':DiagAt n w m' E' A P' OC Q' OB f')
 {k:Nat} (hk:k<=m') {g:Int} (hg:∀s:Nat->Nat,(∀x y,x<k->y<k->s x=s y->x=y)->(∀x,x<k->s x<m)->g∣prodN (fun x=>f (s x)) k):g∣prodN f' k:=by
 have mn:=h.mn;have mw:=h.mw;have tQ:=h'.mn;have tP:=h'.mw;have U:=fun x u=>Ah (fun a=>P' x a*PB u a) n;have key:=Zz (U:=fun x u=>Ah (fun a=>P' x a*PB u a) n) (W:=fun u y=>Ah (fun b=>Q' y b*QB u b) w) hg k 0 O9m (fun _=>0) fun x hx=>O9m
 rw[show prodN (fun x=>f ((fun _=>0) x)) 0=1 from rfl,qb8]at key
 have e:det k (N8 (fun x u=>Ah (fun a=>P' x a*PB u a) n) f (fun u y=>Ah (fun b=>Q' y b*QB u b) w) m (fun _=>0) 0)=prodN f' k:=by
  have e1:det k (N8 (fun x u=>Ah (fun a=>P' x a*PB u a) n) f (fun u y=>Ah (fun b=>Q' y b*QB u b) w) m (fun _=>0) 0)=det k fun x y=>if x=y then f' x else 0:=Bu fun x y hx hy=>by
   rw[←h'.diag x y (by omega) (by omega)];unfold N8;rw[if_neg (by omega)];rw[Go (p':=fun c=>Ah (fun u=>Ah (fun a=>P' x a*PB u a) n*P u c) n) (q':=fun c=>Ah (fun v=>Ah (fun b=>Q' y b*QB v b) w*Q v c) w) (fun a ha=>Ug hl x a ha) (fun b hb=>Ug hr y b hb),Jk]
   have in1:∀u,u<n->Hu n w A (P u) (fun c=>Ah (fun v=>Ah (fun b=>Q' y b*QB v b) w*Q v c) w)=if u<m then f u*Ah (fun b=>Q' y b*QB u b) w else 0:=fun u hu=>by
    rw[Dj,Jk]
    have e2:∀v,v<w->Ah (fun b=>Q' y b*QB v b) w*Hu w n (tr A) (Q v) (P u)=if v=u then f u*Ah (fun b=>Q' y b*QB u b) w else 0:=fun v hv=>by
     rw[←Dj,h.diag u v hu hv];by_cases z:v=u
     . subst z;rw[if_pos rfl,if_pos rfl,qd4]
     . rw[if_neg fun q=>z q.symm,if_neg z,qc7]
    rw[Aj e2];by_cases z:u<w
    . rw[Bm z fun v _ ne=>if_neg ne,if_pos rfl];by_cases z2:u<m
      . rw[if_pos z2]
      . rw[if_neg z2,h.zero u (by omega) hu z,qh4]
    . rw[Bc fun v hv=>if_neg (by omega),if_neg (by omega)]
   have RI:Ah (fun u=>Ah (fun a=>P' x a*PB u a) n*Hu n w A (P u) fun c=>Ah (fun v=>Ah (fun b=>Q' y b*QB v b) w*Q v c) w) n=Ah (fun u=>Ah (fun a=>P' x a*PB u a) n*if u<m then f u*Ah (fun b=>Q' y b*QB u b) w else 0) n:=Aj fun u hu=>by rw[in1 u hu]
   rw[RI];have e3:Ah (fun u=>Ah (fun a=>P' x a*PB u a) n*if u<m then f u*Ah (fun b=>Q' y b*QB u b) w else 0) n=Ah (fun u=>Ah (fun a=>P' x a*PB u a) n*if u<m then f u*Ah (fun b=>Q' y b*QB u b) w else 0) m:=Jw mn fun u hu _=>by rw[if_neg (by omega),qc7]
   rw[e3];exact Aj fun u hu=>by rw[if_pos hu,qe0]
  rw[e1,M7 fun x y hx hy=>if_neg (by omega)];exact Qv fun x _=>if_pos rfl
 rw[e]at key;exact key
end Lat
namespace Hb
open PySem L2
noncomputable def Drawn(h w b0:Nat):Prop:=(h<=7/\w<=8/\b0=4)\/(h<=4/\w<=5/\b0=22)\/(h<=2/\w<=3/\b0=69)
theorem El.mono{n w:Nat}{A:Lat.Mat}{F F':Nat->(Nat->Int)->Lat.Mat × Lat.Mat->Lat.Mat × Lat.Mat->Prop}(h:El n w A F)(k:∀a f l r,F a f l r->F' a f l r):El n w A F':=by
 obtain⟨U,Y,a1,a2,a3,a4,a5⟩:=h.ex;exact⟨U,Y,a1,a2,a3,a4,fun k' d f l r y=>k _ _ _ _ (a5 k' d f l r y)⟩
structure Pe(K:W.Frag)(H:Hp)(tp nm r1 D1 D2 b2:Addr)(n w k:Nat)(f:Nat->Int)(l r:Lat.Mat × Lat.Mat):Prop where
 tup:Du K H tp [.ref nm,.ref r1,.ref D1,.ref D2,.ref b2]
 num:SqL K H nm (VI k f)
 left:Rep K H (.ref r1) (dT n n l.1)
 lback:Rep K H (.ref D1) (dT n n fun i j=>l.2 j i)
 right:Rep K H (.ref D2) (dT w w fun i j=>r.1 j i)
 rback:Rep K H (.ref b2) (dT w w r.2)
theorem Zj.r{K:W.Frag}{H H':Hp}{tp nm r1 D1 D2 b2:Addr}{n w k:Nat}{f:Nat->Int}{l r:Lat.Mat × Lat.Mat}(x:Zj K H H' tp nm r1 D1 D2 b2 n w k f l r):Pe K H' tp nm r1 D1 D2 b2 n w k f l r:=⟨x.tup,.of x.num,x.left,x.lback,x.right,x.rback⟩
theorem Pe.same{K:W.Frag}{H H':Hp}{tp nm r1 D1 D2 b2:Addr}{n w k:Nat}{f:Nat->Int}{l r:Lat.Mat × Lat.Mat}(x:Pe K H tp nm r1 D1 D2 b2 n w k f l r)(s:Ao H H'):Pe K H' tp nm r1 D1 D2 b2 n w k f l r:=⟨s.seqT x.tup,s.seq x.num,Rep.same s x.left,Rep.same s x.lback,Rep.same s x.right,Rep.same s x.rback⟩
section
variable(K:W.Frag)
end
structure g8 where
 T:Nat->Nat->Int
 f:Nat->Nat->Int
 l:Nat->Nat->Int
 lb:Nat->Nat->Int
 r:Nat->Nat->Int
 rb:Nat->Nat->Int
noncomputable def g8.row(S:g8)(t:Tn):g8:={ S with f:=Eb t S.f,l:=Eb t S.l,lb:=Eb (CV t) S.lb }
noncomputable def g8.col(S:g8)(t:Tn):g8:={ S with f:=gE t S.f,r:=Eb t S.r,rb:=Eb (CV t) S.rb }
noncomputable def dot(x y:Nat->Int)(n:Nat):Int:=Ah (fun k=>x k*y k) n
theorem Kr(x y:Nat->Int)(n:Nat):dot (fun k=>-(x k)) y n=-dot x y n:=by
 unfold dot;have:Ah (fun k=>-x k*y k) n=Ah (fun k=>(-1)*(x k*y k)) n:=Aj fun k _=>by grind
 rw[this,Ay];omega
theorem Il(x y:Nat->Int)(n:Nat):dot x y n=dot y x n:=Aj fun k _=>qd4 _ _
theorem Rr(x y:Nat->Int)(n:Nat):dot x (fun k=>-(y k)) n=-dot x y n:=by rw[Il,Kr,Il]
theorem Ks(x y z:Nat->Int)(c:Int)(n:Nat):dot (fun k=>1*x k+c*y k) z n=dot x z n+c*dot y z n:=by
 unfold dot;have:Ah (fun k=>(1*x k+c*y k)*z k) n=Ah (fun k=>x k*z k+c*(y k*z k)) n:=Aj fun k _=>by grind
 rw[this,B9,Ay]
theorem M6(x y z:Nat->Int)(c:Int)(n:Nat):dot z (fun k=>1*x k+c*y k) n=dot z x n+c*dot z y n:=by
 rw[Il,Ks,Il z x,Il z y]
noncomputable def dl(a b:Nat):Int:=if b=a then 1 else 0
theorem P1(a:Nat):dl a a=1:=if_pos rfl
theorem O8{a b:Nat}(h:a≠b):dl a b=0:=if_neg fun z=>h z.symm
theorem Mh(i:Nat)(g:Nat->Nat->Int)(r:Nat):Eb (.mi i) g r=if r=i then(fun k=>-(g i k)) else g r:=by
 funext c
 show(if r=i then -(g i c) else g r c)=_;by_cases z:r=i
 . rw[if_pos z,if_pos z]
 . rw[if_neg z,if_neg z]
theorem Oq(i j:Nat)(g:Nat->Nat->Int)(r:Nat):Eb (.sw i j) g r=g (if r=j then i else if r=i then j else r):=by
 funext c
 show(if r=j then g i c else if r=i then g j c else g r c)=_;by_cases z:r=j
 . rw[if_pos z,if_pos z]
 . rw[if_neg z,if_neg z];by_cases y:r=i
   . rw[if_pos y,if_pos y]
   . rw[if_neg y,if_neg y]
theorem Mi(i j:Nat)(n:Int)(g:Nat->Nat->Int)(r:Nat):Eb (.ad i j n) g r=if r=i then(fun k=>1*g i k+n*g j k) else g r:=by
 funext c
 show(if r=i then 1*g i c+n*g j c else g r c)=_;by_cases z:r=i
 . rw[if_pos z,if_pos z]
 . rw[if_neg z,if_neg z]
theorem Tk{m:Nat}{t:Tn}(ht:K9 m t){g b:Nat->Nat->Int}(h:∀r s,r<m->s<m->dot (g r) (b s) m=dl r s){r s:Nat}(hr:r<m)(hs:s<m):dot (Eb t g r) (Eb (CV t) b s) m=dl r s:=by
 cases t with
 | mi i =>
   show dot (Eb (.mi i) g r) (Eb (.mi i) b s) m=_;rw[Mh,Mh];have hi:i<m:=ht;by_cases h1:r=i
   . by_cases h2:s=i
     . rw[if_pos h1,if_pos h2,Kr,Rr,h i i hi hi,h1,h2];omega
     . rw[if_pos h1,if_neg h2,Kr,h i s hi hs,h1,O8 (Ne.symm h2)];rfl
   . by_cases h2:s=i
     . rw[if_neg h1,if_pos h2,Rr,h r i hr hi,h2,O8 h1];rfl
     . rw[if_neg h1,if_neg h2,h r s hr hs]
 | sw i j =>
   obtain⟨hi,hj,hij⟩:=ht;show dot (Eb (.sw i j) g r) (Eb (.sw i j) b s) m=_;rw[Oq,Oq,h _ _ (by split<;>(try split)<;>omega) (by split<;>(try split)<;>omega)];unfold dl
   (repeat' split)<;>first | rfl | omega
 | ad i j n =>
   obtain⟨hi,hj,hij⟩:=ht;show dot (Eb (.ad i j n) g r) (Eb (.ad j i (-n)) b s) m=_;rw[Mi,Mi];by_cases h1:r=i
   . by_cases h2:s=j
     . rw[if_pos h1,if_pos h2,Ks,M6,M6,h i j hi hj,h i i hi hi,h j j hj hj,h j i hj hi,h1,h2,P1,P1,O8 hij,O8 (Ne.symm hij)]
       grind
     . rw[if_pos h1,if_neg h2,Ks,h i s hi hs,h j s hj hs,h1,O8 (Ne.symm h2)];omega
   . by_cases h2:s=j
     . rw[if_neg h1,if_pos h2,M6,h r j hr hj,h r i hr hi,h2,O8 h1];omega
     . rw[if_neg h1,if_neg h2,h r s hr hs]
theorem Zs(F:Nat->Int){n i j:Nat}(hi:i<n)(hj:j<n)(c d:Int):Ah (fun k=>F k+((if k=i then 1 else 0)*c+(if k=j then 1 else 0)*d)) n=Ah F n+(c+d):=by
 rw[B9,B9,B7 (fun _=>c),B7 (fun _=>d),if_pos hi,if_pos hj]
theorem Tl{m:Nat}{t:Tn}(ht:K9 m t)(g b:Nat->Nat->Int)(x y:Nat):Ah (fun k=>Eb (CV t) b k x*Eb t g k y) m=Ah (fun k=>b k x*g k y) m:=by
 cases t with
 | mi i =>
   refine Aj fun k _=>?_;show Eb (.mi i) b k x*Eb (.mi i) g k y=_;rw[Mh,Mh];by_cases z:k=i
   . rw[if_pos z,if_pos z,z];grind
   . rw[if_neg z,if_neg z]
 | sw i j =>
   obtain⟨hi,hj,hij⟩:=ht
   have:Ah (fun k=>Eb (CV (.sw i j)) b k x*Eb (.sw i j) g k y) m=Ah (fun k=>b k x*g k y+((if k=i then 1 else 0)*(b j x*g j y-b i x*g i y)+(if k=j then 1 else 0)*(b i x*g i y-b j x*g j y))) m:=Aj fun k _=>by
    show Eb (.sw i j) b k x*Eb (.sw i j) g k y=_;rw[Oq,Oq];by_cases h1:k=j
    . by_cases h2:k=i
      . exact absurd (h2.symm.trans h1) hij
      . simp only[if_pos h1,if_neg h2];rw[h1];omega
    . by_cases h2:k=i
      . simp only[if_neg h1,if_pos h2];rw[h2];omega
      . simp only[if_neg h1,if_neg h2];omega
   rw[this,Zs _ hi hj];omega
 | ad i j n =>
   obtain⟨hi,hj,hij⟩:=ht
   have:Ah (fun k=>Eb (CV (.ad i j n)) b k x*Eb (.ad i j n) g k y) m=Ah (fun k=>b k x*g k y+((if k=i then 1 else 0)*(n*(b i x*g j y))+(if k=j then 1 else 0)*(-(n*(b i x*g j y))))) m:=Aj fun k _=>by
    show Eb (.ad j i (-n)) b k x*Eb (.ad i j n) g k y=_;rw[Mi,Mi];by_cases h1:k=j
    . by_cases h2:k=i
      . exact absurd (h2.symm.trans h1) hij
      . simp only[if_pos h1,if_neg h2];rw[h1];grind
    . by_cases h2:k=i
      . simp only[if_neg h1,if_pos h2];rw[h2];grind
      . simp only[if_neg h1,if_neg h2];omega
   rw[this,Zs _ hi hj];omega
theorem W8{Φ:(Nat->Int)->Int}(hneg:∀x,Φ (fun k=>-(x k))=-Φ x)(hadd:∀x y c,Φ (fun k=>1*x k+c*y k)=Φ x+c*Φ y)(t:Tn)(g F:Nat->Nat->Int){c m:Nat}(ht:K9 m t)(h:∀r,r<m->F r c=Φ (g r)){r:Nat}(hr:r<m):Eb t F r c=Φ (Eb t g r):=by
 cases t with
 | mi i =>
   rw[Mh,Mh];by_cases z:r=i
   . rw[if_pos z,if_pos z,hneg,←h i ht]
   . rw[if_neg z,if_neg z];exact h r hr
 | sw i j =>
   obtain⟨hi,hj,hij⟩:=ht;rw[Oq,Oq];exact h _ (by split<;>(try split)<;>omega)
 | ad i j n =>
   obtain⟨hi,hj,hij⟩:=ht;rw[Mi,Mi];by_cases z:r=i
   . rw[if_pos z,if_pos z,hadd,←h i hi,←h j hj];show 1*F i c+n*F j c=_;omega
   . rw[if_neg z,if_neg z];exact h r hr
structure Good(h w:Nat)(S:g8):Prop where
 l1:∀r s,r<h->s<h->dot (S.l r) (S.lb s) h=dl r s
 l2:∀a b,a<h->b<h->Ah (fun k=>S.lb k a*S.l k b) h=dl a b
 r1:∀r s,r<w->s<w->dot (S.r r) (S.rb s) w=dl r s
 r2:∀a b,a<w->b<w->Ah (fun k=>S.rb k a*S.r k b) w=dl a b
 now:∀i j,i<h->j<w->S.f i j=dot (fun b=>dot (S.l i) (fun a=>S.T a b) h) (S.r j) w
theorem Good.row{h w:Nat}{S:g8}{t:Tn}(x:Good h w S)(ht:K9 h t):Good h w (S.row t):=by
 refine⟨fun r s hr hs=>Tk ht x.l1 hr hs,fun a b ha hb=>(Tl ht S.l S.lb a b).trans (x.l2 a b ha hb),x.r1,x.r2,fun i j hi hj=>?_⟩;refine W8 (Φ:=fun v=>dot (fun b=>dot v (fun a=>S.T a b) h) (S.r j) w) (fun v=>?_) (fun v u c=>?_) t S.l S.f ht (fun r hr=>x.now r j hr hj) hi
 . have:(fun b=>dot (fun k=>-(v k)) (fun a=>S.T a b) h)=fun b=>-(dot v (fun a=>S.T a b) h):=by funext b;exact Kr _ _ _
   rw[this,Kr]
 . have:(fun b=>dot (fun k=>1*v k+c*u k) (fun a=>S.T a b) h)=fun b=>1*dot v (fun a=>S.T a b) h+c*dot u (fun a=>S.T a b) h:=by funext b;rw[Ks];omega
   rw[this,Ks]
theorem Good.col{h w:Nat}{S:g8}{t:Tn}(x:Good h w S)(ht:K9 w t):Good h w (S.col t):=by
 refine⟨x.l1,x.l2,fun r s hr hs=>Tk ht x.r1 hr hs,fun a b ha hb=>(Tl ht S.r S.rb a b).trans (x.r2 a b ha hb),fun i j hi hj=>?_⟩;exact W8 (Φ:=fun v=>dot (fun b=>dot (S.l i) (fun a=>S.T a b) h) v w) (fun v=>Rr _ _ _) (fun v u c=>M6 _ _ _ _ _) t S.r (fun a b=>S.f b a) ht (fun r hr=>x.now i r hi hr) hj
noncomputable def unit:Nat->Nat->Int:=fun i j=>if j=i then 1 else 0
noncomputable def g8.first(f:Nat->Nat->Int):g8:=⟨f,f,unit,unit,unit,unit⟩
theorem Oj(y:Nat->Int){i n:Nat}(h:i<n):dot (unit i) y n=y i:=by
 unfold dot unit;rw[B7 y i n,if_pos h]
theorem Good.first(h w:Nat)(f:Nat->Nat->Int):Good h w (g8.first f):=by
 have sq:∀m a b,a<m->b<m->dot (unit a) (unit b) m=dl a b:=fun m a b ha hb=>by
  rw[Oj _ ha];unfold unit dl;by_cases z:a=b
  . rw[if_pos z,if_pos z.symm]
  . rw[if_neg z,if_neg (Ne.symm z)]
 have oN:∀m a b,a<m->b<m->Ah (fun k=>unit k a*unit k b) m=dl a b:=fun m a b ha hb=>by
  have:Ah (fun k=>unit k a*unit k b) m=Ah (fun k=>(if k=a then 1 else 0)*unit k b) m:=Aj fun k _=>by
   unfold unit;by_cases z:a=k
   . rw[if_pos z,if_pos z.symm]
   . rw[if_neg z,if_neg (Ne.symm z)]
  rw[this,B7 (fun k=>unit k b) a m,if_pos ha];rfl
 refine⟨sq h,oN h,sq w,oN w,fun i j hi hj=>?_⟩;show f i j=dot (fun b=>dot (unit i) (fun a=>f a b) h) (unit j) w;have:(fun b=>dot (unit i) (fun a=>f a b) h)=fun b=>f i b:=by funext b;exact Oj _ hi
 rw[this,Il,Oj _ hj]
theorem bT.turn3{B:Nat}{f:Nat->Nat->Int}{t:Tn}(h:bT B f)(ht:tB 3 t):bT (B+4) (Eb t f):=by
 intro r c;cases t with
 | mi i=>rw[Mh];split<;>first | exact Fv (IB (h _ _)) O9m | exact Fv (h _ _) O9m
 | sw i j=>rw[Oq];exact Fv (h _ _) O9m
 | ad i j n =>
   rw[Mi];split
   . have h1:(1*f i c).natAbs<2 ^ (B+3):=by rw[qb8];exact Fv (h _ _) O9m
     have h2:(n*f j c).natAbs<2 ^ (3+B):=Zf ht (h _ _);rw[qp5]at h2;exact cQ h1 h2
   . exact Fv (h _ _) O9m
theorem bT.cols3{B:Nat}{f:Nat->Nat->Int}{t:Tn}(h:bT B f)(ht:tB 3 t):bT (B+4) (gE t f):=fun r c=>bT.turn3 (f:=fun a b=>f b a) (fun a b=>h b a) ht c r
end Hb
namespace Lat
open Hb
theorem P7(g:Nat->Int):∀n,Ah g (n+1)=g 0+Ah (fun j=>g (j+1)) n
 | 0=>by show Ah g 0+g 0=_;show 0+g 0=g 0+0;omega
 | n+1=>by
   show Ah g (n+1)+g (n+1)=g 0+(Ah (fun j=>g (j+1)) n+g (n+1))
   rw[P7 g n,Int.add_assoc]
noncomputable def U8(A:Mat)(j:Nat):Mat:=fun r c=>A (r+1) (if c<j then c else c+1)
theorem c7:∀(n:Nat) (A:Mat),det (n+1) A=Ah (fun j=>Mp j*A 0 j*det n (U8 A j)) (n+1)
 | 0,A=>rfl
 | n+1,A=>by
   have e:∀i j,i<n+1->j<n+1->det n (U8 (D8 A (i+1)) j)=det n (D8 (U8 A (j+1)) i):=fun i j _ _=>Bu fun r c _ _=>by
    show A (if r+1<i+1 then r+1 else r+1+1) ((if c<j then c else c+1)+1)=A ((if r<i then r else r+1)+1) (if c+1<j+1 then c+1 else c+1+1)
    congr 1
    . split<;>split<;>omega
    . split<;>split<;>omega
   show Ah (fun i=>Mp i*A i 0*det (n+1) (D8 A i)) (n+1+1)=_;rw[P7,P7 (fun j=>Mp j*A 0 j*det (n+1) (U8 A j))];have e0:det (n+1) (D8 A 0)=det (n+1) (U8 A 0):=rfl;rw[e0]
   congr 1
   have l:Ah (fun i=>Mp (i+1)*A (i+1) 0*det (n+1) (D8 A (i+1))) (n+1)=Ah (fun i=>Ah (fun j=>Mp (i+1)*A (i+1) 0*(Mp j*A 0 (j+1)*det n (U8 (D8 A (i+1)) j))) (n+1)) (n+1):=Aj fun i _=>by
    rw[c7 n,Ay];rfl
   have r:Ah (fun j=>Mp (j+1)*A 0 (j+1)*det (n+1) (U8 A (j+1))) (n+1)=Ah (fun j=>Ah (fun i=>Mp (j+1)*A 0 (j+1)*(Mp i*A (i+1) 0*det n (D8 (U8 A (j+1)) i))) (n+1)) (n+1):=Aj fun j _=>by
    rw[Ay];rfl
   rw[l,r,Cz];refine Aj fun j hj=>Aj fun i hi=>?_;rw[e i j hi hj,Qk,Qk]
   grind
theorem Kt:∀(n:Nat) (A:Mat),det n (fun r c=>A c r)=det n A
 | 0,_=>rfl
 | n+1,A=>by
   rw[c7 n A];refine Aj fun i hi=>?_;rw[←Kt n (U8 A i)];rfl
noncomputable def Mins(n w:Nat)(A:Mat)(D:Nat):Prop:=∀(k:Nat) (r c:Nat->Nat),(∀x,x<k->r x<n)->(∀y,y<k->c y<w)->(det k fun x y=>A (r x) (c y)).natAbs<=D
theorem Mins.flip{n w D:Nat}{A:Mat}(h:Mins n w A D):Mins w n (tr A) D:=fun k r c hr hc=>by
 have:=h k c r hc hr;rw[←Kt]at this;exact this
theorem Rh(k:Nat)(r:Nat->Nat):(∃x y,x<k/\y<k/\x≠y/\r x=r y)\/∀x y,x<k->y<k->r x=r y->x=y:=by
 by_cases h:∃x y,x<k/\y<k/\x≠y/\r x=r y
 . exact .inl h
 . exact .inr fun x y hx hy e=>qh5 fun z=>h ⟨x,y,hx,hy,z,e⟩
theorem Mins.turn{n w D:Nat}{A:Mat}{t:Tn}(h:Mins n w A D)(ht:K9 n t)(h3:tB 2 t):Mins n w (Eb t A) (4*D):=fun k r c hr hc=>by
 have hD:=h k r c hr hc;rcases Rh k r with⟨x,y,hx,hy,ne,e⟩ | inj
 . rw[C0 hx hy ne fun z _=>by rw[e]];exact qa5 _
 cases t with
 | sw i j =>
   have:=h k (fun x=>if r x=j then i else if r x=i then j else r x) c (fun x hx=>by
    have:=hr x hx;have:=ht.1;have:=ht.2.1;show(if r x=j then i else if r x=i then j else r x)<n;split
    . omega
    . split<;>omega) hc
   rw[show(fun x y=>Eb (.sw i j) A (r x) (c y))=fun x y=>A (if r x=j then i else if r x=i then j else r x) (c y) from funext fun x=>by rw[Oq]];omega
 | mi i =>
   by_cases z:∃x0,x0<k/\r x0=i
   . obtain⟨x0,h0,e0⟩:=z
     have e:det k (fun x y=>Eb (.mi i) A (r x) (c y))=det k (Bp (fun x y=>A (r x) (c y)) x0 fun y=>- A (r x0) (c y)):=Bu fun x y hx hy=>by
      rw[Mh];by_cases q:x=x0
      . rw[q,Bd,if_pos e0,e0]
      . rw[Bl q,if_neg fun w=>q (inj x x0 hx h0 (w.trans e0.symm))]
     rw[e,c8 (fun x y=>A (r x) (c y)) h0,qb3];omega
   . have e:det k (fun x y=>Eb (.mi i) A (r x) (c y))=det k (fun x y=>A (r x) (c y)):=Bu fun x y hx hy=>by
      rw[Mh,if_neg fun w=>z ⟨x,hx,w⟩]
     rw[e];omega
 | ad i j m =>
   by_cases z:∃x0,x0<k/\r x0=i
   . obtain⟨x0,h0,e0⟩:=z
     have e:det k (fun x y=>Eb (.ad i j m) A (r x) (c y))=det k (Bp (fun x y=>A (r x) (c y)) x0 fun y=>1*A (r x0) (c y)+m*A j (c y)):=Bu fun x y hx hy=>by
      rw[Mi];by_cases q:x=x0
      . rw[q,Bd,if_pos e0,e0]
      . rw[Bl q,if_neg fun w=>q (inj x x0 hx h0 (w.trans e0.symm))]
     have e1:det k (Bp (fun x y=>A (r x) (c y)) x0 fun y=>A (r x0) (c y))=det k fun x y=>A (r x) (c y):=by
      rw[show(Bp (fun x y=>A (r x) (c y)) x0 fun y=>A (r x0) (c y))=fun x y=>A (r x) (c y) from Em (fun x y=>A (r x) (c y)) x0]
     have e2:det k (Bp (fun x y=>A (r x) (c y)) x0 fun y=>A j (c y))=det k fun x y=>A (if x=x0 then j else r x) (c y):=Bu fun x y _ _=>by
      by_cases q:x=x0
      . rw[q,Bd,if_pos rfl]
      . rw[Bl q,if_neg q]
     have h2:=h k (fun x=>if x=x0 then j else r x) c (fun x hx=>by
      have:=hr x hx;have:=ht.2.1;show(if x=x0 then j else r x)<n;split<;>omega) hc
     rw[e,Dc (fun x y=>A (r x) (c y)) (fun y=>A (r x0) (c y)) (fun y=>A j (c y)) 1 m h0,e1,e2];have m2:m.natAbs<=3:=Nat.le_of_lt_succ h3;have a:=qc8 (1*det k fun x y=>A (r x) (c y)) (m*det k fun x y=>A (if x=x0 then j else r x) (c y));rw[qa4,qa4]at a;have b:m.natAbs*(det k fun x y=>A (if x=x0 then j else r x) (c y)).natAbs<=3*D:=qd0 m2 h2;have c1:(1:Int).natAbs*(det k fun x y=>A (r x) (c y)).natAbs=(det k fun x y=>A (r x) (c y)).natAbs:=qd1 _;omega
   . have e:det k (fun x y=>Eb (.ad i j m) A (r x) (c y))=det k (fun x y=>A (r x) (c y)):=Bu fun x y hx hy=>by
      rw[Mi,if_neg fun w=>z ⟨x,hx,w⟩]
     rw[e];omega
theorem Mins.cols{n w D:Nat}{A:Mat}{t:Tn}(h:Mins n w A D)(ht:K9 w t)(h3:tB 2 t):Mins n w (gE t A) (4*D):=(h.flip.turn ht h3).flip
noncomputable def lay(k:Nat)(d:Nat->Int):Mat:=fun i j=>if i=j/\i<k then d i else 0
theorem BY{m B:Nat}{d:Nat->Int}(hd:∀i,i<m->(d i).natAbs<=B):∀(k:Nat) (r c:Nat->Nat),(∀x y,x<k->y<k->r x=r y->x=y)->(det k fun x y=>lay m d (r x) (c y)).natAbs<=B ^ k
 | 0,_,_,_=>by show(1:Int).natAbs<=1;decide
 | k+1,r,c,inj=>by
   show(Ah (fun i=>Mp i*lay m d (r i) (c 0)*det k (D8 (fun x y=>lay m d (r x) (c y)) i)) (k+1)).natAbs<=_
   have ih:∀i,i<k+1->(det k (D8 (fun x y=>lay m d (r x) (c y)) i)).natAbs<=B ^ k:=fun i hi=>BY hd k (fun x=>r (if x<i then x else x+1)) (fun y=>c (y+1)) fun x y hx hy e=>by
    have:=inj _ _ (by split<;>omega) (by split<;>omega) e;split at this<;>split at this<;>omega
   by_cases z:∃i,i<k+1/\r i=c 0/\r i<m
   . obtain⟨i,hi,e,hm⟩:=z
     rw[Bm hi fun x hx ne=>by
      rw[show lay m d (r x) (c 0)=0 from if_neg fun q=>ne (inj x i hx hi (q.1.trans e.symm))];simp]
     rw[qa4,qa4,Mo,qd1,show lay m d (r i) (c 0)=d (r i) from if_pos ⟨e,hm⟩,qf1,qn7 (B ^ k)];exact qd0 (hd _ hm) (ih i hi)
   . rw[Bc fun x hx=>by
      rw[show lay m d (r x) (c 0)=0 from if_neg fun q=>z ⟨x,hx,q.1,q.2⟩];simp]
     exact qa5 _
theorem bY{n w m B:Nat}{d:Nat->Int}(hd:∀i,i<m->(d i).natAbs<=B)(h1:1<=B)(hm:m<=3):Mins n w (lay m d) (B ^ 3):=fun k r c hr hc=>by
 rcases Rh k r with⟨x,y,hx,hy,ne,e⟩ | inj
 . rw[C0 hx hy ne fun z _=>by rw[e]];exact qa5 _
 by_cases z:∃x,x<k/\m<=r x
 . obtain⟨x,hx,q⟩:=z;rw[Jj hx fun y _=>if_neg fun w=>by omega];exact qa5 _
 have hk:k<=m:=qe9 fun q=>by
  obtain⟨x,h1,h2⟩:=Qy m r fun x y hx hy e=>inj x y O9m O9m e;exact z ⟨x,O9m,h2⟩
 exact qa1 (BY hd k r c inj) (qb9 h1 O9m)
theorem CF{k:Nat}(M:Mat)(s:Nat->Nat){y0:Nat}(h0:y0<k):(det k fun x y=>M x (s (if y=0 then y0 else if y=y0 then 0 else y))).natAbs=(det k fun x y=>M x (s y)).natAbs:=by
 by_cases z:y0=0
 . subst z
   congr 1
   exact Bu fun x y _ _=>by
    by_cases q:y=0
    . rw[if_pos q,q]
    . rw[if_neg q,if_neg q]
 rw[←Kt k fun x y=>M x (s y),←Kt k fun x y=>M x (s (if y=0 then y0 else if y=y0 then 0 else y))];have e:=Xf (A:=fun y x=>M x (s y)) (show 0<k by omega) h0 (fun q=>z q.symm) (fun x=>M x (s 0)) (fun x=>M x (s y0))
 have e1:Bp (Bp (fun y x=>M x (s y)) 0 fun x=>M x (s 0)) y0 (fun x=>M x (s y0))=fun y x=>M x (s y):=by
  rw[show Bp (fun y x=>M x (s y)) 0 (fun x=>M x (s 0))=fun y x=>M x (s y) from Em (fun y x=>M x (s y)) 0];exact Em (fun y x=>M x (s y)) y0
 have e2:Bp (Bp (fun y x=>M x (s y)) 0 fun x=>M x (s y0)) y0 (fun x=>M x (s 0))=fun y x=>M x (s (if y=0 then y0 else if y=y0 then 0 else y)):=by
  funext y x
  unfold Bp;by_cases q:y=y0
  . rw[if_pos q,if_neg (by omega),if_pos q]
  . rw[if_neg q];by_cases q2:y=0
    . rw[if_pos q2,if_pos q2]
    . rw[if_neg q2,if_neg q2,if_neg q]
 rw[e1,e2]at e;show(det k fun y x=>M x (s (if y=0 then y0 else if y=y0 then 0 else y))).natAbs=(det k fun y x=>M x (s y)).natAbs;rw[e,qb3]
theorem Pc{n w D:Nat}{A:Mat}(h:Mins n w A D):∀(k:Nat) (r s:Nat->Nat),(∀x,x<k->r x<n)->(∀y,y<k->s y<w+n)->(det k fun x y=>beside w A one (r x) (s y)).natAbs<=D
 | 0,r,s,hr,hs=>h 0 r s hr fun y hy=>O9m
 | k+1,r,s,hr,hs=>by
   rcases Rh (k+1) r with⟨x,y,hx,hy,ne,e⟩ | inj
   . rw[C0 hx hy ne fun z _=>by rw[e]];exact qa5 _
   by_cases z:∃y,y<k+1/\w<=s y
   . obtain⟨y0,hy,q⟩:=z;rw[←CF (fun x y=>beside w A one (r x) y) s hy]
     have first:∀s':Nat->Nat,w<=s' 0->(∀y,y<k+1->s' y<w+n)->(det (k+1) fun x y=>beside w A one (r x) (s' y)).natAbs<=D:=fun s' h0 hs'=>by
      show(Ah (fun i=>Mp i*beside w A one (r i) (s' 0)*det k (D8 (fun x y=>beside w A one (r x) (s' y)) i)) (k+1)).natAbs<=D;have ih:∀i,i<k+1->(det k (D8 (fun x y=>beside w A one (r x) (s' y)) i)).natAbs<=D:=fun i hi=>Pc h k (fun x=>r (if x<i then x else x+1)) (fun y=>s' (y+1)) (fun x hx=>hr _ (by split<;>omega)) fun y hy=>hs' _ O9m
      have cell:∀x,beside w A one (r x) (s' 0)=if r x=s' 0-w then 1 else 0:=fun x=>by
       unfold beside one;rw[if_neg (by omega)]
      by_cases z:∃i,i<k+1/\r i=s' 0-w
      . obtain⟨i,hi,e⟩:=z
        rw[Bm hi fun x hx ne=>by
         rw[cell,if_neg fun q=>ne (inj x i hx hi (q.trans e.symm))];simp]
        rw[qa4,qa4,Mo,qd1,cell,if_pos e];show 1*_<=D;rw[qd1];exact ih i hi
      . rw[Bc fun x hx=>by
         rw[cell,if_neg fun q=>z ⟨x,hx,q⟩];simp]
        exact qa5 _
     exact first (fun y=>s (if y=0 then y0 else if y=y0 then 0 else y)) q fun y hy'=>hs _ (by split;omega;split<;>omega)
   . have e:det (k+1) (fun x y=>beside w A one (r x) (s y))=det (k+1) fun x y=>A (r x) (s y):=Bu fun x y _ hy=>beside_lo (qg8 fun q=>z ⟨y,hy,q⟩);rw[e];exact h (k+1) r s hr fun y hy=>qg8 fun q=>z ⟨y,hy,q⟩
theorem Mins.dets{n w D:Nat}{A:Mat}(h:Mins n w A D):Jt n (fun c=>c<w+n) (beside w A one) D:=fun i hi s hs=>Pc h i (fun x=>x) s (fun x hx=>O9m) hs
theorem eO{n w m:Nat}{d:Nat->Int}{S:g8}(g:Hb.Good n w S)(hT:S.T=lay m d)(mn:m<=n)(mw:m<=w)(pos:∀x,x<m->0<d x) :
 DiagAt n w m (prodN (fun x=>if x<m then d x else 0) m).toNat S.f (fun x a=>S.lb a x) (fun x a=>S.l a x) (fun y b=>S.rb b y) (fun y b=>S.r b y) (fun x=>if x<m then d x else 0)/\Gi n ((fun x a=>S.lb a x),fun x a=>S.l a x)/\Gi w ((fun y b=>S.rb b y),fun y b=>S.r b y):=by
 have i1:∀a b:Nat,dl a b=if a=b then(1:Int) else 0:=fun a b=>by
  unfold dl;by_cases z:a=b
  . rw[if_pos z,if_pos z.symm]
  . rw[if_neg z,if_neg fun q=>z q.symm]
 refine⟨⟨mn,mw,fun x y hx hy=>?_,fun x hx=>by rw[if_pos hx];exact pos x hx,fun x h1 _ _=>if_neg O9m,O9m,fun i j hi hj=>?_,fun i j hi hj=>?_⟩,fun a b ha hb=>?_,fun a b ha hb=>?_⟩
 . have e:∀a b,a<n->b<w->S.f a b=Ah (fun j=>Ah (fun i=>S.l a i*S.T i j) n*S.r b j) w:=fun a b ha hb=>g.now a b ha hb
   have e1:∀a,a<n->Ah (fun b=>S.f a b*S.rb b y) w=Ah (fun i=>S.l a i*S.T i y) n:=fun a ha=>by
    have:Ah (fun b=>S.f a b*S.rb b y) w=Ah (fun b=>Ah (fun j=>Ah (fun i=>S.l a i*S.T i j) n*(S.rb b y*S.r b j)) w) w:=Aj fun b hb=>by
     rw[e a b ha hb,←Ff];exact Aj fun j _=>by grind
    rw[this,Cz];have:∀j,j<w->Ah (fun b=>Ah (fun i=>S.l a i*S.T i j) n*(S.rb b y*S.r b j)) w=Ah (fun i=>S.l a i*S.T i j) n*dl y j:=fun j hj=>by rw[Ay,g.r2 y j hy hj]
    rw[Aj this,Bm hy fun j hj ne=>by rw[O8 fun q=>ne q.symm,qc7],P1,ql8]
   have e2:Hu n w S.f (fun a=>S.lb a x) (fun b=>S.rb b y)=Ah (fun a=>S.lb a x*Ah (fun i=>S.l a i*S.T i y) n) n:=Aj fun a ha=>by rw[e1 a ha]
   have e3:Ah (fun a=>S.lb a x*Ah (fun i=>S.l a i*S.T i y) n) n=Ah (fun a=>Ah (fun i=>S.lb a x*S.l a i*S.T i y) n) n:=Aj fun a _=>by
    rw[←Ay];exact Aj fun i _=>by grind
   have e4:∀i,i<n->Ah (fun a=>S.lb a x*S.l a i*S.T i y) n=dl x i*S.T i y:=fun i hi=>by rw[Ff,g.l2 x i hx hi]
   show Hu n w S.f (fun a=>S.lb a x) (fun b=>S.rb b y)=_;rw[e2,e3,Cz,Aj e4,Bm hx fun i hi ne=>by rw[O8 fun q=>ne q.symm,qh4],P1,qb8,hT];show(if x=y/\x<m then d x else 0)=if x=y then(if x<m then d x else 0) else 0
   by_cases z:x=y
   . by_cases q:x<m
     . rw[if_pos ⟨z,q⟩,if_pos z,if_pos q]
     . rw[if_neg fun k=>q k.2,if_pos z,if_neg q]
   . rw[if_neg fun k=>z k.1,if_neg z]
 . show Ah (fun c=>S.lb (0+c) i*S.l c j) n=_;rw[←i1,←g.l2 i j hi hj];exact Aj fun c _=>by rw[qn6]
 . show Ah (fun c=>S.rb (0+c) i*S.r c j) w=_;rw[←i1,←g.r2 i j hi hj];exact Aj fun c _=>by rw[qn6]
 . show Ah (fun k=>S.l a k*S.lb b k) n=_;rw[←i1,←g.l1 a b ha hb];rfl
 . show Ah (fun k=>S.r a k*S.rb b k) w=_;rw[←i1,←g.r1 a b ha hb];rfl
theorem few{n k:Nat}{f:Nat->Nat}(h:∀x,x<k->f x<n)(inj:∀x y,x<k->y<k->f x=f y->x=y):k<=n:=by
 rcases qe3 n k with z | z
 . obtain⟨x,h1,h2⟩:=Qy n f fun x y hx hy e=>inj x y O9m O9m e;have:=h x O9m;omega
 . exact z
theorem mins_small{n w B D:Nat}{A:Mat}(hA:∀i c,i<n->c<w->(A i c).natAbs<=B)(hD:∀i,i<=n->i<=w->FT i*B ^ i<=D):Mins n w A D:=fun k r c hr hc=>by
 rcases Rh k r with⟨x,y,hx,hy,ne,e⟩ | h1
 . rw[C0 hx hy ne fun z _=>by rw[e]];exact qa5 _
 . rcases Rh k c with⟨x,y,hx,hy,ne,e⟩ | h2
   . rw[←Kt,C0 (A:=fun r' c'=>A (r c') (c r')) hx hy ne fun z _=>by rw[e]];exact qa5 _
   . exact qa1 (cF fun x y hx hy=>hA _ _ (hr x hx) (hc y hy)) (hD k (few hr h1) (few hc h2))
structure Ud(k w:Nat)(Q:Mat)(p:Nat->Nat):Prop where
 zero:∀j c,k<=j->j<w->c<p j->Q j c=0
 inc:∀i j,k<=i->i<j->j<w->p i<p j
 lt:∀j,k<=j->j<w->p j<w
 pos:∀j,k<=j->j<w->0<Q j (p j)
 red:∀i j,k<=i->i<j->j<w->0<=Q i (p j)/\Q i (p j)<Q j (p j)
theorem Lf.loops{n w r:Nat}{kt:Nat->Nat}{hd:Nat->Int}{T Q:Mat}(h:Lf w (n+w) n r kt hd (beside n T Q)):Ud r w Q fun j=>kt j-n:=by
 have at':∀i j,r<=j->j<w->Q i (kt j-n)=beside n T Q i (kt j):=fun i j h1 h2=>by
  have:=h.ge j h1 h2;rw[←beside_hi n T Q i (kt j-n),show n+(kt j-n)=kt j by omega]
 refine⟨fun j c h1 h2 h3=>?_,fun i j h1 h2 h3=>?_,fun j h1 h2=>?_,fun j h1 h2=>?_,fun i j h1 h2 h3=>?_⟩
 . rw[←beside_hi n T Q j c];exact h.zero j _ h1 h2 O9m
 . have:=h.inc i j h1 h2 h3;have:=h.ge i h1 O9m;omega
 . have:=h.lt j h1 h2;have:=h.ge j h1 h2;omega
 . rw[at' j j h1 h2,h.head j h1 h2];exact h.pos j h1 h2
 . rw[at' i j (by omega) h3,at' j j (by omega) h3,h.head j (by omega) h3];exact h.red i j O9m h2 h3
theorem Ud.congr{k w:Nat}{Q Q':Mat}{p:Nat->Nat}(h:Ud k w Q p)(e:∀j,k<=j->Q' j=Q j):Ud k w Q' p :=
 ⟨fun j c h1 h2 h3=>by rw[e j h1];exact h.zero j c h1 h2 h3,h.inc,h.lt,fun j h1 h2=>by rw[e j h1];exact h.pos j h1 h2,fun i j h1 h2 h3=>by rw[e i h1,e j (by omega)];exact h.red i j h1 h2 h3⟩
end Lat
namespace Hb
open Lat
structure i0(n w b0 D π b β D2 π2 b2 β2 C1 C2 F:Nat):Prop where
 dπ:D<=2 ^ π
 nb:n*D<=2 ^ b
 wb:w*D<=2 ^ b
 b0π:b0<=π
 πb:π<=b
 bβ:b<β
 nβ:n+b0<β
 st:∀i,i<n->β+Ed π b i<=Xv
 π9:π<=8990
 d2:∀i,i<=n->i<=w->FT i*(2 ^ b) ^ i<=D2
 dπ2:D2<=2 ^ π2
 wb2:w*D2<=2 ^ b2
 bπ2:b<=π2
 πb2:π2<=b2
 bβ2:b2<β2
 wβ2:w+b<β2
 st2:∀i,i<w->β2+Ed π2 b2 i<=Xv
 π92:π2<=8990
 c1:∀r,r<=n->r<=w->Ju π b π r n<=C1
 c2:∀r,r<=n->r<=w->Ju π b π2 r w<=C2
 f1:β+(min n w*(π+2)+1)*(2*n+π+2)+C1+(5*min n w+min n w*min n w+1)*(2*π+4)<=F
 f2:β2+(min n w*(π+2)+1)*(2*w+π+2)+C2+(5*min n w+min n w*min n w+1)*(π+2)<=F
 fb:F<=Pr
section
variable{n w b0 D π b β D2 π2 b2 β2 C1 C2 F:Nat}{A:Mat}
noncomputable def UF(n w D π β π2 β2 b2:Nat)(A:Mat)(m:Nat)(M:Mat)(l r:Mat × Mat):Prop:=∃(k:Nat) (e:Int) (kl kr:Nat->Nat) (hl hr:Nat->Int),Me n w k D π m e A M l.1 l.2 r.1 r.2 kl kr hl hr/\m<=min n w*(π+2)/\e<=D/\(∀j,k<=j->j<n->hl j<=2 ^ π)/\(∀j,k<=j->j<w->hr j<=2 ^ π2) ∧
 Bits n n (β+(min n w*(π+2)-m)*(2*n+π+2)) l.1/\Bits n n (β+(min n w*(π+2)-m)*(2*n+π+2)) l.2/\Bits w w (β2+(min n w*(π+2)-m)*(2*w+π+2)) r.1/\Bits w w (β2+(min n w*(π+2)-m)*(2*w+π+2)) r.2/\Gi n l/\Gi w r/\∀j c,k<=j->j<w->c<w->(r.1 j c).natAbs<=2 ^ b2
theorem HW(p:i0 n w b0 D π b β D2 π2 b2 β2 C1 C2 F)(hA:∀i c,i<n->c<w->(A i c).natAbs<=2 ^ b0)(dets:Jt n (fun c=>c<w+n) (beside w A one) D):Mf n w A (one,one) (one,one) (fun M l r=>∃m,UF n w D π β π2 β2 b2 A m M l r):=by
 have o0:∀b i j,(one i j).natAbs<=2 ^ b:=fun b i j=>qa1 (gR i j) qh3;have hM:=Ua (W:=n) hA fun i c _ _=>o0 b0 i c;refine⟨JF n w (beside w A one),O7 hM dets p.dπ p.nb p.b0π (qa1 p.b0π p.πb) p.bβ p.nβ p.st p.π9 (M5 n w A),fun t=>Cs.start _ _ _ _ _ _ t,JF.lt,fun t1 s1 h1=>?_⟩;have hR:∀i c,i<w->c<n->((fun i j=>s1.1 j i) i c:Int).natAbs<=2 ^ b:=fun i c hi hc=>qa1 (h1.rowD dets (qa0 _) (fun c h=>h) hc (show i<w+n by omega)) p.nb;have NO:=Ua (W:=w) hR fun i c _ _=>o0 b i c;have c6:Jt w (fun c=>c<n+w) (beside n (tr s1.1) one) D2:=(mins_small hR fun i h1 h2=>p.d2 i h2 h1).dets;refine⟨JF w n (beside n (fun i j=>s1.1 j i) one),O7 NO c6 p.dπ2 p.wb2 p.bπ2 (qa1 p.bπ2 p.πb2) p.bβ2 p.wβ2 p.st2 p.π92 (M5 w n _),fun t=>Cs.start _ _ _ _ _ _ t,JF.lt,fun t2 s2 h2=>?_⟩;have qC:=Mc hM dets (fun k a=>rfl) h1 (qa0 _) p.nb (qa1 p.b0π p.πb) p.bβ p.nβ;have qB:=Mc NO c6 (fun k a=>rfl) h2 (qa0 _) p.wb2 (qa1 p.bπ2 p.πb2) p.bβ2 p.wβ2;obtain⟨k,e,kn,kw,he,wk,hl,hr⟩:=Xz (L:=π) dets c6 h1 h2
 have up:∀{x:Int}{a q:Nat},x<=a->a<=2 ^ q->x<=2 ^ q:=fun {x a q} h1 h2=>by
  exact qo0 h1 (by exact_mod_cast h2)
 have km:k*(π+2)<=min n w*(π+2):=qb1 _ O9m;exact⟨k*(π+2),k,e,_,_,_,_,wk,km,he,fun j _ h=>up (hl j h) p.dπ,fun j _ h=>up (hr j h) p.dπ2,Ep (Pb qC.1) (qc9 _ _),Ep qC.2.1 (qc9 _ _),Ep (Pb qB.1) (qc9 _ _),Ep qB.2.1 (qc9 _ _),(Gi.one n).go h1.good.pt,(Gi.one w).go h2.good.pt,fun j c _ hj hc=>qa1 (h2.rowD c6 (qa0 _) (fun c h=>h) hj (show n+c<n+w by omega)) p.wb2⟩
theorem GX(p:i0 n w b0 D π b β D2 π2 b2 β2 C1 C2 F){m:Nat}{M:Mat}{l r:Mat × Mat}(h:UF n w D π β π2 β2 b2 A m M l r)(ns:¬Straight n w M):Mf n w M l r (fun M' l' r'=>∃m',m'<m/\UF n w D π β π2 β2 b2 A m' M' l' r'):=by
 obtain⟨k,e,kl,kr,hl,hr,wk,hm,he,ηl,ηr,q1,q2,q3,q4,v1,v2,sp⟩:=h;obtain⟨lg,le⟩:=gX he p.dπ wk.e0;have rn:=wk.going.sq.rn;have rw':=wk.going.sq.rw;have c1:=p.c1 k rn rw';have c2:=p.c2 k rn rw';have f1:=p.f1;have f2:=p.f2;have fb:=p.fb;have rY:Pr<=Xv:=by decide
 have sC:∀C,(min n w*(π+2)-m)*C+C<=(min n w*(π+2)+1)*C:=fun C=>by
  rw[qd3,qd1];exact Nat.add_le_add_right (qb1 _ (Nat.sub_le _ _)) _
 have s1:=sC (2*n+π+2);have s2:=sC (2*w+π+2);have b1:β+(min n w*(π+2)-m)*(2*n+π+2)+Ju π b π k n<=Xv:=O9m
 have DB:β2+(min n w*(π+2)-m)*(2*w+π+2)+Ju π b π2 k w<=Xv:=O9m
 have β1:π+1<=β+(min n w*(π+2)-m)*(2*n+π+2):=by have:=p.πb;have:=p.bβ;omega
 have β1':π2+1<=β2+(min n w*(π+2)-m)*(2*w+π+2):=by have:=p.πb2;have:=p.bβ2;omega
 have tb:∀{n' w':Nat}{T:Mat}{x:Nat},π+1<=x->Dr n' w' k D e T->∀i c,i<n'->c<w'->(T i c).natAbs<2 ^ x:=fun {n' w' T x} hx g i c hi hc=>by
  obtain⟨g1,g2⟩:=g.le i c hi hc;have:(T i c).natAbs<=2 ^ π:=O9m
  exact qa7 this (qd6 (by decide) O9m)
 have bl:=Pa (tb β1 wk.going) q1;refine⟨JL n w k (beside w M l.1) l.2 kl hl π b π (β+(min n w*(π+2)-m)*(2*n+π+2)),O0 wk.going wk.e0 wk.kl wk.dl ηl β1 b1 p.dπ le p.nb p.πb p.π9 p.π9,fun t=>.inl ⟨qa5 _,Bx.start _ _ _ _ _ _ _ _ _ _,wk.kl.bits ηl bl q2 β1⟩,JL.lt,fun t1 u1 j1=>?_⟩;obtain⟨⟨G1,K1⟩,_,_⟩:=JL.done rn j1 c1;obtain⟨d1,d2,d3,d4⟩:=Je wk.e0 wk.going wk.kl K1 wk.told;have z1:=S9 (G:=G1) wk.e0 le wk.going d2 wk.kl d3 K1.st.good q1;have z2:=P5 wk.e0 le wk.going wk.kl K1.st.good K1.st.st (fun j hj=>K1.tab j hj O9m) (fun j hj hn=>K1.ker j hj hn) wk.dl q2;have ker:Lf w (n+w) n k kr hr (beside n (fun i j=>u1.1 j i) r.1):=wk.kr.table fun i c h1 h2 h3=>d2.sq.row0 i c h1 h2 h3;have dr:D5 w n (beside n (fun i j=>u1.1 j i) r.1) r.2:=Ew wk.dr;have RJ:π+1<=β2+(min n w*(π+2)-m)*(2*w+π+2):=by have:=p.πb;have:=p.bπ2;omega
 have br:=Pa (tb RJ d2) q3;refine⟨JL w n k (beside n (fun i j=>u1.1 j i) r.1) r.2 kr hr π b π2 (β2+(min n w*(π+2)-m)*(2*w+π+2)),O0 d2 wk.e0 ker dr ηr β1' DB p.dπ le p.wb p.πb p.π9 p.π92,fun t=>.inl ⟨qa5 _,Bx.start _ _ _ _ _ _ _ _ _ _,ker.bits ηr br q4 β1'⟩,JL.lt,fun t2 u2 j2=>?_⟩;obtain⟨⟨G2,K2⟩,_,_⟩:=JL.done rw' j2 c2;obtain⟨_,nx⟩:=wk.next lg K1 K2;obtain⟨m0,qH⟩:=nx ns;have k2:∀x c,x<w->c<n->tr u1.1 x c=Hu w n (tr A) (r.1 x) ((fun y a=>u1.1 y (w+a)) c):=fun x c hx hc=>Ni (T:=u1.1) (P:=fun y a=>u1.1 y (w+a)) d4 x c hx hc;obtain⟨h1,h2,h3,h4⟩:=Je wk.e0 d2 ker K2 k2;have y1:=S9 (G:=G2) wk.e0 le d2 h2 ker h3 K2.st.good q3;have y2:=P5 wk.e0 le d2 ker K2.st.good K2.st.st (fun j hj=>K2.tab j hj O9m) (fun j hj hn=>K2.ker j hj hn) dr q4
 have en:∀C,(min n w*(π+2)-(m-1))*C=(min n w*(π+2)-m)*C+C:=fun C=>by
  rw[show min n w*(π+2)-(m-1)=min n w*(π+2)-m+1 by omega,qd3,qd1]
 refine⟨m-1,O9m,k,e,kl,kr,hl,hr,qH,O9m,he,ηl,ηr,?_,?_,?_,?_,v1.go K1.st.good.pt,v2.go K2.st.good.pt,fun j c h1 h2 h3=>?_⟩
 . rw[en,←qn2];exact z1
 . rw[en,←qn2];exact z2
 . rw[en,←qn2];exact y1
 . rw[en,←qn2];exact y2
 . show(u2.1 j (n+c)).natAbs<=_;rw[i8 d2 ker K2.st.good K2.st.st (fun j hj=>K2.tab j hj (by omega)) (fun j hj hn=>K2.ker j hj hn) h1 h2 (n+c) (by omega),beside_hi];exact sp j c h1 h2 h3
noncomputable def YF(n w D π β π2 β2 b2:Nat)(A:Mat)(k d:Nat)(f:Nat->Int)(l r:Mat × Mat):Prop:=DiagAt n w k D A l.1 l.2 r.1 r.2 f/\d<=5*k+k*k/\BB n n (fun _=>False) 0 (β+(min n w*(π+2))*(2*n+π+2)+d*(2*π+4)) l/\BB w w (fun _=>False) 0 (β2+(min n w*(π+2))*(2*w+π+2)+d*(π+2)) r/\Gi n l/\Gi w r/\(∃p,Ud k w r.1 p)/\∀j c,k<=j->j<w->c<w->(r.1 j c).natAbs<=2 ^ b2
structure Zk(n w D F b2:Nat)(A:Mat)(k:Nat)(f:Nat->Int)(l r:Mat × Mat):Prop where
 dg:DiagAt n w k D A l.1 l.2 r.1 r.2 f
 il:Gi n l
 ir:Gi w r
 bl:Bits n n F l.1/\Bits n n F l.2
 br:Bits w w F r.1/\Bits w w F r.2
 lo:∃p,Ud k w r.1 p
 sp:∀j c,k<=j->j<w->c<w->(r.1 j c).natAbs<=2 ^ b2
theorem FG(p:i0 n w b0 D π b β D2 π2 b2 β2 C1 C2 F)(hA:∀i c,i<n->c<w->(A i c).natAbs<=2 ^ b0)(dets:Jt n (fun c=>c<w+n) (beside w A one) D):El n w A (Zk n w D F b2 A):=by
 refine⟨UF n w D π β π2 β2 b2 A,YF n w D π β π2 β2 b2 A,HW p hA dets,fun m M l r h ns=>GX p h ns,?_,?_,?_⟩
 . rintro m M l r ⟨k,e,kl,kr,hl,hr,wk,hm,he,ηl,ηr,q1,q2,q3,q4,v1,v2,sp⟩ hS;have dg:=wk.diag hS;have sC:∀C,(min n w*(π+2)-m)*C<=(min n w*(π+2))*C:=fun C=>qb1 _ (Nat.sub_le _ _);have s1:=sC (2*n+π+2);have s2:=sC (2*w+π+2);refine⟨k,fun x=>M x x,bO dg.pos _ (by have:=dg.mn;have:=dg.mw;omega) fun x h1 h2=>dg.zero x h1 O9m O9m,dg.mn,dg.mw,dg,qa5 _,⟨Ep q1 O9m,Ep q2 O9m,fun r c _ z=>z.elim⟩,⟨Ep q3 O9m,Ep q4 O9m,fun r c _ z=>z.elim⟩,v1,v2,⟨_,wk.kr.loops⟩,sp⟩
 . rintro k d i j f l r ⟨dg,hd,bl,br,v1,v2,⟨pl,lo⟩,sp⟩ hdk hij hj;have mn:=dg.mn;have mw:=dg.mw
   have lf:∀x,x<k->(f x).natAbs<=2 ^ π:=fun x hx=>by
    have h1:=dg.le hx;have h2:=dg.pos x hx;exact qa1 O9m p.dπ
   have kk:5*k+k*k<=5*min n w+min n w*min n w:=by
    have h:k<=min n w:=O9m
    have:=qd0 h h;omega
   have f1:=p.f1;have f2:=p.f2;have fb:=p.fb;have rY:Pr<=Xv:=by decide
   have dm:∀X,d*X+X<=(5*min n w+min n w*min n w+1)*X:=fun X=>by
    have:=qb1 X (show d+1<=5*min n w+min n w*min n w+1 by omega);rw[qd3,qd1]at this;exact this
   have d1:=dm (2*π+4);have d2:=dm (π+2);have cm:∀C,(min n w*(π+2))*C<=(min n w*(π+2)+1)*C:=fun C=>qb1 _ (qk7 _);have e1:=cm (2*n+π+2);have e2:=cm (2*w+π+2);have b1:BB n n (fun _=>False) 0 (β+min n w*(π+2)*(2*n+π+2)+d*(2*π+4)+(1+1)) (addS i j 1 l):=bl.add O9m O9m (k:=1) (c:=1) (by decide);have jY:∀{x:Nat},x<=2 ^ π->x<2 ^ (π+1):=fun h=>qa7 h (qd6 (by decide) O9m);refine⟨⟨⟨dg.pos i O9m,EG (lf i O9m) (by have:=p.π9;omega)⟩,⟨by have:=dg.pos j hj;omega,EG (lf j hj) (by have:=p.π9;omega)⟩,⟨BB.bo bl O9m,BB.bo b1 O9m⟩,BB.bo br O9m⟩,fun KI=>⟨dg,O9m,bl.mono (by rw[qd3];omega),br.mono (by rw[qd3];omega),v1,v2,⟨pl,lo⟩,sp⟩,fun g a b' sh=>⟨?_,O9m,?_,?_,?_,?_,⟨pl,lo.congr fun x hx=>?_⟩,fun x c h1 h2 h3=>?_⟩⟩
   . have:=dg.share hij hj sh;unfold iH DI gI addS blendS;simp only[qj6];exact this
   . have lb:(b'*f j / g).natAbs<2 ^ (2*π+1):=by
      refine qa7 (qe1 _ _) ?_;rw[qa4];refine qa7 (qd0 (qa1 sh.lb (lf i O9m)) (lf j hj)) ?_;rw[←qb7];exact qd6 (by decide) O9m
     have DB:=b1.add (p:=j) (q:=i) O9m O9m (k:=-(b'*f j / g)) (c:=2*π+1) (by rw[qb3];exact lb);refine DB.mono ?_;rw[qd3,qd1];omega
   . have:=br.blend (p:=i) (q:=j) O9m O9m O9m (x:=a) (y:=b') (z:=-(f j / g)) (u:=f i / g) (c:=π+1) (jY (qa1 sh.la (lf j hj))) (jY (qa1 sh.lb (lf i O9m))) (jY (by rw[qb3];exact qa1 (qe1 _ _) (lf j hj))) (jY (qa1 (qe1 _ _) (lf i O9m)));refine this.mono ?_;rw[qd3,qd1];omega
   . intro x y hx hy;rw[←v1 x y hx hy];exact(Yc _ _ (show j<n by omega) (show i<n by omega) O9m _ x y).trans (Yc _ _ (show i<n by omega) (show j<n by omega) O9m _ x y)
   . intro x y hx hy;rw[←v2 x y hx hy];exact Wv _ _ (show i<w by omega) (show j<w by omega) O9m (sh.blend (π:=π) (dg.pos i O9m) (lf i O9m) (lf j hj)).one x y
   . exact blend_row_ne O9m O9m _ _ _ _
   . have e:(DI i j g a b' f r).1 x=r.1 x:=blend_row_ne O9m O9m _ _ _ _;rw[e];exact sp x c h1 h2 h3
 . rintro k d f l r ⟨dg,hd,bl,br,v1,v2,lo,sp⟩;have h:k<=min n w:=by have:=dg.mn;have:=dg.mw;omega
   have kk:=qd0 h h;have f1:=p.f1;have f2:=p.f2;have dm:∀X,d*X<=(5*min n w+min n w*min n w+1)*X:=fun X=>qb1 X O9m;have cm:∀C,(min n w*(π+2))*C<=(min n w*(π+2)+1)*C:=fun C=>qb1 _ (qk7 _);have d1:=dm (2*π+4);have d2:=dm (π+2);have e1:=cm (2*n+π+2);have e2:=cm (2*w+π+2);exact⟨dg,v1,v2,⟨(bl.mono (show _<=F by omega)).1,(bl.mono (show _<=F by omega)).2.1⟩,⟨(br.mono (show _<=F by omega)).1,(br.mono (show _<=F by omega)).2.1⟩,lo,sp⟩
end
end Hb
namespace Lat
open Hb
noncomputable def mulV(w:Nat)(A:Mat)(x:Nat->Int):Nat->Int:=fun i=>Ah (fun j=>A i j*x j) w
theorem Nc(n w:Nat)(A:Mat)(p x:Nat->Int):Hu n w A p x=Ah (fun a=>p a*mulV w A x a) n:=rfl
theorem Zb{w:Nat}{Q QB:Mat}(h:∀a b,a<w->b<w->pT w QB Q a b=if a=b then 1 else 0)(x:Nat->Int):∀c,c<w->x c=Ah (fun y=>Ah (fun a=>x a*QB y a) w*Q y c) w:=Ug (P':=fun _=>x) h 0
noncomputable def numAt(f:Nat->Int)(k i:Nat):Int:=if i<k then f i else 0
noncomputable def Bar(f:Nat->Int)(k:Nat)(s:Nat->Int)(i:Nat):Prop:=¬numAt f k i∣s i
section
variable{n w k E:Nat}{A P PB Q QB:Mat}{f:Nat->Int}
theorem DiagAt.seen(h:DiagAt n w k E A P PB Q QB f)(hr:∀a b,a<w->b<w->pT w QB Q a b=if a=b then 1 else 0){x:Nat->Int}{i:Nat}(hi:i<n):Ah (fun a=>P i a*mulV w A x a) n=numAt f k i*(if i<w then Ah (fun a=>x a*QB i a) w else 0):=by
 have mw:=h.mw;rw[←Nc,Go (p':=P i) (q':=fun c=>Ah (fun y=>Ah (fun a=>x a*QB y a) w*Q y c) w) (fun _ _=>rfl) (fun c hc=>Zb hr x c hc),Dj,Jk]
 have e:∀y,y<w->Ah (fun a=>x a*QB y a) w*Hu w n (tr A) (Q y) (P i)=if y=i then numAt f k i*Ah (fun a=>x a*QB i a) w else 0:=fun y hy=>by
  rw[←Dj,h.diag i y hi hy];unfold numAt;by_cases z:y=i
  . subst z;rw[if_pos rfl,if_pos rfl];by_cases z2:y<k
    . rw[if_pos z2,qd4]
    . rw[if_neg z2,h.zero y (by omega) hi hy,qc7,qh4]
  . rw[if_neg fun q=>z q.symm,if_neg z,qc7]
 rw[Aj e];by_cases z:i<w
 . rw[Bm z fun y _ ne=>if_neg ne,if_pos rfl,if_pos z]
 . rw[Bc fun y hy=>if_neg (by omega),if_neg z,qc7]
theorem DiagAt.noBar(h:DiagAt n w k E A P PB Q QB f)(hr:∀a b,a<w->b<w->pT w QB Q a b=if a=b then 1 else 0){x v:Nat->Int}(hx:∀i,i<n->mulV w A x i=v i){i:Nat}(hi:i<n):¬Bar f k (fun i=>Ah (fun a=>P i a*v a) n) i:=fun b=>b (by
 have e:Ah (fun a=>P i a*v a) n=Ah (fun a=>P i a*mulV w A x a) n:=Aj fun a ha=>by rw[hx a ha]
 show numAt f k i∣Ah (fun a=>P i a*v a) n;rw[e,h.seen hr hi];exact Int.dvd_mul_right _ _)
theorem DiagAt.made(h:DiagAt n w k E A P PB Q QB f)(hl:∀a b,a<n->b<n->pT n PB P a b=if a=b then 1 else 0){v:Nat->Int}(hb:∀i,i<n->¬Bar f k (fun i=>Ah (fun a=>P i a*v a) n) i):∀i,i<n->mulV w A (fun j=>Ah (fun y=>Q y j*(if y<k then Ah (fun a=>P y a*v a) n / f y else 0)) w) i=v i:=by
 have mn:=h.mn;have mw:=h.mw
 have key:∀y,y<n->Ah (fun a=>P y a*mulV w A (fun j=>Ah (fun y=>Q y j*(if y<k then Ah (fun a=>P y a*v a) n / f y else 0)) w) a) n=Ah (fun a=>P y a*v a) n:=fun y hy=>by
  rw[←Nc,Go (p':=P y) (q':=fun c=>Ah (fun u=>(if u<k then Ah (fun a=>P u a*v a) n / f u else 0)*Q u c) w) (fun _ _=>rfl) (fun c hc=>Aj fun u _=>qd4 _ _),Dj,Jk]
  have e:∀u,u<w->(if u<k then Ah (fun a=>P u a*v a) n / f u else 0)*Hu w n (tr A) (Q u) (P y)=if u=y then(if y<k then Ah (fun a=>P y a*v a) n / f y*f y else 0) else 0:=fun u hu=>by
   rw[←Dj,h.diag y u hy hu];by_cases z:u=y
   . subst z;rw[if_pos rfl,if_pos rfl];split
     . rfl
     . rw[qh4]
   . rw[if_neg z,if_neg (show ¬y=u from fun q=>z q.symm),qc7]
  rw[Aj e];have dv:numAt f k y∣Ah (fun a=>P y a*v a) n:=qh5 fun q=>hb y hy q;unfold numAt at dv;by_cases z:y<k
  . rw[Bm (show y<w by omega) fun u _ ne=>if_neg ne,if_pos rfl,if_pos z];rw[if_pos z]at dv;exact qo6 dv
  . rw[if_neg z]at dv;rw[Int.zero_dvd.mp dv]
    exact Bc fun u hu=>by
     by_cases q:u=y
     . rw[if_pos q,if_neg z]
     . rw[if_neg q]
 intro i hi
 have un:∀u:Nat->Int,u i=Ah (fun y=>PB y i*Ah (fun a=>P y a*u a) n) n:=fun u=>by
  have e:Ah (fun y=>PB y i*Ah (fun a=>P y a*u a) n) n=Ah (fun a=>pT n PB P i a*u a) n:=by
   rw[Aj fun y _=>(Ay _ _ _).symm,Cz];refine Aj fun a _=>?_;show _=Ah (fun k=>PB k i*P k a) n*u a;rw[←Ff];exact Aj fun y _=>(qe0 _ _ _).symm
  rw[e,Bm hi fun a ha ne=>by rw[hl i a hi ha,if_neg fun q=>ne q.symm,qh4],hl i i hi hi,if_pos rfl,qb8]
 rw[un (mulV w A _),un v];exact Aj fun y hy=>by rw[key y hy]
end
end Lat
namespace Hb
open PySem L2
noncomputable def kY(n w:Nat)(A:Lat.Mat)(u:Nat->Int):Prop:=∃x,∀i,i<n->Lat.mulV w A x i=u i
noncomputable abbrev CP:Nat:=134000700
theorem GV{i j:Int}{m:Nat}(hi:i.natAbs<2 ^ m)(hj:j.natAbs<2 ^ CP)(h:m<=200000):IntMulOk i j:=Ih hi hj (by have:CP=134000700:=rfl;omega)
theorem DW(a b:Int):decide (V.int a=V.int b)=decide (a=b):=by
 by_cases z:a=b
 . rw[z];simp
 . rw[qh7 z,qh7 (fun q=>z (V.int.inj q))]
noncomputable def Xy(n w:Nat)(A:Lat.Mat)(k:Nat)(f:Nat->Int)(l r:Lat.Mat × Lat.Mat):Prop:=∃E,E<L9/\Lat.DiagAt n w k E A l.1 l.2 r.1 r.2 f/\Gi n l/\Gi w r/\BF n l/\BF w r
theorem tE{n w k E:Nat}{A P PB Q QB:Lat.Mat}{f:Nat->Int}(h:Lat.DiagAt n w k E A P PB Q QB f)(hE:E<L9){x:Nat}(hx:x<k):(f x).natAbs<L9:=by
 have h1:=h.le hx;have h2:=h.pos x hx;exact qa7 (show(f x).natAbs<=E by omega) hE
section
variable(K:W.Frag)
noncomputable def Li:Sp:=fun vs H Q _=>∃(a:Addr) (k i:Nat) (f:Nat->Int),vs=[.ref a,.int (i:Int)]/\SqL K H a (VI k f)/\Q (.int (Lat.numAt f k i)) H
noncomputable def Jm(_K:W.Frag):Sp:=fun vs H Q _=>∃(v d:Int),vs=[.int v,.int d]/\0<=d/\Q (.bl (decide (d∣v))) H
noncomputable def Lj:Sp:=fun vs H Q _=>∃(a b:Addr) (k n:Nat) (f s:Nat->Int),vs=[.ref a,.ref b]/\SqL K H a (VI k f)/\SqL K H b (VI n s)/\n<=1000/\(∀x,x<k->0<f x) ∧
 ((∀i,i<n->¬Lat.Bar f k s i)->∀H',Ao H H'->Q .non H')/\∀i,i<n->Lat.Bar f k s i->∀H',Ao H H'->Q (.int (i:Int)) H'
noncomputable def Jy:Sp:=fun vs H Q _=>∃(v:V) (wn:Addr) (n w:Nat) (A:Lat.Mat) (u:Nat->Int),vs=[v,.int (w:Int),.ref wn]/\Rep K H v (dT n w A)/\SqL K H wn (VI n u)/\n<=40/\w<=60/\El n w A (Xy n w A) ∧
 ∀(tp nm r1 D1 D2 b2:Addr) (k:Nat) (f:Nat->Int) (l r:Lat.Mat × Lat.Mat) (H':Hp),Xy n w A k f l r->k<=n->k<=w->Pe K H' tp nm r1 D1 D2 b2 n w k f l r->Ao H H'->Q (.ref tp) H'
noncomputable def Qd:Sp:=fun vs H Q _=>∃(v:V) (wn:Addr) (n w:Nat) (A:Lat.Mat) (u:Nat->Int),vs=[v,.int (w:Int),.ref wn]/\Rep K H v (dT n w A)/\SqL K H wn (VI n u)/\n<=40/\w<=60/\El n w A (Xy n w A)/\(∀i,i<n->(u i).natAbs<2 ^ 200) ∧
 (¬kY n w A u->∀H',Ao H H'->Q .non H')/\∀(x:Nat->Int) (L:Addr) (H':Hp),(∀i,i<n->Lat.mulV w A x i=u i)->(∀j,j<w->(x j).natAbs<2 ^ CP)->Ao H H'->H' L=some (.lst (VI w x))->Q (.ref L) H'
end
section
variable(K:W.Frag)
end
end Hb
namespace Lat
open Hb
section
variable{n w k E:Nat}{A P PB Q QB:Mat}{f:Nat->Int}
theorem Z1{m m' E E':Nat}{P PB Q QB P' OC Q' OB:Mat}{f f':Nat->Int}(h:DiagAt n w m E A P PB Q QB f)(hl:Gi n (P,PB))(hr:Gi w (Q,QB))(h':DiagAt n w m' E' A P' OC Q' OB f'):m'<=m:=by
 rcases qe3 m m' with z | z
 . have:=h.dvd hl hr h' (k:=m+1) z (g:=0) fun s hi hs=>by
    obtain⟨x,hx,hk⟩:=Qy m s fun x y hx hy e=>hi x y O9m O9m e;have:=hs x O9m;omega
   have p:0<prodN f' (m+1):=Cg fun j hj=>h'.pos j O9m;have:=Int.zero_dvd.mp this;omega
 . exact z
theorem DC{u:Nat->Int}(hl:Gi n (P,PB))(hu:∀x,x<n->Ah (fun a=>P x a*u a) n=0):∀a,a<n->u a=0:=fun b hb=>by
 have e:Ah (fun x=>PB x b*Ah (fun a=>P x a*u a) n) n=u b:=by
  have:Ah (fun x=>PB x b*Ah (fun a=>P x a*u a) n) n=Ah (fun x=>Ah (fun a=>u a*(PB x b*P x a)) n) n:=Aj fun x _=>by
   rw[←Ay];exact Aj fun a _=>by grind
  rw[this,Cz]
  rw[Bm hb fun a ha ne=>by
   rw[Ay];have:=hl b a hb ha;unfold pT at this;rw[this,if_neg fun q=>ne q.symm,qc7]]
  rw[Ay];have:=hl b b hb hb;unfold pT at this;rw[this,if_pos rfl,ql8]
 rw[←e];exact Bc fun x hx=>by rw[hu x hx,qc7]
theorem DiagAt.spare(h:DiagAt n w k E A P PB Q QB f)(hl:Gi n (P,PB)){y:Nat}(h1:k<=y)(h2:y<w):∀x,x<n->mulV w A (Q y) x=0 :=
 DC hl fun x hx=>by
  have:=h.diag x y hx h2;rw[Nc]at this;rw[this];by_cases z:x=y
  . rw[if_pos z,z];exact h.zero y h1 O9m h2
  . rw[if_neg z]
theorem DiagAt.madeS(h:DiagAt n w k E A P PB Q QB f)(hr:Gi w (Q,QB)){v:Nat->Int}(hv:∀x,x<n->mulV w A v x=0):∀c,c<w->v c=Ah (fun i=>Ah (fun a=>v a*QB (k+i) a) w*Q (k+i) c) (w-k):=fun c hc=>by
 have mw:=h.mw;have mn:=h.mn
 have z:∀y,y<k->Ah (fun a=>v a*QB y a) w=0:=fun y hy=>by
  have e1:Hu n w A (P y) v=0:=by
   rw[Nc];exact Bc fun x hx=>by rw[hv x hx,qc7]
  have e2:Hu n w A (P y) v=f y*Ah (fun a=>v a*QB y a) w:=by
   rw[Go (p':=P y) (q':=fun c=>Ah (fun u=>Ah (fun a=>v a*QB u a) w*Q u c) w) (fun _ _=>rfl) (fun b hb=>Zb hr v b hb),Dj,Jk];rw[Bm (show y<w by omega) fun u hu ne=>by rw[←Dj,h.diag y u (by omega) hu,if_neg fun q=>ne q.symm,qc7]];rw[←Dj,h.diag y y (by omega) (by omega),if_pos rfl,qd4]
  rw[e2]at e1;have p:=h.pos y hy;rcases ql9.mp e1 with q | q
  . omega
  . exact q
 rw[Zb hr v c hc]
 have sp:∀d,k+d<=w->Ah (fun y=>Ah (fun a=>v a*QB y a) w*Q y c) (k+d)=Ah (fun i=>Ah (fun a=>v a*QB (k+i) a) w*Q (k+i) c) d:=fun d=>by
  induction d with
  | zero=>intro _;exact Bc fun y hy=>by rw[z y hy,qh4]
  | succ d ih =>
    intro hd;have i1:=ih O9m;show Ah (fun y=>Ah (fun a=>v a*QB y a) w*Q y c) (k+d)+Ah (fun a=>v a*QB (k+d) a) w*Q (k+d) c=_;rw[i1];rfl
 have:=sp (w-k) O9m;rw[show k+(w-k)=w by omega]at this;exact this
end
noncomputable def listT:Tn->(Nat->Int)->Nat->Int
 | .mi i,v=>fun c=>if c=i then 0-v i else v c
 | .sw i j,v=>fun c=>if c=j then v i else if c=i then v j else v c
 | .ad i j n,v=>fun c=>if c=j then v j-n*v i else v c
theorem v4{w:Nat}{t:Tn}(ht:K9 w t)(A:Mat)(v:Nat->Int)(x:Nat):mulV w (gE t A) (listT t v) x=mulV w A v x:=by
 cases t with
 | mi i =>
   refine Aj fun c hc=>?_;show(if c=i then -(A x i) else A x c)*(if c=i then 0-v i else v c)=A x c*v c;by_cases z:c=i
   . rw[if_pos z,if_pos z,z];grind
   . rw[if_neg z,if_neg z]
 | sw i j =>
   obtain⟨hi,hj,ne⟩:=ht;refine Gk hi hj ne (fun c hc h1 h2=>?_) ?_
   . show(if c=j then A x i else if c=i then A x j else A x c)*(if c=j then v i else if c=i then v j else v c)=A x c*v c;rw[if_neg h2,if_neg h1,if_neg h2,if_neg h1]
   . show(if i=j then A x i else if i=i then A x j else A x i)*(if i=j then v i else if i=i then v j else v i)+(if j=j then A x i else if j=i then A x j else A x j)*(if j=j then v i else if j=i then v j else v j)=A x i*v i+A x j*v j;rw[if_neg ne,if_pos rfl,if_neg ne,if_pos rfl,if_pos rfl,if_pos rfl];omega
 | ad i j m =>
   obtain⟨hi,hj,ne⟩:=ht;refine Gk hi hj ne (fun c hc h1 h2=>?_) ?_
   . show(if c=i then 1*A x i+m*A x j else A x c)*(if c=j then v j-m*v i else v c)=A x c*v c;rw[if_neg h1,if_neg h2]
   . show(if i=i then 1*A x i+m*A x j else A x i)*(if i=j then v j-m*v i else v i)+(if j=i then 1*A x i+m*A x j else A x j)*(if j=j then v j-m*v i else v j)=A x i*v i+A x j*v j;rw[if_pos rfl,if_neg ne,if_neg (fun q=>ne q.symm),if_pos rfl]
     grind
theorem BH{n w:Nat}{t:Tn}(ht:K9 n t){A:Mat}{v:Nat->Int}(h:∀x,x<n->mulV w A v x=0):∀x,x<n->mulV w (Eb t A) v x=0:=fun x hx=>by
 cases t with
 | mi i =>
   have e:mulV w (Eb (.mi i) A) v x=(if x=i then -1 else 1)*mulV w A v x:=by
    unfold mulV;rw[←Ay];refine Aj fun c _=>?_;show(if x=i then -(A i c) else A x c)*v c=_;by_cases z:x=i
    . rw[if_pos z,if_pos z,z];grind
    . rw[if_neg z,if_neg z];grind
   rw[e,h x hx,qc7]
 | sw i j =>
   obtain⟨hi,hj,ne⟩:=ht
   have e:mulV w (Eb (.sw i j) A) v x=mulV w A v (if x=j then i else if x=i then j else x):=by
    refine Aj fun c _=>?_;show(if x=j then A i c else if x=i then A j c else A x c)*v c=_;by_cases z:x=j
    . rw[if_pos z,if_pos z]
    . by_cases z2:x=i
      . rw[if_neg z,if_pos z2,if_neg z,if_pos z2]
      . rw[if_neg z,if_neg z2,if_neg z,if_neg z2]
   rw[e];exact h _ (by split;exact hi;split;exact hj;exact hx)
 | ad i j m =>
   obtain⟨hi,hj,ne⟩:=ht
   have e:mulV w (Eb (.ad i j m) A) v x=mulV w A v x+(if x=i then m else 0)*mulV w A v j:=by
    unfold mulV;rw[←Ay,←B9];refine Aj fun c _=>?_;show(if x=i then 1*A i c+m*A j c else A x c)*v c=_;by_cases z:x=i
    . rw[if_pos z,if_pos z,z];grind
    . rw[if_neg z,if_neg z];grind
   rw[e,h x hx,h j hj,qc7];rfl
theorem Yq{t:Tn}{v:Nat->Int}{B:Nat}(hb:tB 2 t)(h:∀c,(v c).natAbs<=2 ^ B):∀c,(listT t v c).natAbs<=2 ^ (B+2):=fun c=>by
 have p:2 ^ (B+2)=4*2 ^ B:=by rw[qb7,qn7]
 cases t with
 | mi i =>
   show(if c=i then 0-v i else v c).natAbs<=_;have:=h i;have:=h c;split<;>omega
 | sw i j =>
   show(if c=j then v i else if c=i then v j else v c).natAbs<=_;have:=h i;have:=h j;have:=h c;split
   . omega
   . split<;>omega
 | ad i j m =>
   show(if c=j then v j-m*v i else v c).natAbs<=_;have h1:=h i;have h2:=h j;have h3:=h c
   have h4:(m*v i).natAbs<=3*2 ^ B:=by
    rw[qa4];exact qd0 (by have:m.natAbs<2 ^ 2:=hb;omega) h1
   split<;>omega
structure Bent(n w m:Nat)(d:Nat->Int)(i:Nat)(A:Mat)(v:Nat->Int):Prop where
 ex:∃S:g8,Hb.Good n w S/\S.T=lay m d/\S.f=A
 mins:Mins n w A (2 ^ (18+2*i))
 zero:∀x,x<n->mulV w A v x=0
 bits:∀c,(v c).natAbs<=2 ^ (20+2*i)
 bt:bT (8+4*i) A
section
variable{n w m i:Nat}{d v:Nat->Int}{A:Mat}
theorem Bent.first(hm:m<=3)(hd:∀x,x<m->(d x).natAbs<=2 ^ 6)(hv:∀c,c<m->v c=0)(hb:∀c,(v c).natAbs<=2 ^ 20):Bent n w m d 0 (lay m d) v :=
 ⟨⟨_,Hb.Good.first n w _,rfl,rfl⟩,(bY hd (by decide) hm:_),fun x hx=>Bc fun c hc=>by
   show(if x=c/\x<m then d x else 0)*v c=0;by_cases z:x=c/\x<m
   . rw[hv c (by omega),qc7]
   . rw[if_neg z,qh4],hb,fun r c=>by
   unfold lay;by_cases z:r=c/\r<m
   . rw[if_pos z];exact qa7 (hd r z.2) (by decide)
   . rw[if_neg z];decide⟩
theorem Bent.up(h:Bent n w m d i A v):Bent n w m d (i+1) A v:=⟨h.ex,fun k r c hr hc=>qa1 (h.mins k r c hr hc) (qb9 (by decide) O9m),h.zero,fun c=>qa1 (h.bits c) (qb9 (by decide) O9m),h.bt.mono O9m⟩
theorem JO(i:Nat):4*2 ^ (18+2*i)=2 ^ (18+2*(i+1)):=by
 rw[show 18+2*(i+1)=2+(18+2*i) by omega,qb7 2 2 (18+2*i)]
theorem Bent.row{t:Tn}(h:Bent n w m d i A v)(ht:K9 n t)(hb:tB 2 t):Bent n w m d (i+1) (Eb t A) v:=by
 obtain⟨S,g,e1,e2⟩:=h.ex;exact⟨⟨S.row t,g.row ht,e1,by rw[←e2];rfl⟩,JO i▸h.mins.turn ht hb,BH ht h.zero,h.up.bits,(h.bt.turn3 (hb.mono O9m)).mono O9m⟩
theorem Bent.col{t:Tn}(h:Bent n w m d i A v)(ht:K9 w t)(hb:tB 2 t):Bent n w m d (i+1) (gE t A) (listT t v):=by
 obtain⟨S,g,e1,e2⟩:=h.ex
 exact⟨⟨S.col t,g.col ht,e1,by rw[←e2];rfl⟩,JO i▸h.mins.cols ht hb,fun x hx=>by rw[v4 ht];exact h.zero x hx,by
  rw[show 20+2*(i+1)=20+2*i+2 by omega];exact Yq hb h.bits,(h.bt.cols3 (hb.mono O9m)).mono O9m⟩
theorem Mins.entry{D:Nat}(h:Mins n w A D){x y:Nat}(hx:x<n)(hy:y<w):(A x y).natAbs<=D:=by
 have:=h 1 (fun _=>x) (fun _=>y) (fun _ _=>hx) (fun _ _=>hy);rw[show det 1 (fun _ _=>A x y)=A x y by simp[det,Ah,Mp]]at this;exact this
theorem Bent.rank{k E:Nat}{P PB Q QB:Mat}{f:Nat->Int}(h:Bent n w m d i A v)(mn:m<=n)(mw:m<=w)(pos:∀x,x<m->0<d x)(dg:DiagAt n w k E A P PB Q QB f)(hl:Gi n (P,PB))(hr:Gi w (Q,QB)):k=m:=by
 obtain⟨S,g,e1,rfl⟩:=h.ex;obtain⟨qA,i1,i2⟩:=eO g e1 mn mw pos;exact qf6 (Z1 qA i1 i2 dg) (Z1 dg hl hr qA)
end
end Lat
namespace Hb
open Lat
noncomputable def Z3(n w b0 π b β π2 b2 β2 C1 C2 F:Nat):Bool :=
 (decide (n*2 ^ π<=2 ^ b/\w*2 ^ π<=2 ^ b/\b0<=π/\π<=b/\b<β/\n+b0<β)&&(Nd n (fun i=>decide (β+Ed π b i<=Xv))&&(decide (π<=8990) &&
 (Nd (min n w+1) (fun i=>decide (FT i*(2 ^ b) ^ i<=2 ^ π2))&&(decide (w*2 ^ π2<=2 ^ b2/\b<=π2/\π2<=b2/\b2<β2/\w+b<β2)&&(Nd w (fun i=>decide (β2+Ed π2 b2 i<=Xv))&&(decide (π2<=8990) &&
 (Nd (min n w+1) (fun r=>decide (Ju π b π r n<=C1/\Ju π b π2 r w<=C2)) &&
 decide (β+(min n w*(π+2)+1)*(2*n+π+2)+C1+(5*min n w+min n w*min n w+1)*(2*π+4)<=F/\β2+(min n w*(π+2)+1)*(2*w+π+2)+C2+(5*min n w+min n w*min n w+1)*(π+2)<=F/\F<=Pr)))))))))
theorem Wu{n w b0 π b β π2 b2 β2 C1 C2 F:Nat}(h:Z3 n w b0 π b β π2 b2 β2 C1 C2 F=true):i0 n w b0 (2 ^ π) π b β (2 ^ π2) π2 b2 β2 C1 C2 F:=by
 unfold Z3 at h;simp only[qe5,decide_eq_true_eq]at h;obtain⟨⟨h2,h3,h4,h5,h6,h7⟩,h8,h9,k1,⟨k2,k3,k4,k5,k6⟩,k7,k8,k9,m1,m2,m3⟩:=h
 exact⟨qa0 _,h2,h3,h4,h5,h6,h7,fun i hi=>qd5 (E8 h8 i hi),h9,fun i h1 h2=>qd5 (E8 k1 i O9m),qa0 _,k2,k3,k4,k5,k6,fun i hi=>qd5 (E8 k7 i hi),k8,
  fun r hr hw=>(qd5 (E8 k9 r O9m):_/\_).1,fun r hr hw=>(qd5 (E8 k9 r O9m):_/\_).2,m1,m2,m3⟩
theorem Zk.finE{n w π F b2 k:Nat}{A:Mat}{f:Nat->Int}{l r:Mat × Mat}(h:Zk n w (2 ^ π) F b2 A k f l r)(hF:F<=Pr)(hπ:π<=8990):Xy n w A k f l r :=
 ⟨_,EG (qa0 _) O9m,h.dg,h.il,h.ir,⟨Ep h.bl.1 hF,Ep h.bl.2 hF⟩,⟨Ep h.br.1 hF,Ep h.br.2 hF⟩⟩
theorem MO:(Nd 5 fun n=>Nd 6 fun w=>Z3 n w 42 42 45 47 185 188 189 30000 30000 1000000)=true:=by decide +kernel
theorem mO:(Nd 6 fun n=>Nd 6 fun w=>Z3 n w 188 947 950 951 4757 4760 4761 1000000 2000000 9000000)=true:=by decide +kernel
end Hb
namespace L2
open PySem PySem.Spec PyProof.Rows
mutual
def DF:D->PyData
 | .non=>.none
 | .bl b=>.bool b
 | .int i=>.int i
 | .str x=>.str x
 | .tup ds=>.tuple (toPDs ds)
 | .lst ds=>.list (toPDs ds)
def toPDs:List D->List PyData
 | []=>[]
 | d::ds=>DF d::toPDs ds
end
section
variable{X:Cx}{Ac:Bj}{σ:St}{H:Hp}{s:Shared}
mutual
theorem bI(I:Bk X Ac σ H s):∀(d:D) {v:V}{u:Value},Rep X.K H v d->RelV v u->∃as,Reads s.heap u (DF d) as
 | .non,v,u,h,r=>by
   cases (show v=.non from h);obtain rfl:u=.none:=r;exact⟨_,.none⟩
 | .bl b,v,u,h,r=>by
   cases (show v=.bl b from h);obtain rfl:u=.bool b:=r;exact⟨_,.bool b⟩
 | .int i,v,u,h,r=>by
   cases (show v=.int i from h);obtain⟨t,rfl⟩:=r;exact⟨_,.int i t⟩
 | .str x,v,u,h,r=>by
   cases (show v=.str x from h);obtain⟨t,rfl⟩:=r;exact⟨_,.str x t⟩
 | .tup ds,v,u,h,r=>by
   obtain⟨a,vs,rfl,hq,hr⟩:=h;obtain rfl:u=.ref a:=r;obtain⟨its,rv,p,hz⟩:=I.tuple hq;obtain⟨o,ho,hc,n,hd⟩:=(show s.heap.IsTuple a its.toArray from p)
   obtain⟨as,ra⟩:=readsAll_of I ds hr rv;exact⟨as,.tuple ho hc hd (by simpa using ra)⟩
 | .lst ds,v,u,h,r=>by
   obtain⟨a,vs,rfl,hq,hr⟩:=h;obtain rfl:u=.ref a:=r;obtain⟨its,rv,p,hz⟩:=I.list hq;obtain⟨o,ho,hc,n,hd⟩:=p.isList;obtain⟨as,ra⟩:=readsAll_of I ds hr rv;exact⟨a::as,.list ho hc hd (by simpa using ra)⟩
theorem readsAll_of(I:Bk X Ac σ H s):∀(ds:List D) {vs:List V}{us:List Value},Reps X.K H vs ds->Bt vs us->∃as,ReadsAll s.heap us (toPDs ds) as
 | [],vs,us,h,r=>by
   cases (show vs=[] from h);cases r;exact⟨_,.nil⟩
 | d::ds,vs,us,h,r=>by
   obtain⟨v,q,rfl,hv,hq⟩:=h;cases r with
   | cons r1 r2 =>
     obtain⟨as,ra⟩:=bI I d hv r1;obtain⟨bs,rb⟩:=readsAll_of I ds hq r2;exact⟨_,.cons ra rb⟩
end
end
mutual
theorem Vh:∀d:D,(DF d).hasDict=false
 | .non=>rfl
 | .bl _=>rfl
 | .int _=>rfl
 | .str _=>rfl
 | .tup ds=>hasDict_toPDs ds
 | .lst ds=>hasDict_toPDs ds
theorem hasDict_toPDs:∀ds:List D,PyData.hasDictAll (toPDs ds)=false
 | []=>rfl
 | d::ds=>by
   show((DF d).hasDict || PyData.hasDictAll (toPDs ds))=false;rw[Vh d,hasDict_toPDs ds];rfl
end
end L2
namespace L2
open PySem PySem.Spec PyProof.Rows
section
variable{X:Cx}{K:W.Frag}
end
section
variable{X:Cx}{Ac:Bj}{σ:St}{H:Hp}{s:Shared}
end
structure Fin(B k:Nat)(p:PyData):Prop where
 sh:p.showable=true
 le:p.shown.length<=B
 dp:p.depth<=k
section
variable{prog:Program}{w:World}{A:Around}{E:Value->Shared->Prop}
end
theorem JB{x y z:V}{us:List Value}(r:Bt [x,y,z] us):∃u v w,us=[u,v,w]/\RelV x u/\RelV y v/\RelV z w:=by
 cases r with
 | cons r1 r2 =>
   obtain⟨v,w,rfl,h2,h3⟩:=Zo r2;exact⟨_,v,w,rfl,r1,h2,h3⟩
theorem AJ{X:Cx}(hc:X.calm=true):Fd X (.builtin "min") (fun xs H Q=>∃i j k,xs=[.int i,.int j,.int k]/\∀m,m<=i->m<=j->m<=k->(m=i\/m=j\/m=k)->Q (.int m) H):=by
 intro Ac s σ H xs us Q I r h;obtain⟨i,j,k,rfl,q⟩:=h;obtain⟨u,v,w,rfl,⟨t,rfl⟩,⟨t',rfl⟩,⟨t2,rfl⟩⟩:=JB r;refine min_three_ints (I.ok.hd hc) fun h' tk kk=>?_;by_cases h1:j<i
 . rw[if_pos h1];by_cases h2:k<j
   . rw[if_pos h2];exact⟨.int k,H,I.kept kk,⟨_,rfl⟩,q k O9m O9m O9m O9m⟩
   . rw[if_neg h2];exact⟨.int j,H,I.kept kk,⟨_,rfl⟩,q j O9m O9m O9m O9m⟩
 . rw[if_neg h1];by_cases h2:k<i
   . rw[if_pos h2];exact⟨.int k,H,I.kept kk,⟨_,rfl⟩,q k O9m O9m O9m O9m⟩
   . rw[if_neg h2];exact⟨.int i,H,I.kept kk,⟨_,rfl⟩,q i O9m O9m O9m O9m⟩
section
variable{prog:Program}{w:World}{A:Around}{R:Result->Shared->Prop}
end
end L2
namespace Hb
open PySem L2
theorem bB{t u:TS}{D:Ends}{σ:St}{H:Hp}(σ1:St)(H1:Hp)(ht:∀D':Ends,D'.nx σ1 H1->t D' σ H)(h:u D σ1 H1):bC t u D σ H:=ht { D with nx:=u D } h
theorem Rows.drop{H H1 H2:Hp}{D C:Addr}{as:List Addr}{w k:Nat}{f:Nat->Nat->Int}(R:Rows H H1 D as w f)(hC:H1 C=none)(h2:H2=upd H1 C (.lst ((as.drop k).map V.ref))):Rows H H2 C (as.drop k) w (fun i=>f (k+i)):=by
 subst h2;refine⟨R.same.trans (Ao.new hC),R.same.free hC,Ae,fun j a e=>?_⟩;rw[List.getElem?_drop]at e;obtain⟨h1,h3,h4⟩:=R.row (k+j) a e;have ne:a≠C:=fun z=>by rw[z,hC]at h4;cases h4
 exact⟨h1,ne,by rw[As ne];exact h4⟩
theorem X4{n w:Nat}{i m:Nat}{d v:Nat->Int}{A:Lat.Mat}(h:Lat.Bent n w m d i A v)(hi:i<=12)(hn:n<=4)(hw:w<=5):El n w A (Zk n w (2 ^ 42) 1000000 188 A):=by
 have up:Lat.Mins n w A (2 ^ 42):=fun k r c hr hc=>qa1 (h.mins k r c hr hc) (qb9 (by decide) O9m);exact FG (Wu (E8 (E8 MO n O9m) w O9m)) (fun x y hx hy=>up.entry hx hy) up.dets
theorem AH{n w k F:Nat}{A:Lat.Mat}{f:Nat->Int}{l r:Lat.Mat × Lat.Mat}(h:Zk n w (2 ^ 42) F 188 A k f l r)(hw:w<=5)(kw:k<=w):El w (w-k) (fun c j=>r.1 (k+j) c) (Xy w (w-k) fun c j=>r.1 (k+j) c):=by
 have p:=Wu (E8 (E8 mO w O9m) (w-k) O9m);have b:∀c j,c<w->j<w-k->((fun c j=>r.1 (k+j) c) c j:Int).natAbs<=2 ^ 188:=fun c j hc hj=>h.sp (k+j) c O9m O9m hc
 have m:Lat.Mins w (w-k) (fun c j=>r.1 (k+j) c) (2 ^ 947):=Lat.mins_small b fun i h1 h2=>by
  have:i=0\/i=1\/i=2\/i=3\/i=4\/i=5:=O9m
  rcases this with rfl | rfl | rfl | rfl | rfl | rfl<;>decide +kernel
 exact(FG p b m.dets).mono fun _ _ _ _ z=>z.finE p.fb p.π9
section
variable(K:W.Frag)
noncomputable def Te:Sp:=fun vs H Q _=>∃(v:V) (n w:Nat) (A:Lat.Mat) (Fin:Nat->(Nat->Int)->Lat.Mat × Lat.Mat->Lat.Mat × Lat.Mat->Prop),vs=[v,.int (w:Int)]/\Rep K H v (dT n w A)/\n<=40/\w<=60/\El n w A Fin ∧
 ∀(k:Nat) (f:Nat->Int) (l r:Lat.Mat × Lat.Mat) (D:Addr) (as:List Addr) (H':Hp),Fin k f l r->k<=w->as.length=w-k->Rows H H' D as w (fun i=>r.1 (k+i))->Q (.ref D) H'
noncomputable def Nm:Sp:=fun vs H Q _=>∃(v:V) (a:Addr) (h w:Nat) (f:Lat.Mat) (x:Nat->Int),vs=[v,.ref a]/\Rep K H v (dT h w f)/\SqL K H a (VI w x)/\h<=60/\w<=60/\(∀i k,i<h->k<w->IntMulOk (f i k) (x k)) ∧
 ∀(L:Addr) (H':Hp),Ao H H'->H' L=some (.lst (VI h (Lat.mulV w f x)))->Q (.ref L) H'
noncomputable def Wh:Sp:=fun vs H Q _=>∃(a:Addr) (u:V) (w:Nat) (x:Nat->Int) (t:Tn),vs=[.ref a,u]/\SqL K H a (VI w x)/\Rep K H u (Y7 t)/\K9 w t/\tB 2 t/\w<=60/\(∀c,(x c).natAbs<=2 ^ 60) ∧
 ∀(L:Addr) (H':Hp),Ao H H'->H' L=some (.lst (VI w (Lat.listT t x)))->Q (.ref L) H'
noncomputable def Qg:Sp:=fun vs H Q _=>∃(v u:V) (n w m:Nat) (A S:Lat.Mat),vs=[v,u,.int (w:Int),.int (m:Int)]/\Rep K H v (dT (w-m) w S)/\Rep K H u (dT n w A)/\n<=60/\w<=60/\m<=w/\(∀i j c,i<n->j<w-m->c<w->IntMulOk (A i c) (S j c))/\(∀j,j<w-m->∀i,i<n->Lat.mulV w A (S j) i=0)/\∀H',Ao H H'->Q (.bl true) H'
noncomputable def Tf:Sp:=fun vs H Q _=>∃(a:Addr) (ns:List Int) (h w m:Nat),vs=[.ref a,.int (h:Int),.int (w:Int),.int (m:Int)]/\SqL K H a (ns.map V.int)/\ns.length<=63/\(∀x∈ns,x.natAbs<2 ^ Fz)/\m<=h/\m<=w/\m<=3/\h<=4/\w<=5 ∧
 ∀(tp L:Addr) (rv:V) (A:Lat.Mat) (v d:Nat->Int) (H':Hp),Ao H H'->Du K H' tp [rv,.ref L]->Rep K H' rv (dT h w A)->SqL K H' L (VI w v)->Lat.Bent h w m d 12 A v->(∀x,x<m->0<d x)->Q (.ref tp) H'
end
theorem Hv{S:St}{p0:Hp->Prop}{G:St->Hp->Prop}(k:∀H,p0 H->G S H):∀σ H,(σ=S/\p0 H)->G σ H:=by
 rintro _ H ⟨rfl,h0⟩;exact k H h0
theorem S6{S:St}{p0 p1:Hp->Prop}{G:St->Hp->Prop}(k:∀H,p0 H->p1 H->G S H):∀σ H,(σ=S/\p0 H/\p1 H)->G σ H:=by
 rintro _ H ⟨rfl,h0,h1⟩;exact k H h0 h1
theorem AY{A0:Type}{S:A0->St}{p0:A0->Hp->Prop}{G:St->Hp->Prop}(k:∀x0 H,p0  x0 H->G (S x0) H):∀σ H,(∃x0,σ=S x0/\p0 x0 H)->G σ H:=by
 rintro _ H ⟨x0,rfl,h0⟩;exact k x0 H h0
theorem aY{A0:Type}{S:A0->St}{p0 p1:A0->Hp->Prop}{G:St->Hp->Prop}(k:∀x0 H,p0  x0 H->p1  x0 H->G (S x0) H):∀σ H,(∃x0,σ=S x0/\p0 x0 H/\p1 x0 H)->G σ H:=by
 rintro _ H ⟨x0,rfl,h0,h1⟩;exact k x0 H h0 h1
theorem AX{A0:Type}{S:A0->St}{p0 p1 p2:A0->Hp->Prop}{G:St->Hp->Prop}(k:∀x0 H,p0  x0 H->p1  x0 H->p2  x0 H->G (S x0) H):∀σ H,(∃x0,σ=S x0/\p0 x0 H/\p1 x0 H/\p2 x0 H)->G σ H:=by
 rintro _ H ⟨x0,rfl,h0,h1,h2⟩;exact k x0 H h0 h1 h2
theorem Zn{A0:Type}{S:A0->St}{p0 p1 p2 p3 p4 p5:A0->Hp->Prop}{G:St->Hp->Prop}(k:∀x0 H,p0  x0 H->p1  x0 H->p2  x0 H->p3  x0 H->p4  x0 H->p5  x0 H->G (S x0) H):∀σ H,(∃x0,σ=S x0/\p0 x0 H/\p1 x0 H/\p2 x0 H/\p3 x0 H/\p4 x0 H/\p5 x0 H)->G σ H:=by
 rintro _ H ⟨x0,rfl,h0,h1,h2,h3,h4,h5⟩;exact k x0 H h0 h1 h2 h3 h4 h5
theorem fC{A0 A1:Type}{S:A0->A1->St}{p0:A0->A1->Hp->Prop}{G:St->Hp->Prop}(k:∀x0 x1 H,p0  x0 x1 H->G (S x0 x1) H):∀σ H,(∃x0 x1,σ=S x0 x1/\p0 x0 x1 H)->G σ H:=by
 rintro _ H ⟨x0,x1,rfl,h0⟩;exact k x0 x1 H h0
theorem aX{A0 A1:Type}{S:A0->A1->St}{p0 p1:A0->A1->Hp->Prop}{G:St->Hp->Prop}(k:∀x0 x1 H,p0  x0 x1 H->p1  x0 x1 H->G (S x0 x1) H):∀σ H,(∃x0 x1,σ=S x0 x1/\p0 x0 x1 H/\p1 x0 x1 H)->G σ H:=by
 rintro _ H ⟨x0,x1,rfl,h0,h1⟩;exact k x0 x1 H h0 h1
theorem AW{A0 A1:Type}{S:A0->A1->St}{p0 p1 p2 p3:A0->A1->Hp->Prop}{G:St->Hp->Prop}(k:∀x0 x1 H,p0  x0 x1 H->p1  x0 x1 H->p2  x0 x1 H->p3  x0 x1 H->G (S x0 x1) H):∀σ H,(∃x0 x1,σ=S x0 x1/\p0 x0 x1 H/\p1 x0 x1 H/\p2 x0 x1 H/\p3 x0 x1 H)->G σ H:=by
 rintro _ H ⟨x0,x1,rfl,h0,h1,h2,h3⟩;exact k x0 x1 H h0 h1 h2 h3
theorem aW{A0 A1 A2:Type}{S:A0->A1->A2->St}{p0 p1:A0->A1->A2->Hp->Prop}{G:St->Hp->Prop}(k:∀x0 x1 x2 H,p0  x0 x1 x2 H->p1  x0 x1 x2 H->G (S x0 x1 x2) H):∀σ H,(∃x0 x1 x2,σ=S x0 x1 x2/\p0 x0 x1 x2 H/\p1 x0 x1 x2 H)->G σ H:=by
 rintro _ H ⟨x0,x1,x2,rfl,h0,h1⟩;exact k x0 x1 x2 H h0 h1
theorem jA{A0 A1 A2:Type}{S:A0->A1->A2->St}{p0 p1 p2:A0->A1->A2->Hp->Prop}{G:St->Hp->Prop}(k:∀x0 x1 x2 H,p0  x0 x1 x2 H->p1  x0 x1 x2 H->p2  x0 x1 x2 H->G (S x0 x1 x2) H):∀σ H,(∃x0 x1 x2,σ=S x0 x1 x2/\p0 x0 x1 x2 H/\p1 x0 x1 x2 H/\p2 x0 x1 x2 H)->G σ H:=by
 rintro _ H ⟨x0,x1,x2,rfl,h0,h1,h2⟩;exact k x0 x1 x2 H h0 h1 h2
theorem IZ{A0 A1 A2:Type}{S:A0->A1->A2->St}{p0 p1 p2 p3 p4:A0->A1->A2->Hp->Prop}{G:St->Hp->Prop}(k:∀x0 x1 x2 H,p0  x0 x1 x2 H->p1  x0 x1 x2 H->p2  x0 x1 x2 H->p3  x0 x1 x2 H->p4  x0 x1 x2 H->G (S x0 x1 x2) H):∀σ H,(∃x0 x1 x2,σ=S x0 x1 x2/\p0 x0 x1 x2 H/\p1 x0 x1 x2 H/\p2 x0 x1 x2 H/\p3 x0 x1 x2 H/\p4 x0 x1 x2 H)->G σ H:=by
 rintro _ H ⟨x0,x1,x2,rfl,h0,h1,h2,h3,h4⟩;exact k x0 x1 x2 H h0 h1 h2 h3 h4
theorem iZ{A0 A1 A2 A3:Type}{S:A0->A1->A2->A3->St}{p0:A0->A1->A2->A3->Hp->Prop}{G:St->Hp->Prop}(k:∀x0 x1 x2 x3 H,p0  x0 x1 x2 x3 H->G (S x0 x1 x2 x3) H):∀σ H,(∃x0 x1 x2 x3,σ=S x0 x1 x2 x3/\p0 x0 x1 x2 x3 H)->G σ H:=by
 rintro _ H ⟨x0,x1,x2,x3,rfl,h0⟩;exact k x0 x1 x2 x3 H h0
theorem IY{A0 A1 A2 A3:Type}{S:A0->A1->A2->A3->St}{p0 p1 p2:A0->A1->A2->A3->Hp->Prop}{G:St->Hp->Prop}(k:∀x0 x1 x2 x3 H,p0  x0 x1 x2 x3 H->p1  x0 x1 x2 x3 H->p2  x0 x1 x2 x3 H->G (S x0 x1 x2 x3) H):∀σ H,(∃x0 x1 x2 x3,σ=S x0 x1 x2 x3/\p0 x0 x1 x2 x3 H/\p1 x0 x1 x2 x3 H/\p2 x0 x1 x2 x3 H)->G σ H:=by
 rintro _ H ⟨x0,x1,x2,x3,rfl,h0,h1,h2⟩;exact k x0 x1 x2 x3 H h0 h1 h2
theorem iY{A0 A1 A2 A3:Type}{S:A0->A1->A2->A3->St}{p0 p1 p2 p3 p4:A0->A1->A2->A3->Hp->Prop}{G:St->Hp->Prop}(k:∀x0 x1 x2 x3 H,p0  x0 x1 x2 x3 H->p1  x0 x1 x2 x3 H->p2  x0 x1 x2 x3 H->p3  x0 x1 x2 x3 H->p4  x0 x1 x2 x3 H->G (S x0 x1 x2 x3) H):∀σ H,(∃x0 x1 x2 x3,σ=S x0 x1 x2 x3/\p0 x0 x1 x2 x3 H/\p1 x0 x1 x2 x3 H/\p2 x0 x1 x2 x3 H/\p3 x0 x1 x2 x3 H/\p4 x0 x1 x2 x3 H)->G σ H:=by
 rintro _ H ⟨x0,x1,x2,x3,rfl,h0,h1,h2,h3,h4⟩;exact k x0 x1 x2 x3 H h0 h1 h2 h3 h4
theorem IX{A0 A1 A2 A3 A4:Type}{S:A0->A1->A2->A3->A4->St}{p0 p1 p2:A0->A1->A2->A3->A4->Hp->Prop}{G:St->Hp->Prop}(k:∀x0 x1 x2 x3 x4 H,p0  x0 x1 x2 x3 x4 H->p1  x0 x1 x2 x3 x4 H->p2  x0 x1 x2 x3 x4 H->G (S x0 x1 x2 x3 x4) H):∀σ H,(∃x0 x1 x2 x3 x4,σ=S x0 x1 x2 x3 x4/\p0 x0 x1 x2 x3 x4 H/\p1 x0 x1 x2 x3 x4 H/\p2 x0 x1 x2 x3 x4 H)->G σ H:=by
 rintro _ H ⟨x0,x1,x2,x3,x4,rfl,h0,h1,h2⟩;exact k x0 x1 x2 x3 x4 H h0 h1 h2
theorem iX{A0 A1 A2 A3 A4:Type}{S:A0->A1->A2->A3->A4->St}{p0 p1 p2 p3 p4:A0->A1->A2->A3->A4->Hp->Prop}{G:St->Hp->Prop}(k:∀x0 x1 x2 x3 x4 H,p0  x0 x1 x2 x3 x4 H->p1  x0 x1 x2 x3 x4 H->p2  x0 x1 x2 x3 x4 H->p3  x0 x1 x2 x3 x4 H->p4  x0 x1 x2 x3 x4 H->G (S x0 x1 x2 x3 x4) H):∀σ H,(∃x0 x1 x2 x3 x4,σ=S x0 x1 x2 x3 x4/\p0 x0 x1 x2 x3 x4 H/\p1 x0 x1 x2 x3 x4 H/\p2 x0 x1 x2 x3 x4 H/\p3 x0 x1 x2 x3 x4 H/\p4 x0 x1 x2 x3 x4 H)->G σ H:=by
 rintro _ H ⟨x0,x1,x2,x3,x4,rfl,h0,h1,h2,h3,h4⟩;exact k x0 x1 x2 x3 x4 H h0 h1 h2 h3 h4
theorem IW{A0 A1 A2 A3 A4 A5:Type}{S:A0->A1->A2->A3->A4->A5->St}{p0 p1 p2 p3:A0->A1->A2->A3->A4->A5->Hp->Prop}{G:St->Hp->Prop}(k:∀x0 x1 x2 x3 x4 x5 H,p0  x0 x1 x2 x3 x4 x5 H->p1  x0 x1 x2 x3 x4 x5 H->p2  x0 x1 x2 x3 x4 x5 H->p3  x0 x1 x2 x3 x4 x5 H->G (S x0 x1 x2 x3 x4 x5) H):∀σ H,(∃x0 x1 x2 x3 x4 x5,σ=S x0 x1 x2 x3 x4 x5/\p0 x0 x1 x2 x3 x4 x5 H/\p1 x0 x1 x2 x3 x4 x5 H/\p2 x0 x1 x2 x3 x4 x5 H/\p3 x0 x1 x2 x3 x4 x5 H)->G σ H:=by
 rintro _ H ⟨x0,x1,x2,x3,x4,x5,rfl,h0,h1,h2,h3⟩;exact k x0 x1 x2 x3 x4 x5 H h0 h1 h2 h3
theorem fB{A0 A1 A2 A3 A4 A5 A6 A7:Type}{S:A0->A1->A2->A3->A4->A5->A6->A7->St}{p0 p1 p2 p3 p4 p5 p6 p7:A0->A1->A2->A3->A4->A5->A6->A7->Hp->Prop}{G:St->Hp->Prop}(k:∀x0 x1 x2 x3 x4 x5 x6 x7 H,p0  x0 x1 x2 x3 x4 x5 x6 x7 H->p1  x0 x1 x2 x3 x4 x5 x6 x7 H->p2  x0 x1 x2 x3 x4 x5 x6 x7 H->p3  x0 x1 x2 x3 x4 x5 x6 x7 H->p4  x0 x1 x2 x3 x4 x5 x6 x7 H->p5  x0 x1 x2 x3 x4 x5 x6 x7 H->p6  x0 x1 x2 x3 x4 x5 x6 x7 H->p7  x0 x1 x2 x3 x4 x5 x6 x7 H->G (S x0 x1 x2 x3 x4 x5 x6 x7) H):∀σ H,(∃x0 x1 x2 x3 x4 x5 x6 x7,σ=S x0 x1 x2 x3 x4 x5 x6 x7/\p0 x0 x1 x2 x3 x4 x5 x6 x7 H/\p1 x0 x1 x2 x3 x4 x5 x6 x7 H/\p2 x0 x1 x2 x3 x4 x5 x6 x7 H/\p3 x0 x1 x2 x3 x4 x5 x6 x7 H/\p4 x0 x1 x2 x3 x4 x5 x6 x7 H/\p5 x0 x1 x2 x3 x4 x5 x6 x7 H/\p6 x0 x1 x2 x3 x4 x5 x6 x7 H/\p7 x0 x1 x2 x3 x4 x5 x6 x7 H)->G σ H:=by
 rintro _ H ⟨x0,x1,x2,x3,x4,x5,x6,x7,rfl,h0,h1,h2,h3,h4,h5,h6,h7⟩;exact k x0 x1 x2 x3 x4 x5 x6 x7 H h0 h1 h2 h3 h4 h5 h6 h7
theorem iW{A0 A1 A2 A3 A4 A5 A6 A7 A8:Type}{S:A0->A1->A2->A3->A4->A5->A6->A7->A8->St}{p0 p1 p2:A0->A1->A2->A3->A4->A5->A6->A7->A8->Hp->Prop}{G:St->Hp->Prop}(k:∀x0 x1 x2 x3 x4 x5 x6 x7 x8 H,p0  x0 x1 x2 x3 x4 x5 x6 x7 x8 H->p1  x0 x1 x2 x3 x4 x5 x6 x7 x8 H->p2  x0 x1 x2 x3 x4 x5 x6 x7 x8 H->G (S x0 x1 x2 x3 x4 x5 x6 x7 x8) H):∀σ H,(∃x0 x1 x2 x3 x4 x5 x6 x7 x8,σ=S x0 x1 x2 x3 x4 x5 x6 x7 x8/\p0 x0 x1 x2 x3 x4 x5 x6 x7 x8 H/\p1 x0 x1 x2 x3 x4 x5 x6 x7 x8 H/\p2 x0 x1 x2 x3 x4 x5 x6 x7 x8 H)->G σ H:=by
 rintro _ H ⟨x0,x1,x2,x3,x4,x5,x6,x7,x8,rfl,h0,h1,h2⟩;exact k x0 x1 x2 x3 x4 x5 x6 x7 x8 H h0 h1 h2
theorem GB{A0 A1 A2 A3 A4 A5 A6 A7 A8 A9:Type}{S:A0->A1->A2->A3->A4->A5->A6->A7->A8->A9->St}{p0 p1 p2 p3:A0->A1->A2->A3->A4->A5->A6->A7->A8->A9->Hp->Prop}{G:St->Hp->Prop}(k:∀x0 x1 x2 x3 x4 x5 x6 x7 x8 x9 H,p0  x0 x1 x2 x3 x4 x5 x6 x7 x8 x9 H->p1  x0 x1 x2 x3 x4 x5 x6 x7 x8 x9 H->p2  x0 x1 x2 x3 x4 x5 x6 x7 x8 x9 H->p3  x0 x1 x2 x3 x4 x5 x6 x7 x8 x9 H->G (S x0 x1 x2 x3 x4 x5 x6 x7 x8 x9) H):∀σ H,(∃x0 x1 x2 x3 x4 x5 x6 x7 x8 x9,σ=S x0 x1 x2 x3 x4 x5 x6 x7 x8 x9/\p0 x0 x1 x2 x3 x4 x5 x6 x7 x8 x9 H/\p1 x0 x1 x2 x3 x4 x5 x6 x7 x8 x9 H/\p2 x0 x1 x2 x3 x4 x5 x6 x7 x8 x9 H/\p3 x0 x1 x2 x3 x4 x5 x6 x7 x8 x9 H)->G σ H:=by
 rintro _ H ⟨x0,x1,x2,x3,x4,x5,x6,x7,x8,x9,rfl,h0,h1,h2,h3⟩;exact k x0 x1 x2 x3 x4 x5 x6 x7 x8 x9 H h0 h1 h2 h3
theorem aZ{A0 A1 A2 A3 A4 A5 A6 A7 A8 A9:Type}{S:A0->A1->A2->A3->A4->A5->A6->A7->A8->A9->St}{p0 p1 p2 p3 p4:A0->A1->A2->A3->A4->A5->A6->A7->A8->A9->Hp->Prop}{G:St->Hp->Prop}(k:∀x0 x1 x2 x3 x4 x5 x6 x7 x8 x9 H,p0  x0 x1 x2 x3 x4 x5 x6 x7 x8 x9 H->p1  x0 x1 x2 x3 x4 x5 x6 x7 x8 x9 H->p2  x0 x1 x2 x3 x4 x5 x6 x7 x8 x9 H->p3  x0 x1 x2 x3 x4 x5 x6 x7 x8 x9 H->p4  x0 x1 x2 x3 x4 x5 x6 x7 x8 x9 H->G (S x0 x1 x2 x3 x4 x5 x6 x7 x8 x9) H):∀σ H,(∃x0 x1 x2 x3 x4 x5 x6 x7 x8 x9,σ=S x0 x1 x2 x3 x4 x5 x6 x7 x8 x9/\p0 x0 x1 x2 x3 x4 x5 x6 x7 x8 x9 H/\p1 x0 x1 x2 x3 x4 x5 x6 x7 x8 x9 H/\p2 x0 x1 x2 x3 x4 x5 x6 x7 x8 x9 H/\p3 x0 x1 x2 x3 x4 x5 x6 x7 x8 x9 H/\p4 x0 x1 x2 x3 x4 x5 x6 x7 x8 x9 H)->G σ H:=by
 rintro _ H ⟨x0,x1,x2,x3,x4,x5,x6,x7,x8,x9,rfl,h0,h1,h2,h3,h4⟩;exact k x0 x1 x2 x3 x4 x5 x6 x7 x8 x9 H h0 h1 h2 h3 h4
theorem Hw{S:St}{G:St->Hp->Prop}{H0:Hp}(k:G S H0):∀σ H,(σ=S/\H0=H)->G σ H:=by
 rintro _ _ ⟨rfl,rfl⟩;exact k
theorem jB{A0:Type}{S:A0->St}{G:St->Hp->Prop}{H0:Hp}(k:∀x0,G (S x0) H0):∀σ H,(∃x0,σ=S x0/\H0=H)->G σ H:=by
 rintro _ _ ⟨x0,rfl,rfl⟩;exact k x0
theorem JA{A0:Type}{S:A0->St}{p0 p1 p2:A0->Hp->Prop}{G:St->Hp->Prop}{H0:Hp}(k:∀x0,p0  x0 H0->p1  x0 H0->p2  x0 H0->G (S x0) H0):∀σ H,(∃x0,σ=S x0/\H0=H/\p0 x0 H/\p1 x0 H/\p2 x0 H)->G σ H:=by
 rintro _ _ ⟨x0,rfl,rfl,h0,h1,h2⟩;exact k x0 h0 h1 h2
end Hb
namespace L2
open PySem PySem.Spec PyProof.Rows
section
variable{P:Program}{w:World}{K:W.Frag}{mg:Str->Option Value}{base:Heap}{ds:List Value}
end
end L2
namespace L2
open PySem PySem.Spec PyProof.Rows PySem.W
section
variable{X:Cx}{J:XJ}{j k:Nat}{C:Addr}{ps:List Str}{sp:Sp}{m:Str}{pos apos:Pos}{e o:Expr}{es:List Expr}{ta:TE}{t:TA}
end
section
variable{P:Program}{w:World}{K:Frag}{mg:Str->Option Value}{base:Heap}{ds:List Value}
end
section
variable{X:Cx}{J:XJ}{j k:Nat}{C:Addr}{ps:List Str}{dvs:List V}{sp:Sp}{m x:Str}{p pos apos:Pos}{e o:Expr}{es:List Expr}{ta:TE}{t:TA}
end
end L2
namespace L2
open PySem PySem.Spec PyProof.Rows
noncomputable def Dt(K:W.Frag)(n:Str)(st:Stmt):Prop:=∃(f:Addr) (fd:FuncData),W.nsIn K mainGlobals n=some (some (.ref f))/\Fb K n n st f fd
noncomputable def Pj(K:W.Frag)(C:Addr)(n q:Str)(st:Stmt):Prop:=∃(f:Addr) (fd:FuncData),W.findIn K (.ref C) n=some (some (.ref f))/\W.isFn K (.ref f)=true/\Fb K n q st f fd
noncomputable def BA(x q:Str)(st:Stmt)(ps:List Str):Prop:=∀(kV doc pm:Value) (an:OAddr) (Dp ct:Value) (us:List Value),us.length=ps.length->bindArgs (W.fnOf x q (Ft st) (E6 st) (Ar st) .none kV doc pm an Dp ct) ⟨us,[]⟩=pure (ps.zip us)
section
variable{P:Program}{w:World}{K:W.Frag}{mg:Str->Option Value}{base h:Heap}
theorem Bv(X:K.In h)(G:h.Ns mainGlobals mg){n:Str}{st:Stmt}{ps:List Str}{k:Nat}{sp:Sp}(d:Dt K n st)(ok:∀{f fd},Fb K n n st f fd->By P w K mg base Ex k f fd ps sp)(hb:BA n n st ps):Has P w K mg base n ps k sp:=by
 obtain⟨f,fd,a,F⟩:=d;exact⟨_,_,W.mg_of X G a,F.kp,F.binds hb,ok F⟩
theorem Hg{C:Addr}{n q:Str}{st:Stmt}{ps:List Str}{k:Nat}{sp:Sp}(d:Pj K C n q st)(ok:∀{f fd},Fb K n q st f fd->By P w K mg base Ex k f fd ps sp)(hb:BA n q st ps):G8 P w K mg base C n ps k sp:=by
 obtain⟨f,fd,a,b,F⟩:=d;exact⟨_,_,⟨a,b,F.kp⟩,F.binds hb,ok F⟩
theorem b6{C:Addr}{q:Str}{st:Stmt}{ps:List Str}{k:Nat}{sp:Sp}(m:PySem.W.makesIn K C=true)(kc:W.keepIn K (.ref C)=true)(d:Pj K C "__init__" q st)(ok:∀{f fd},Fb K "__init__" q st f fd->By P w K mg base Ex k f fd ps sp)(hb:BA "__init__" q st ps):Zi P w K mg base C ps k sp:=by
 obtain⟨f,fd,a,b,F⟩:=d;exact⟨_,_,⟨m,a,b,kc⟩,F.binds hb,ok F⟩
end
end L2
namespace Hb
open PySem L2
noncomputable def top(i:Nat):Stmt:=PySem.Challenge.pw_holebook_k30_whole_spare_lists.main.body.getD i (.Pass ⟨0,0,0,0⟩)
structure Ga(K:W.Frag)(mg:Str->Option Value)(Ad Ab Ag:Addr):Prop where
 m_Lines:mg "Lines"=some (.ref Ad)
 cl_Lines:Cls K Ad
 na_Lines_rows:NoAttr K Ad "rows"
 na_Lines_backs:NoAttr K Ad "backs"
 m_Stairs:mg "Stairs"=some (.ref Ab)
 cl_Stairs:Cls K Ab
 na_Stairs_rows:NoAttr K Ab "rows"
 na_Stairs_backs:NoAttr K Ab "backs"
 na_Stairs_starts:NoAttr K Ab "starts"
 m_Work:mg "Work"=some (.ref Ag)
 cl_Work:Cls K Ag
 na_Work_table:NoAttr K Ag "table"
 na_Work_width:NoAttr K Ag "width"
 na_Work_left:NoAttr K Ag "left"
 na_Work_right:NoAttr K Ag "right"
 na_Work_numbers:NoAttr K Ag "numbers"
 x_GAPS:∃a,mg "GAPS"=some (.ref a)/\∀H,Du K H a (([32,16,8,4,2]:List Int).map V.int)
 x_MOST_ROWS:∃t,mg "MOST_ROWS"=some (.int 40 t)
 n_isinstance:mg "isinstance"=none
 n_int:mg "int"=none
 n_bool:mg "bool"=none
 n_tuple:mg "tuple"=none
 n_zip:mg "zip"=none
 n_all:mg "all"=none
 n_list:mg "list"=none
 n_len:mg "len"=none
 n_range:mg "range"=none
 n_sum:mg "sum"=none
 n_min:mg "min"=none
 n_enumerate:mg "enumerate"=none
 n_any:mg "any"=none
noncomputable def Y8(ns:List Int)(lo hi:Option Int):List Int:=(ns.drop (HT.sIx ns.length 0 lo)).take (HT.sIx ns.length ns.length hi-HT.sIx ns.length 0 lo)
theorem CK(ns:List Int)(lo hi:Option Int):Md (ns.map V.int) lo hi=(Y8 ns lo hi).map V.int:=by
 unfold Md Y8;rw[qa3,List.map_take,List.map_drop]
theorem cL{ns:List Int}{lo hi:Option Int}{x:Int}(h:x∈Y8 ns lo hi):x∈ns:=List.mem_of_mem_drop (List.mem_of_mem_take h)
theorem KS(ns:List Int):(Y8 ns (some 9) (some 21)).length<=12:=by
 unfold Y8;have e1:HT.sIx ns.length 0 (some 9)=min 9 ns.length:=HT.sIx_nat _ _ 9;have e2:HT.sIx ns.length ns.length (some 21)=min 21 ns.length:=HT.sIx_nat _ _ 21;rw[e1,e2,qg0,qi3];omega
theorem BS:(["number"]:List Str).Nodup:=by decide +kernel
theorem FL:(["old","new","quotient"]:List Str).Nodup:=by decide +kernel
theorem bQ:(["row","width"]:List Str).Nodup:=by decide +kernel
theorem jW:(["j","table"]:List Str).Nodup:=by decide +kernel
theorem JV:(["row","j"]:List Str).Nodup:=by decide +kernel
theorem jV:(["i","size"]:List Str).Nodup:=by decide +kernel
theorem JU:(["j","i"]:List Str).Nodup:=by decide +kernel
theorem jU:(["row","numbers"]:List Str).Nodup:=by decide +kernel
theorem fK:(["one","other"]:List Str).Nodup:=by decide +kernel
theorem FJ:(["left","right","a","b"]:List Str).Nodup:=by decide +kernel
theorem bS:(["row","paper"]:List Str).Nodup:=by decide +kernel
theorem BR:(["j","number","i"]:List Str).Nodup:=by decide +kernel
theorem bR:(["value","number"]:List Str).Nodup:=by decide +kernel
theorem gU:(["_law_row"]:List Str).Nodup:=by decide +kernel
theorem gT:(["_law_row","_law_j"]:List Str).Nodup:=by decide +kernel
theorem GS:(["_law_number"]:List Str).Nodup:=by decide +kernel
theorem BQ:(["_law_number","_law_more","_law_turn"]:List Str).Nodup:=by decide +kernel
section
variable{P:Program}{w:World}{K:W.Frag}{mg:Str->Option Value}{base:Heap}{Ad Ab Ag:Addr}
noncomputable abbrev Lu:Stmt:=top 4
theorem Wn:FnScope ["thing"] ["thing"] (Ar Lu):=Bn
theorem Wx{f:Addr}{fd:FuncData}(F:Fb K "is_whole" "is_whole" Lu f fd)(T:Ga K mg Ad Ab Ag) :By P w K mg base Ex 1 f fd ["thing"] (Jx K):=by
 refine F.ok Wn (fun vs H Q E h=>?_) (fun Dp A outer s H vs Q E hr h=>?_)
 . obtain⟨_,_,rfl,_⟩:=h;rfl
 . obtain⟨x,d,rfl,hx,k⟩:=h;refine⟨_,(Ak (Bh (Q2 (Bf (C6 (K:=K)) T.n_isinstance Cd (Aa (pv 0) (Aa (Hd (v:=.ty "int") rfl T.n_int boot_intT rfl) Ai))) (Uw (BK (Bf (C6 (K:=K)) T.n_isinstance Cd (Aa (pv 0) (Aa (Hd (v:=.ty "bool") rfl T.n_bool Rx rfl) Ai)))))))),?_⟩;refine⟨_,rfl,_,_,d,rfl,.inl rfl,hx,_,rfl,?_⟩;refine ite2 (fun e=>?_) (fun e=>?_)
   . refine⟨_,rfl,_,_,d,rfl,.inr (.inl rfl),hx,_,rfl,?_⟩;have e2:Hj d=!Yt "bool" d:=by unfold Hj;rw[e];rfl
     rw[e2]at k;exact k
   . have e2:Hj d=false:=by unfold Hj;simp[e]
     rw[e2]at k;exact k
noncomputable abbrev Fj:Stmt:=top 5
theorem Ce:FnScope ["one","other","last","now","quotient","rest"] ["one","other"] (Ar Fj):=Bn
theorem Mw{f:Addr}{fd:FuncData}(F:Fb K "shared_divisor" "shared_divisor" Fj f fd)(T:Ga K mg Ad Ab Ag) :By P w K mg base Ex 1 f fd ["one","other"] (Ox K):=by
 refine F.ok Ce (fun vs H Q E h=>?_) (fun Dp A outer s H vs Q E hr h=>?_)
 . obtain⟨_,_,rfl,_⟩:=h;rfl
 . obtain⟨n,p,rfl,hA,hB,lA,lB,k⟩:=h
   refine⟨_,(Af (Au (i:=2) Ce.nd (E2 (Aa (pv 0) (Aa An (Aa An Ai)))))
    (Af (Au (i:=3) Ce.nd (E2 (Aa (pv 1) (Aa An (Aa An Ai)))))
    (Af (Ms qc3 (Bo Mv (Aw (Be (K:=K)) (pv 3) An (fun _ _=>rfl)) An (Bq _)) (Af (Au (i:=4) Ce.nd (Bg Fx (Aw (Be (K:=K)) (pv 2) An (fun _ _=>rfl)) (Aw (Be (K:=K)) (pv 3) An (fun _ _=>rfl))))
    (Af (Au (i:=5) Ce.nd (D7 (Ki (K:=K)) (by rfl) T.n_tuple O9 (Aa (Co (N':=["old","new","quotient"]) (cap:=[none,none,some 4]) (by rfl) (by kernel_rfl) (dQ (K:=K) (by rfl) T.n_zip (Aa (pv 2) (Aa (pv 3) Ai))) (fun _ _ _ _=>(Fs (K:=K) (n:=2) (by rfl) (Cc (Ax (i:=0) FL) (Cc (Ax (i:=1) FL) Fq)))) (fun _ _ _ _=>Cn) (fun _ _ _ _=>(Bg Ho (pv 0) (Bg Dh (pv 2) (pv 1))))) Ai)))
    (Af (Au (i:=2) Ce.nd (pv 3))
    (Ak (Au (i:=3) Ce.nd (pv 5)))))))
    (Af (Ci (Bo Q4 (Aw (Be (K:=K)) (pv 2) An (fun _ _=>rfl)) An (Bq _)) (Ak (Bh (D7 (Ki (K:=K)) (by rfl) T.n_tuple O9 (Aa (Co (N':=["number"]) (cap:=[none]) (by rfl) (by kernel_rfl) (Z9 (K:=K) (pv 2)) (fun _ _ _ _=>(Ax (i:=0) BS)) (fun _ _ _ _=>Cn) (fun _ _ _ _=>(Jo F0 (pv 0)))) Ai)))) Br)
    (Ak (Bh (pv 2))))))),?_⟩
   refine⟨_,rfl,Cp (by simp),fun L0 SE=>?_⟩;have s0:Ao H (upd H L0 (.tup [.int n,.int 1,.int 0])):=Ao.new SE;refine⟨_,rfl,Cp (by simp),fun N0 sA=>?_⟩;have s1:Ao (upd H L0 (.tup [.int n,.int 1,.int 0])) (upd (upd H L0 (.tup [.int n,.int 1,.int 0])) N0 (.tup [.int p,.int 0,.int 1])):=Ao.new sA;refine Fe (fun σ' H'=>σ'=[iS n,iS p,rS L0,rS N0,none,none]/\H'=upd (upd H L0 (.tup [.int n,.int 1,.int 0])) N0 (.tup [.int p,.int 0,.int 1])) ?_ fun Oc=>Oc _ _ ⟨rfl,rfl⟩;rintro _ _ ⟨rfl,rfl⟩;refine qp8 (fun σ' H'=>∃(L N:Addr) (a x y u v:Int) (o4 o5:Option V),σ'=[iS n,iS p,rS L,rS N,o4,o5]/\Ao H H'/\Du K H' L [.int a,.int x,.int y]/\Lat.EuI n p a x y 0 u v) (fun key=>?_) ?_
   . refine⟨fun m σ G=>∃(L N:Addr) (a x y b u v:Int) (o4 o5:Option V),σ=[iS n,iS p,rS L,rS N,o4,o5]/\Ao H G/\Du K G L [.int a,.int x,.int y]/\Du K G N [.int b,.int u,.int v]/\Lat.EuI n p a x y b u v/\a.natAbs<L9/\b.natAbs<L9/\m=b.natAbs,⟨_,L0,N0,n,1,0,p,0,1,none,none,rfl,s0.trans s1,.of (s1 _ _ Ae),.of Ae,Lat.EuI.start hA hB,lA,lB,rfl⟩,?_⟩;rintro m σ G ⟨L,N,a,x,y,b,u,v,o4,o5,rfl,s2,hL,hN,hE,la,lb,rfl⟩;refine⟨_,rfl,N,_,_,_,rfl,rfl,hN,rfl,rfl,_,rfl,?_⟩;refine ite2 (fun h1=>?_) (fun h1=>?_)
     . have hb0:¬b=0:=by simpa using h1
       obtain⟨Vl,hlt⟩:=hE.step hA hb0;obtain⟨_,_,_,_,lu,lv⟩:=hE.all hA hB
       have lq:(a.fdiv b).natAbs<L9:=by
        refine qa7 ?_ la;have h3:(a.fdiv b*b).natAbs<=a.natAbs+(a-a.fdiv b*b).natAbs:=O9m
        rw[qa4]at h3;have h4:0<b.natAbs:=Int.natAbs_pos.mpr hb0;refine qe9 fun h5=>?_;have h6:=qb1 b.natAbs (show a.natAbs+1<=(a.fdiv b).natAbs from h5);rw[qd3,qd1]at h6;have h7:=qc5 a.natAbs h4;omega
       have ok:∀z:Int,z.natAbs<L9->IntMulOk (a.fdiv b) z:=fun z hz=>U7 lq hz;refine⟨fun σ' G'=>∃(L N:Addr) (a' x y b' u v:Int) (o4 o5:Option V),σ'=[iS n,iS p,rS L,rS N,o4,o5]/\Ao H G'/\Du K G' L [.int a',.int x,.int y]/\Du K G' N [.int b',.int u,.int v]/\Lat.EuI n p a' x y b' u v/\a'.natAbs<L9/\b'.natAbs<L9/\b'.natAbs<b.natAbs,?_,?_⟩
       . rintro σ' G' ⟨L',N',a',x',y',b',u',v',qW,LK,rfl,q1,q2,q3,q4,q5,q6,q7⟩;exact⟨b'.natAbs,q7,L',N',a',x',y',b',u',v',qW,LK,rfl,q1,q2,q3,q4,q5,q6,rfl⟩
       refine⟨_,rfl,L,_,_,_,rfl,rfl,hL,rfl,_,rfl,N,_,_,_,rfl,rfl,hN,rfl,_,_,rfl,rfl,Nh.of9 hb0 lb,?_⟩;refine⟨_,rfl,_,rfl,L,N,rfl,⟨_,hL⟩,⟨_,hN⟩,fun D hD=>?_⟩
       have gv:∀(i:Nat) (e f:V),([.int a,.int x,.int y]:List V)[i]?=some e->([.int b,.int u,.int v]:List V)[i]?=some f->∃e' f':Int,e=.int e'/\f=.int f'/\IntMulOk (a.fdiv b) f'/\i<3 ∧
        ([.int (a-a.fdiv b*b),.int (x-a.fdiv b*u),.int (y-a.fdiv b*v)]:List V)[i]?=some (.int (e'-a.fdiv b*f')):=by
        intro i e f he hf
        match i,he,hf with
        | 0,he,hf=>cases he;cases hf;exact⟨a,b,rfl,rfl,ok _ lb,by decide,rfl⟩
        | 1,he,hf=>cases he;cases hf;exact⟨x,u,rfl,rfl,ok _ O9m,by decide,rfl⟩
        | 2,he,hf=>cases he;cases hf;exact⟨y,v,rfl,rfl,ok _ O9m,by decide,rfl⟩
        | i+3,he,hf=>simp at he
       refine Y9 (K:=K) (a:=L) (b:=N) (xs:=[.int a,.int x,.int y]) (ys:=[.int b,.int u,.int v]) (n:=3) ⟨rfl,rfl⟩ (fun i zs τ G1=>Ao G G1/\G1 D=some (.lst zs)/\zs=([.int (a-a.fdiv b*b),.int (x-a.fdiv b*u),.int (y-a.fdiv b*v)]:List V).take i/\∃o1 o2,τ=[o1,o2,some (.int (a.fdiv b))])
        ⟨Ao.new hD,Ae,rfl,none,none,rfl⟩ (fun i zs τ G1 _ ⟨s3,_⟩=>⟨s3.seqT hL,s3.seqT hN⟩) ?_ ?_
       . rintro i e f zs τ G1 pr he hf ⟨s3,Xc,hzs,o1,o2,rfl⟩ hpr;obtain⟨e',f',rfl,rfl,hok,nJ,hnext⟩:=gv i e f he hf;have sp:Ao G1 (upd G1 pr (.tup [.int e',.int f'])):=Ao.new hpr;refine⟨pr,_,rfl,.of Ae,rfl,_,_,rfl,_,_,rfl,rfl,?_⟩;refine⟨_,rfl,_,rfl,_,rfl,_,_,rfl,rfl,hok,_,_,rfl,rfl,?_⟩;refine⟨sp _ _ Xc,small (by rw[hzs,qg0];omega),(s3.trans sp).turn hD,Ae,?_,_,_,rfl⟩;rw[List.take_succ,hnext,hzs];rfl
       . rintro zs τ G1 ⟨s3,Xc,hzs,_⟩;refine⟨D,_,rfl,.inl ⟨.of Xc,fun T1 hT1=>?_⟩⟩;have s4:Ao G1 (upd G1 T1 (.tup zs)):=Ao.new hT1;have HF:zs=[.int (a-a.fdiv b*b),.int (x-a.fdiv b*u),.int (y-a.fdiv b*v)]:=hzs;have hT2:Du K (upd G1 T1 (.tup zs)) T1 [.int (a-a.fdiv b*b),.int (x-a.fdiv b*u),.int (y-a.fdiv b*v)]:=by rw[←HF];exact .of Ae
         exact⟨_,rfl,_,rfl,N,T1,b,u,v,a-a.fdiv b*b,x-a.fdiv b*u,y-a.fdiv b*v,_,_,rfl,(s2.trans s3).trans s4,(s3.trans s4).seqT hN,hT2,Vl,lb,Nat.lt_trans hlt lb,hlt⟩
     . have hb0:b=0:=by simpa using h1
       subst hb0;exact key _ _ ⟨L,N,a,x,y,u,v,o4,o5,rfl,s2,hL,hE⟩
   refine iW fun L N a x y u v o4 o5 G s2 hL hE=>?_;obtain⟨e1,e2,e3⟩:=hE.last hA hB;refine⟨_,rfl,L,_,_,_,rfl,rfl,hL,rfl,_,_,rfl,rfl,_,rfl,?_⟩;refine ite2 (fun h1=>?_) (fun h1=>?_)
   . have ha:a<0:=by simpa using h1
     refine⟨_,rfl,L,rfl,⟨_,hL⟩,fun D hD=>?_⟩
     refine AF (K:=K) (a:=L) (xs:=[.int a,.int x,.int y]) (fun i zs τ G1=>Ao G G1/\G1 D=some (.lst zs)/\zs=([.int (-a),.int (-x),.int (-y)]:List V).take i/\∃o1,τ=[o1])
      ⟨Ao.new hD,Ae,rfl,none,rfl⟩ (fun i zs τ G1 _ ⟨s3,_⟩=>s3.seqT hL) ?_ ?_
     . rintro i e zs τ G1 he ⟨s3,Xc,hzs,o1,rfl⟩
       have gv:∃e':Int,e=.int e'/\i<3/\([.int (-a),.int (-x),.int (-y)]:List V)[i]?=some (.int (-e')):=by
        match i,he with
        | 0,he=>cases he;exact⟨a,rfl,by decide,rfl⟩
        | 1,he=>cases he;exact⟨x,rfl,by decide,rfl⟩
        | 2,he=>cases he;exact⟨y,rfl,by decide,rfl⟩
        | i+3,he=>simp at he
       obtain⟨e',rfl,nJ,hnext⟩:=gv;refine⟨_,rfl,_,rfl,Xc,small (by rw[hzs,qg0];omega),s3.turn hD,Ae,?_,_,rfl⟩;rw[List.take_succ,hnext,hzs];rfl
     . rintro zs τ G1 ⟨s3,Xc,hzs,_⟩;refine⟨D,_,rfl,.inl ⟨.of Xc,fun T1 hT1=>?_⟩⟩;have s4:Ao G1 (upd G1 T1 (.tup zs)):=Ao.new hT1;have HF:zs=[.int (-a),.int (-x),.int (-y)]:=hzs;exact k T1 (-a) (-x) (-y) _ ((s2.trans s3).trans s4) (by rw[←HF];exact .of Ae) (e2 ha)
   . have ha:¬a<0:=by simpa using h1
     exact⟨_,rfl,k L a x y G s2 hL (e1 O9m)⟩
noncomputable abbrev Qp:Stmt:=top 11
theorem m9:FnScope ["table","j"] ["table","j"] (Ar Qp):=Bn
theorem t4{f:Addr}{fd:FuncData}(F:Fb K "column" "column" Qp f fd)(T:Ga K mg Ad Ab Ag) :By P w K mg base Ex 1 f fd ["table","j"] (Tc K):=by
 refine F.ok m9 (fun vs H Q E h=>?_) (fun Dp A outer s H vs Q E hr h=>?_)
 . obtain⟨_,_,_,_,_,rfl,_⟩:=h;rfl
 . obtain⟨v,h,w,j,f,rfl,hv,hh,hj,k⟩:=h;obtain⟨a,us,rfl,hq,L6,Ge⟩:=E7 hv;refine⟨_,(Ak (Bh (Co (N':=["row","j"]) (cap:=[none,some 1]) (by rfl) (by kernel_rfl) (Ct (K:=K) (pv 0)) (fun _ _ _ _=>(Ax (i:=0) JV)) (fun _ _ _ _=>Cn) (fun _ _ _ _=>(Aw (Av (K:=K)) (pv 0) (pv 1) (fun _ _=>rfl)))))),?_⟩;refine⟨_,rfl,a,rfl,⟨_,hq⟩,fun D hD=>?_⟩
   refine Da (K:=K) (a:=a) (xs:=us) (fun i ys τ H1=>Ao H H1/\H1 D=some (.lst ys)/\ys=VI i (fun i=>f i j)/\∃o,τ=[o,iS j])
    ⟨Ao.new hD,Ae,rfl,none,rfl⟩ (fun i ys τ H1 _ ⟨s1,_⟩=>s1.seq hq) ?_ ?_
   . rintro i x ys τ H1 hx ⟨s1,F9,rfl,o,rfl⟩;obtain⟨hi,b,rfl,hb⟩:=Ge i _ hx;refine⟨_,rfl,_,rfl,b,_,_,_,rfl,rfl,s1.seq hb,FY hj,?_⟩;refine⟨F9,small (by rw[Ba];omega),s1.turn hD,Ae,?_,_,rfl⟩;rw[Er]
   . rintro ys τ H1 ⟨s1,F9,rfl,_⟩;rw[L6]at F9;exact k D H1 hD s1 F9
noncomputable abbrev Nr:Stmt:=top 13
theorem X8:FnScope ["size","i"] ["size","i"] (Ar Nr):=Bn
theorem Yf{f:Addr}{fd:FuncData}(F:Fb K "one_row" "one_row" Nr f fd)(T:Ga K mg Ad Ab Ag) :By P w K mg base Ex 1 f fd ["size","i"] (Qa K):=by
 refine F.ok X8 (fun vs H Q E h=>?_) (fun Dp A outer s H vs Q E hr h=>?_)
 . obtain⟨_,_,rfl,_⟩:=h;rfl
 . obtain⟨n,i,rfl,hn,k⟩:=h;refine⟨_,(Ak (Bh (Co (N':=["j","i"]) (cap:=[none,some 1]) (by rfl) (by kernel_rfl) (Dl (by rfl) T.n_range (Aa (pv 0) Ai)) (fun _ _ _ _=>(Ax (i:=0) JU)) (fun _ _ _ _=>Cn) (fun _ _ _ _=>(Q1 (Bo Ec (pv 0) (pv 1) (Bq _)) An An))))),?_⟩;refine⟨_,rfl,_,rfl,O9m,O9m,fun D hD=>?_⟩
   refine Ku (fun j ys τ H1=>Ao H H1/\H1 D=some (.lst ys)/\ys=VI j (fun j=>if j=i then 1 else 0)/\∃o,τ=[o,iS i])
    ⟨Ao.new hD,Ae,rfl,none,rfl⟩ ?_ ?_
   . rintro j ys τ H1 hj ⟨s1,F9,rfl,o,rfl⟩;refine⟨_,rfl,_,rfl,rfl,_,rfl,?_⟩;have sz:(VI j fun j=>if j=i then 1 else 0).length<sizeLine:=small (by rw[Ba];omega);refine ite2 (fun h1=>?_) (fun h1=>?_)
     . have e0:(0:Int)+(j:Int)=(i:Int):=by simpa using h1
       have e:j=i:=O9m
       refine⟨F9,sz,s1.turn hD,Ae,?_,_,rfl⟩;rw[Er,if_pos e]
     . have e0:¬(0:Int)+(j:Int)=(i:Int):=by simpa using h1
       have e:¬j=i:=O9m
       refine⟨F9,sz,s1.turn hD,Ae,?_,_,rfl⟩;rw[Er,if_neg e]
   . rintro ys τ H1 ⟨s1,F9,rfl,_⟩;rw[qb6]at F9;exact k D H1 hD s1 F9
noncomputable abbrev Iz:Stmt:=top 14
theorem Sa:FnScope ["table","numbers"] ["table","numbers"] (Ar Iz):=Bn
theorem Sd{f:Addr}{fd:FuncData}(F:Fb K "times_list" "times_list" Iz f fd)(T:Ga K mg Ad Ab Ag) :By P w K mg base Ex 1 f fd ["table","numbers"] (Lh K):=by
 refine F.ok Sa (fun vs H Q E h=>?_) (fun Dp A outer s H vs Q E hr h=>?_)
 . obtain⟨_,_,_,_,_,_,rfl,_⟩:=h;rfl
 . obtain⟨v,x,h,w,f,a,rfl,hv,hx,hh,hw,hm,k⟩:=h;obtain⟨tb,us,rfl,hq,L6,Ge⟩:=E7 hv;refine⟨_,(Ak (Bh (Co (N':=["row","numbers"]) (cap:=[none,some 1]) (by rfl) (by kernel_rfl) (Ct (K:=K) (pv 0)) (fun _ _ _ _=>(Ax (i:=0) jU)) (fun _ _ _ _=>Cn) (fun _ _ _ _=>(Bf (Yr (K:=K) (by rfl)) T.n_sum aM (Aa (Co (N':=["one","other"]) (cap:=[none,none]) (by rfl) (by kernel_rfl) (Qz (K:=K) (by rfl) T.n_zip (Aa (pv 0) (Aa (pv 1) Ai))) (fun _ _ _ _=>(Fs (K:=K) (n:=2) (by rfl) (Cc (Ax (i:=0) fK) (Cc (Ax (i:=1) fK) Fq)))) (fun _ _ _ _=>Cn) (fun _ _ _ _=>(Bg Dh (pv 0) (pv 1)))) Ai)))))),?_⟩;refine⟨_,rfl,tb,rfl,⟨_,hq⟩,fun D hD=>?_⟩
   refine Da (K:=K) (a:=tb) (xs:=us) (fun i ys τ H1=>Ao H H1/\H1 D=some (.lst ys)/\ys=VI i (fun i=>Ah (fun k=>f i k*a k) w)/\∃o,τ=[o,rS x])
    ⟨Ao.new hD,Ae,rfl,none,rfl⟩ (fun i ys τ H1 _ ⟨s1,_⟩=>s1.seq hq) ?_ ?_
   . rintro i u ys τ H1 hu ⟨s1,F9,rfl,o,rfl⟩;obtain⟨hi,b,rfl,hb⟩:=Ge i _ hu;refine⟨_,rfl,_,rfl,b,x,rfl,⟨_,s1.seq hb⟩,⟨_,s1.seq hx⟩,fun E hE=>?_⟩
     refine Im (K:=K) (a:=b) (b:=x) (xs:=VI w (f i)) (ys:=VI w a) (n:=w) (by rw[Ba,Ba,qm5]) (fun j zs τ H2=>Ao H1 H2/\H2 E=some (.lst zs)/\zs=VI j (fun k=>f i k*a k)/\∃o1 o2,τ=[o1,o2])
      ⟨Ao.new hE,Ae,rfl,none,none,rfl⟩ (fun j zs τ H2 _ ⟨s2,_⟩=>⟨(s1.trans s2).seq hb,(s1.trans s2).seq hx⟩) ?_ ?_
     . rintro j u v zs τ H2 pr hu hv ⟨s2,Vl,rfl,o1,o2,rfl⟩ hp;obtain⟨hj,rfl⟩:=E9 hu;obtain⟨_,rfl⟩:=E9 hv;have sp:Ao H2 (upd H2 pr (.tup [.int (f i j),.int (a j)])):=Ao.new hp;refine⟨pr,_,rfl,.of Ae,rfl,_,_,rfl,_,_,rfl,rfl,?_⟩;refine⟨_,rfl,_,rfl,_,_,rfl,rfl,hm i j hi hj,?_⟩;refine⟨sp _ _ Vl,small (by rw[Ba];omega),(s2.trans sp).turn hE,Ae,?_,_,_,rfl⟩;rw[Er]
     . rintro zs τ H2 ⟨s2,Vl,rfl,_⟩;refine⟨E,G7 w fun k=>f i k*a k,rfl,.of Vl,?_⟩;have sJ:H2 D=some (.lst (VI i fun i=>Ah (fun k=>f i k*a k) w)):=s2 _ _ F9;refine⟨sJ,small (by rw[Ba];omega),(s1.trans s2).turn hD,Ae,?_,_,rfl⟩;rw[Er,EE]
   . rintro ys τ H1 ⟨s1,F9,rfl,_⟩;rw[L6]at F9;exact k D H1 hD s1 F9
noncomputable abbrev Uq:Stmt:=top 15
theorem bF:FnScope ["a","one","b","other"] ["a","one","b","other"] (Ar Uq):=Bn
theorem BN{f:Addr}{fd:FuncData}(F:Fb K "mixed" "mixed" Uq f fd)(T:Ga K mg Ad Ab Ag) :By P w K mg base Ex 1 f fd ["a","one","b","other"] (Qb K):=by
 refine F.ok bF (fun vs H Q E h=>?_) (fun Dp A outer s H vs Q E hr h=>?_)
 . obtain⟨_,_,_,_,_,_,_,rfl,_⟩:=h;rfl
 . obtain⟨a,b,x,y,n,p,q,rfl,hx,hy,hn,hm,k⟩:=h;refine⟨_,(Ak (Bh (Co (N':=["left","right","a","b"]) (cap:=[none,none,some 0,some 2]) (by rfl) (by kernel_rfl) (Qz (K:=K) (by rfl) T.n_zip (Aa (pv 1) (Aa (pv 3) Ai))) (fun _ _ _ _=>(Fs (K:=K) (n:=2) (by rfl) (Cc (Ax (i:=0) FJ) (Cc (Ax (i:=1) FJ) Fq)))) (fun _ _ _ _=>Cn) (fun _ _ _ _=>(Bg Do (Bg Dh (pv 2) (pv 0)) (Bg Dh (pv 3) (pv 1))))))),?_⟩;refine⟨_,rfl,_,rfl,x,y,rfl,⟨_,hx⟩,⟨_,hy⟩,fun D hD=>?_⟩
   refine Im (K:=K) (a:=x) (b:=y) (xs:=VI n p) (ys:=VI n q) (n:=n) (by rw[Ba,Ba,qm5]) (fun i zs τ H1=>Ao H H1/\H1 D=some (.lst zs)/\zs=VI i (fun j=>a*p j+b*q j)/\∃o1 o2,τ=[o1,o2,iS a,iS b])
    ⟨Ao.new hD,Ae,rfl,none,none,rfl⟩ (fun i zs τ H1 _ ⟨s1,_⟩=>⟨s1.seq hx,s1.seq hy⟩) ?_ ?_
   . rintro i u v zs τ H1 pr hu hv ⟨s1,F9,rfl,o1,o2,rfl⟩ hp;obtain⟨hi,rfl⟩:=E9 hu;obtain⟨_,rfl⟩:=E9 hv;have sp:Ao H1 (upd H1 pr (.tup [.int (p i),.int (q i)])):=Ao.new hp;refine⟨pr,_,rfl,.of Ae,rfl,_,_,rfl,_,_,rfl,rfl,?_⟩;refine⟨_,rfl,_,rfl,_,_,rfl,rfl,(hm i hi).1,_,rfl,_,rfl,_,_,rfl,rfl,(hm i hi).2,_,_,rfl,rfl,?_⟩;refine⟨sp _ _ F9,small (by rw[Ba];omega),(s1.trans sp).turn hD,Ae,?_,_,_,rfl⟩;rw[Er]
   . rintro zs τ H1 ⟨s1,F9,rfl,_⟩;exact k D H1 hD s1 F9
noncomputable abbrev Qq:Stmt:=top 18
theorem n0:FnScope ["turn"] ["turn"] (Ar Qq):=Bn
theorem t5{f:Addr}{fd:FuncData}(F:Fb K "across" "across" Qq f fd)(T:Ga K mg Ad Ab Ag) :By P w K mg base Ex 1 f fd ["turn"] (Td K):=by
 refine F.ok n0 (fun vs H Q E h=>?_) (fun Dp A outer s H vs Q E hr h=>?_)
 . obtain⟨_,_,rfl,_⟩:=h;rfl
 . obtain⟨u,t,rfl,hu,k⟩:=h
   refine⟨_,(Af (Ci (Bo Ec (Aw (Be (K:=K)) (pv 0) An (fun _ _=>rfl)) Eh (Bq _)) (Ak (Bh (E2 (Aa Eh (Aa (Aw (Be (K:=K)) (pv 0) An (fun _ _=>rfl)) (Aa (Aw (Be (K:=K)) (pv 0) An (fun _ _=>rfl)) (Aa (Jo F0 (Aw (Be (K:=K)) (pv 0) An (fun _ _=>rfl))) Ai))))))) Br)
    (Ak (Bh (pv 0)))),?_⟩
   cases t with
   | ad i j n =>
     obtain⟨ta,vs,rfl,hT,rT⟩:=hu;obtain⟨_,_,rfl,rfl,_,_,rfl,rfl,_,_,rfl,rfl,_,_,rfl,rfl,rfl⟩:=rT;refine⟨_,rfl,ta,_,_,_,rfl,rfl,hT,rfl,rfl,_,rfl,?_⟩;refine Yu (by decide +kernel) ?_;refine⟨_,rfl,ta,_,_,_,rfl,rfl,hT,rfl,_,rfl,ta,_,_,_,rfl,rfl,hT,rfl,_,rfl,ta,_,_,_,rfl,rfl,hT,rfl,_,rfl,Cp (by simp),fun T1 hT1=>?_⟩;exact k _ _ (Ao.new hT1) ⟨T1,_,rfl,.of Ae,⟨_,_,rfl,rfl,_,_,rfl,rfl,_,_,rfl,rfl,_,_,rfl,rfl,rfl⟩⟩
   | mi i =>
     obtain⟨ta,vs,rfl,hT,rT⟩:=id hu;obtain⟨_,_,rfl,rfl,_,_,rfl,rfl,rfl⟩:=rT;refine⟨_,rfl,ta,_,_,_,rfl,rfl,hT,rfl,rfl,_,rfl,?_⟩;refine M1 (by decide +kernel) ?_;exact⟨_,rfl,k _ _ (Ao.refl H) hu⟩
   | sw i j =>
     obtain⟨ta,vs,rfl,hT,rT⟩:=id hu;obtain⟨_,_,rfl,rfl,_,_,rfl,rfl,_,_,rfl,rfl,rfl⟩:=rT;refine⟨_,rfl,ta,_,_,_,rfl,rfl,hT,rfl,rfl,_,rfl,?_⟩;refine M1 (by decide +kernel) ?_;exact⟨_,rfl,k _ _ (Ao.refl H) hu⟩
noncomputable abbrev Dd:Stmt:=Ea (top 19) 0
theorem Pi:FnScope ["self","rows","backs"] ["self","rows","backs"] (Ar Dd):=Bn
theorem Jp{f:Addr}{fd:FuncData}(F:Fb K "__init__" "Lines.__init__" Dd f fd)(T:Ga K mg Ad Ab Ag) :By P w K mg base Ex 1 f fd ["self","rows","backs"] (Hy K Ad Ab Ag):=by
 refine F.ok Pi (fun vs H Q E h=>?_) (fun Dp A outer s H vs Q E hr h=>?_)
 . obtain⟨_,_,_,_,_,rfl,_⟩:=h;rfl
 . obtain⟨p,dx,C,r,b,rfl,hC,hp,k⟩:=h
   have hc:Cls K C/\NoAttr K C "rows"/\NoAttr K C "backs":=by
    rcases hC with rfl | rfl
    . exact⟨T.cl_Lines,T.na_Lines_rows,T.na_Lines_backs⟩
    . exact⟨T.cl_Stairs,T.na_Stairs_rows,T.na_Stairs_backs⟩
   refine⟨_,(Af (D9 (K:=K) (pv 0) (pv 1))
    (Ak (D9 (K:=K) (pv 0) (pv 2)))),?_⟩
   refine⟨_,rfl,_,rfl,p,C,dx,_,rfl,hp,hc.1,hc.2.1,by simp,?_⟩;refine⟨_,rfl,_,rfl,p,C,dx,_,rfl,Ae,hc.1,hc.2.2,by simp[putF],?_⟩;exact k _ _ rfl rfl
noncomputable abbrev Ls:Stmt:=top 23
theorem J0:FnScope ["row","at"] ["row"] (Ar Ls):=Bn
theorem Ww{f:Addr}{fd:FuncData}(F:Fb K "start_of" "start_of" Ls f fd)(T:Ga K mg Ad Ab Ag) :By P w K mg base Ex 1 f fd ["row"] (Mn K):=by
 refine F.ok J0 (fun vs H Q E h=>?_) (fun Dp A outer s H vs Q E hr h=>?_)
 . obtain⟨_,_,_,_,rfl,_⟩:=h;rfl
 . obtain⟨c,W,st,u,rfl,hq,hb,hW,k⟩:=h;obtain⟨b1,b2,b3⟩:=hb
   refine⟨_,(Af (Au (i:=1) J0.nd An)
    (Af (Ms qc3 (Bo Ec (Aw (Av (K:=K)) (pv 0) (pv 1) (fun _ _=>rfl)) An (Bq _)) (Ak (Au (i:=1) J0.nd (Bg Do (pv 1) An))))
    (Ak (Bh (pv 1))))),?_⟩
   refine Fe (fun σ' H'=>σ'=[rS c,some (.int (0:Nat))]/\H=H') ?_ fun Oc=>Oc _ _ ⟨rfl,rfl⟩;refine Hw ?_;refine qp8 (fun σ' H'=>σ'=[rS c,some (.int (st:Int))]/\H=H') (fun key=>?_) ?_
   . refine⟨fun m σ G=>∃j:Nat,σ=[rS c,some (.int (j:Int))]/\H=G/\j<=st/\m=st-j,⟨_,0,rfl,rfl,qa5 _,rfl⟩,?_⟩;rintro m σ _ ⟨j,rfl,rfl,hj,rfl⟩;refine⟨_,rfl,_,rfl,c,_,_,_,rfl,rfl,hq,Bi (Ch O9m),rfl,_,rfl,?_⟩;refine ite2 (fun h1=>?_) (fun h1=>?_)
     . have h0:u j=0:=by simpa using h1
       have hlt:j<st:=Nat.lt_of_le_of_ne hj fun z=>b2 (z▸h0);refine⟨fun σ' G'=>∃j':Nat,σ'=[rS c,some (.int (j':Int))]/\H=G'/\j'=j+1,?_,?_⟩
       . rintro σ' G' ⟨j',rfl,rfl,rfl⟩;exact⟨st-(j+1),O9m,j+1,rfl,rfl,hlt,rfl⟩
       . exact⟨_,rfl,_,_,rfl,rfl,j+1,rfl,rfl,rfl⟩
     . have h0:¬u j=0:=by simpa using h1
       have hlt:j=st:=by
        rcases qe3 j st with h | h
        . exact absurd (b1 j h) h0
        . omega
       subst hlt;exact key _ _ ⟨rfl,rfl⟩
   refine Hw ?_;exact⟨_,rfl,k⟩
noncomputable abbrev Hk:Stmt:=top 28
theorem Gu:FnScope ["table","i","row"] ["table"] (Ar Hk):=Bn
theorem Q5{f:Addr}{fd:FuncData}(F:Fb K "is_straight" "is_straight" Hk f fd)(T:Ga K mg Ad Ab Ag) :By P w K mg base Ex 1 f fd ["table"] (Jn K):=by
 refine F.ok Gu (fun vs H Q E h=>?_) (fun Dp A outer s H vs Q E hr h=>?_)
 . obtain⟨_,_,_,_,rfl,_⟩:=h;rfl
 . obtain⟨v,n,w,M,rfl,hv,hn,hw,k1,k2⟩:=h;obtain⟨ta,us,rfl,hq,L6,Ge⟩:=E7 hv
   refine⟨_,(Af (Dg qc3 rfl (Uv (K:=K) (by rfl) T.n_enumerate (Aa (pv 0) Ai)) (Fs (K:=K) (n:=2) (by rfl) (Cc (Ax (i:=1) Gu.nd) (Cc (Ax (i:=2) Gu.nd) Fq))) (Ak (Ci (Fk (Bf (Ys (K:=K) (by rfl)) T.n_any AM (Aa (Co (N':=["j","number","i"]) (cap:=[none,none,some 1]) (by rfl) (by kernel_rfl) (Uv (K:=K) (by rfl) T.n_enumerate (Aa (pv 2) Ai)) (fun _ _ _ _=>(Fs (K:=K) (n:=2) (by rfl) (Cc (Ax (i:=0) BR) (Cc (Ax (i:=1) BR) Fq)))) (fun _ _ _ _=>(DO (Bo Mv (pv 0) (pv 2) (Bq _)))) (fun _ _ _ _=>(K3 Mv (pv 1) An (Bq _)))) Ai))) (Ak (Bh Kc)) Br)))
    (Ak (Bh Kc))),?_⟩
   refine qp8 (fun σ' H'=>∃o1 o2,σ'=[rS ta,o1,o2]/\Ao H H'/\Lat.Straight n w M) (fun key=>?_) ?_
   . refine⟨_,rfl,ta,rfl,⟨us,hq⟩,?_⟩
     refine Xe (K:=K) (a:=ta) (xs:=us) (fun i σ G=>∃o1 o2,σ=[rS ta,o1,o2]/\Ao H G/\Lat.Straight i w M)
      ⟨none,none,rfl,Ao.refl H,fun i j hi=>O9m⟩ (fun i σ G _ ⟨_,_,_,s1,_⟩=>s1.seq hq) ?_ ?_
     . rintro i v σ G p hv ⟨o1,o2,rfl,s1,hS⟩ hp;obtain⟨hi,b,rfl,hb⟩:=Ge i v hv;have sp:Ao G (upd G p (.tup [.int i,.ref b])):=Ao.new hp;refine⟨p,_,rfl,.of Ae,rfl,_,_,rfl,_,_,rfl,rfl,?_⟩;generalize upd G p (.tup [.int i,.ref b])=G1 at sp;have s2:=s1.trans sp;refine⟨_,rfl,b,rfl,⟨_,s2.seq hb⟩,fun D hD=>?_⟩
       refine aH (K:=K) (a:=b) (xs:=VI w (M i)) (fun j zs τ G2=>∃bs:List Bool,zs=bs.map V.bl/\bs.length<=j/\(bs.any id=true↔∃c,c<j/\c≠i/\M i c≠0)/\Ao G1 G2/\G2 D=some (.lst zs)/\j<=w/\∃o1 o2,τ=[o1,o2,some (.int (i:Int))])
        ⟨[],rfl,qa0 _,⟨fun z=>by simp at z,fun⟨c,hc,_⟩=>O9m⟩,Ao.new hD,Ae,qa5 _,none,none,rfl⟩ (fun j zs τ G2 _ ⟨_,_,_,_,g,_⟩=>g.seq (s2.seq hb)) ?_ ?_
       . rintro j y zs τ G2 pr hy ⟨bs,rfl,LU,hiff,g,FQ,hj,q1,q2,rfl⟩ hpr;obtain⟨IL,rfl⟩:=E9 hy;have gp:Ao G2 (upd G2 pr (.tup [.int j,.int (M i j)])):=Ao.new hpr;refine⟨pr,_,rfl,.of Ae,rfl,_,_,rfl,_,_,rfl,rfl,?_⟩;generalize upd G2 pr (.tup [.int j,.int (M i j)])=G3 at gp;refine⟨_,rfl,_,rfl,rfl,_,rfl,?_⟩;refine ite2 (fun h1=>?_) (fun h1=>?_)
         . have hji:j≠i:=by
            have:¬((j:Nat):Int)=(i:Int):=by simpa using h1
            omega
           refine⟨_,rfl,rfl,gp _ _ FQ,small (by rw[qa3];omega),bs++[!(decide (M i j=0))],?_,by simp;omega,?_,(g.trans gp).turn hD,Ae,IL,_,_,rfl⟩
           . rw[qe7]
             congr 1
             by_cases z:M i j=0<;>simp[z]
           . rw[List.any_append,Bool.or_eq_true,hiff];constructor
             . rintro (⟨c,h1,h2,h3⟩ | h)
               . exact⟨c,O9m,h2,h3⟩
               . exact⟨j,O9m,hji,by simpa using h⟩
             . rintro ⟨c,h1,h2,h3⟩;rcases qe3 c j with h | h
               . exact .inl ⟨c,h,h2,h3⟩
               . have:c=j:=O9m
                 subst this;exact .inr (by simpa using h3)
         . have hji:j=i:=by
            have:((j:Nat):Int)=(i:Int):=by simpa using h1
            omega
           refine⟨bs,rfl,O9m,hiff.trans ⟨fun⟨c,h1,h2⟩=>⟨c,O9m,h2⟩,fun⟨c,h1,h2,h3⟩=>⟨c,O9m,h2,h3⟩⟩,g.trans gp,gp _ _ FQ,IL,_,_,rfl⟩
       . rintro zs τ G2 ⟨bs,rfl,_,hiff,g,FQ,_⟩;rw[Ba]at hiff;refine⟨D,bs,rfl,.of FQ,_,rfl,?_⟩;refine ite2 (fun h1=>?_) (fun h1=>?_)
         . have h2:bs.any id=true:=by simpa using h1
           obtain⟨c,c1,c2,c3⟩:=hiff.mp h2;exact k2 (fun z=>c3 (z i c hi c1 fun e=>c2 e.symm)) _ (s2.trans g)
         . have h2:¬bs.any id=true:=by simpa using h1
           refine⟨_,_,rfl,s2.trans g,fun x c hx hc hne=>?_⟩;rcases qe3 x i with h | h
           . exact hS x c h hc hne
           . have:x=i:=O9m
             subst this;exact qe2 fun z=>h2 (hiff.mpr ⟨c,hc,fun e=>hne e.symm,z⟩)
     . rintro σ G ⟨o1,o2,rfl,s1,hS⟩;rw[L6]at hS;exact key _ _ ⟨_,_,rfl,s1,hS⟩
   refine aX fun o1 o2 G s1 hS=>?_;exact k1 hS _ s1
noncomputable abbrev J4:Stmt:=top 34
theorem Um:FnScope ["numbers","i"] ["numbers","i"] (Ar J4):=Bn
theorem Uz{f:Addr}{fd:FuncData}(F:Fb K "number_at" "number_at" J4 f fd)(T:Ga K mg Ad Ab Ag) :By P w K mg base Ex 1 f fd ["numbers","i"] (Li K):=by
 refine F.ok Um (fun vs H Q E h=>?_) (fun Dp A outer s H vs Q E hr h=>?_)
 . obtain⟨_,_,_,_,rfl,_⟩:=h;rfl
 . obtain⟨a,k0,i,f,rfl,hq,k⟩:=h;refine⟨_,(Ak (Bh (Q1 (Bo Q4 (pv 1) (Bf (Az (K:=K)) T.n_len qf7 (Aa (pv 0) Ai)) (Bq _)) (Aw (Av (K:=K)) (pv 0) (pv 1) (fun _ _=>rfl)) An))),?_⟩;refine⟨_,rfl,_,rfl,a,_,rfl,.inl hq,_,_,rfl,rfl,_,rfl,?_⟩;unfold Lat.numAt at k;refine ite2 (fun h1=>?_) (fun h1=>?_)
   . have h2:i<k0:=by
      have:(i:Int)<((VI k0 f).length:Int):=qd5 h1;rw[Ba]at this;omega
     rw[if_pos h2]at k;exact⟨_,rfl,_,rfl,a,_,_,_,rfl,rfl,hq,Bi (Ch h2),k⟩
   . have h2:¬i<k0:=fun z=>h1 (decide_eq_true (by rw[Ba];omega));rw[if_neg h2]at k;exact k
noncomputable abbrev Hl:Stmt:=top 35
theorem Ql:FnScope ["value","number"] ["value","number"] (Ar Hl):=Bn
theorem Q6{f:Addr}{fd:FuncData}(F:Fb K "is_multiple" "is_multiple" Hl f fd)(T:Ga K mg Ad Ab Ag) :By P w K mg base Ex 1 f fd ["value","number"] (Jm K):=by
 refine F.ok Ql (fun vs H Q E h=>?_) (fun Dp A outer s H vs Q E hr h=>?_)
 . obtain⟨_,_,rfl,_⟩:=h;rfl
 . obtain⟨v,d,rfl,hd,k⟩:=h;refine⟨_,(Ak (Bh (Q1 (Bo Ec (pv 1) An (Bq _)) (K3 Ec (pv 0) An (Bq _)) (K3 Ec (Bg Di (pv 0) (pv 1)) An (Bq _))))),?_⟩;refine⟨_,rfl,rfl,_,rfl,?_⟩;refine ite2 (fun h1=>?_) (fun h1=>?_)
   . have h2:d=0:=by simpa using h1
     subst h2;refine⟨_,rfl,rfl,?_⟩;rw[DW];have e:decide ((0:Int)∣v)=decide (v=0):=by simp[Int.zero_dvd]
     rw[e]at k;exact k
   . have h2:¬d=0:=by simpa using h1
     refine⟨_,rfl,_,rfl,_,_,rfl,rfl,(by show(0:Int)<d;omega),rfl,?_⟩;rw[DW];have e:decide (d∣v)=decide (v%d=0):=by simp[Int.dvd_iff_emod_eq_zero]
     rw[e]at k;exact k
noncomputable abbrev Nu:Stmt:=top 37
theorem Ya:FnScope ["_law_found"] ["_law_found"] (Ar Nu):=Bn
theorem Yh{f:Addr}{fd:FuncData}(F:Fb K "_law_whole" "_law_whole" Nu f fd)(T:Ga K mg Ad Ab Ag) :By P w K mg base Ex 1 f fd ["_law_found"] (Qc K):=by
 refine F.ok Ya (fun vs H Q E h=>?_) (fun Dp A outer s H vs Q E hr h=>?_)
 . obtain⟨_,_,rfl,_⟩:=h;rfl
 . obtain⟨x,d,rfl,hx,k⟩:=h;refine⟨_,(Ak (Bh (Q2 (Bf (C6 (K:=K)) T.n_isinstance Cd (Aa (pv 0) (Aa (Hd (v:=.ty "int") rfl T.n_int boot_intT rfl) Ai))) (Uw (BK (Bf (C6 (K:=K)) T.n_isinstance Cd (Aa (pv 0) (Aa (Hd (v:=.ty "bool") rfl T.n_bool Rx rfl) Ai)))))))),?_⟩;refine⟨_,rfl,_,_,d,rfl,.inl rfl,hx,_,rfl,?_⟩;refine ite2 (fun e=>?_) (fun e=>?_)
   . refine⟨_,rfl,_,_,d,rfl,.inr (.inl rfl),hx,_,rfl,?_⟩;have e2:Hj d=!Yt "bool" d:=by unfold Hj;rw[e];rfl
     rw[e2]at k;exact k
   . have e2:Hj d=false:=by unfold Hj;simp[e]
     rw[e2]at k;exact k
noncomputable abbrev J9:Stmt:=top 38
theorem Uo:FnScope ["_law_script","_law_k"] ["_law_script","_law_k"] (Ar J9):=Bn
theorem U4{f:Addr}{fd:FuncData}(F:Fb K "_law_cell_at" "_law_cell_at" J9 f fd)(T:Ga K mg Ad Ab Ag) :By P w K mg base Ex 1 f fd ["_law_script","_law_k"] (Iu K):=by
 refine F.ok Uo (fun vs H Q E h=>?_) (fun Dp A outer s H vs Q E hr h=>?_)
 . obtain⟨_,_,_,rfl,_⟩:=h;rfl
 . obtain⟨a,ns,k,rfl,hS,h0,hl,kq⟩:=h
   refine⟨_,(Af (Ci (Bo Q4 (pv 1) (Bf (Az (K:=K)) T.n_len qf7 (Aa (pv 0) Ai)) (Bq _)) (Ak (Bh (Aw (Av (K:=K)) (pv 0) (pv 1) (fun _ _=>rfl)))) Br)
    (Ak (Bh An))),?_⟩
   refine⟨_,rfl,_,rfl,a,_,rfl,.inl hS,_,_,rfl,rfl,_,rfl,?_⟩;refine ite2 (fun h1=>?_) (fun h1=>?_)
   . have h2:k<(ns.length:Int):=by simpa using h1
     have e:aT (ns.map V.int) k=some (.int (Kv ns k)):=by
      obtain⟨j,rfl⟩:=qf2 h0;refine Bi ?_;have hj:j<ns.length:=O9m
      rw[qc1,qb0 hj];simp[Kv,hj]
     exact⟨_,rfl,_,rfl,a,_,k,_,rfl,rfl,hS,e,kq⟩
   . have h2:¬k<(ns.length:Int):=by simpa using h1
     have e:Kv ns k=0:=by
      unfold Kv;have:ns.length<=k.toNat:=O9m
      simp[this]
     rw[e]at kq;exact kq
noncomputable abbrev Ly:Stmt:=top 39
theorem Wq:FnScope ["_law_script","_law_k"] ["_law_script","_law_k"] (Ar Ly):=Bn
theorem W1{f:Addr}{fd:FuncData}(F:Fb K "_law_spread" "_law_spread" Ly f fd)(T:Ga K mg Ad Ab Ag) :By P w K mg base Ex 1 f fd ["_law_script","_law_k"] (Ov K):=by
 refine F.ok Wq (fun vs H Q E h=>?_) (fun Dp A outer s H vs Q E hr h=>?_)
 . obtain⟨_,_,_,rfl,_⟩:=h;rfl
 . obtain⟨a,ns,k,rfl,hS,h0,h1,hl,kq⟩:=h;have jZ:((ns.map V.int).length:Int)=(ns.length:Int):=by rw[qa3]
   refine⟨_,(Af (Ci (Bo Q4 (pv 1) (Bf (Az (K:=K)) T.n_len qf7 (Aa (pv 0) Ai)) (Bq _)) (Ak (Bh (Aw (Av (K:=K)) (pv 0) (pv 1) (fun _ _=>rfl)))) Br)
    (Af (Ci (Bo Ec (Bf (Az (K:=K)) T.n_len qf7 (Aa (pv 0) Ai)) An (Bq _)) (Ak (Bh (Bg Do (Bg Dh (pv 1) (pv 1)) (Bg Dh An (pv 1))))) Br)
    (Ak (Bh (Bg Do (Bg Dh (Aw (Av (K:=K)) (pv 0) (Bg Di (pv 1) (Bf (Az (K:=K)) T.n_len qf7 (Aa (pv 0) Ai))) (fun _ _=>rfl)) (Bg Do An (Bg Dh (pv 1) (pv 1)))) (pv 1)))))),?_⟩
   refine⟨_,rfl,_,rfl,a,_,rfl,.inl hS,_,_,rfl,rfl,_,rfl,?_⟩;refine ite2 (fun c1=>?_) (fun c1=>?_)
   . have c2:k<(ns.length:Int):=by simpa using c1
     have e:aT (ns.map V.int) k=some (.int (ns.getD k.toNat 0)):=by
      obtain⟨j,rfl⟩:=qf2 h0;refine Bi ?_;have hj:j<ns.length:=O9m
      rw[qc1,qb0 hj];simp[hj]
     have es:spreadV ns k=ns.getD k.toNat 0:=by unfold spreadV;rw[if_pos c2]
     rw[es]at kq;exact⟨_,rfl,_,rfl,a,_,k,_,rfl,rfl,hS,e,kq⟩
   have c2:¬k<(ns.length:Int):=by simpa using c1
   refine⟨_,rfl,a,_,rfl,.inl hS,rfl,_,rfl,?_⟩;refine ite2 (fun c3=>?_) (fun c3=>?_)
   . have c4:ns.length=0:=by simpa using c3
     have es:spreadV ns k=k*k+3*k:=by unfold spreadV;rw[if_neg c2,if_pos c4]
     rw[es]at kq;exact⟨_,rfl,_,rfl,_,_,rfl,rfl,N6 O9m O9m,_,rfl,_,_,rfl,rfl,N6 (by decide) (by decide),_,_,rfl,rfl,kq⟩
   have c4:¬ns.length=0:=by simpa using c3
   have hp:(0:Int)<(ns.length:Int):=O9m
   have m0:0<=k%(ns.length:Int):=qi0 _ O9m;have m1:k%(ns.length:Int)<(ns.length:Int):=qi6 _ hp
   have e:aT (ns.map V.int) (k%(ns.length:Int))=some (.int (ns.getD (k%(ns.length:Int)).toNat 0)):=by
    obtain⟨j,hj⟩:=qf2 m0;rw[hj]at m1 ⊢;refine Bi ?_;have hj:j<ns.length:=O9m
    rw[qc1,qb0 hj];simp[hj]
   have es:spreadV ns k=ns.getD (k%(ns.length:Int)).toNat 0*(48271+k*k)+k:=by unfold spreadV;rw[if_neg c2,if_neg c4]
   rw[es]at kq;have h5:k*k<=100000*100000:=Int.mul_le_mul h1 h1 h0 (by decide);have h6:0<=k*k:=qg3 h0 h0;refine⟨_,rfl,_,rfl,_,rfl,a,_,rfl,.inl hS,_,_,rfl,rfl,?_,?_⟩
   . rw[jZ];exact hp
   rw[jZ];exact⟨a,_,_,_,rfl,rfl,hS,e,_,rfl,_,rfl,_,_,rfl,rfl,N6 O9m O9m,_,_,rfl,rfl,_,_,rfl,rfl,bU O9m O9m,_,rfl,_,_,rfl,rfl,kq⟩
noncomputable abbrev Qs:Stmt:=top 41
theorem n6:FnScope ["_law_table"] ["_law_table"] (Ar Qs):=Bn
theorem t7{f:Addr}{fd:FuncData}(F:Fb K "_law_copy" "_law_copy" Qs f fd)(T:Ga K mg Ad Ab Ag) :By P w K mg base Ex 1 f fd ["_law_table"] (Nl K):=by
 refine F.ok n6 (fun vs H Q E h=>?_) (fun Dp A outer s H vs Q E hr h=>?_)
 . obtain⟨_,_,_,_,rfl,_⟩:=h;rfl
 . obtain⟨v,h,w,f,rfl,hv,hh,k⟩:=h;obtain⟨a,us,rfl,hq,L6,Ge⟩:=E7 hv;refine⟨_,(Ak (Bh (Co (N':=["_law_row"]) (cap:=[none]) (by rfl) (by kernel_rfl) (Ct (K:=K) (pv 0)) (fun _ _ _ _=>(Ax (i:=0) gU)) (fun _ _ _ _=>Cn) (fun _ _ _ _=>(D7 (C9 (K:=K)) (by rfl) T.n_list Cv (Aa (pv 0) Ai)))))),?_⟩;refine⟨_,rfl,a,rfl,⟨_,hq⟩,fun D hD=>?_⟩
   refine Da (K:=K) (a:=a) (xs:=us) (fun i ys τ H1=>∃as,as.length=i/\ys=as.map V.ref/\Rows H H1 D as w f/\∃o,τ=[o])
    ⟨[],rfl,rfl,Rows.nil hD,none,rfl⟩ (fun i ys τ H1 _ ⟨as,_,_,R,_⟩=>R.same.seq hq) ?_ ?_
   . rintro i x ys τ H1 hx ⟨as,hal,rfl,R,o,rfl⟩;obtain⟨hi,b,rfl,hb⟩:=Ge i _ hx;refine⟨_,rfl,b,_,rfl,.inl (R.same.seq hb),fun L hL=>?_⟩;have sL:Ao H1 (upd H1 L (.lst (VI w (f i)))):=Ao.new hL;exact⟨sL _ _ R.at,small (by rw[qa3];omega),as++[L],by simp[hal],by rw[qe7];rfl,R.push hL sL (by rw[hal];exact Ae),_,rfl⟩
   . rintro ys τ H1 ⟨as,hal,rfl,R,_⟩;exact k D as H1 O9m R
noncomputable abbrev J7:Stmt:=top 42
theorem Iy:FnScope ["_law_cell","_law_lines","_law_number","_law_at","_law_other"] ["_law_cell","_law_lines","_law_number"] (Ar J7):=Bn
theorem U2{f:Addr}{fd:FuncData}(F:Fb K "_law_turn_by" "_law_turn_by" J7 f fd)(T:Ga K mg Ad Ab Ag) :By P w K mg base Ex 1 f fd ["_law_cell","_law_lines","_law_number"] (Mm K):=by
 refine F.ok Iy (fun vs H Q E h=>?_) (fun Dp A outer s H vs Q E hr h=>?_)
 . obtain⟨_,_,_,rfl,_⟩:=h;rfl
 . obtain⟨c,n,m,rfl,hm,k0,k1⟩:=h
   refine⟨_,(Af (Ci (Bo Ec (pv 1) An (Bq _)) (Ak (Bh Q0)) Br)
    (Af (Au (i:=3) Iy.nd (Bg Di (Bg Py (pv 0) An) (pv 1)))
    (Af (Ci (PW.pt (Tj (Bo Ec (pv 1) An (Bq _)) (Ny (Bo Ec (Bg Di (pv 0) An) An (Bq _))))) (Ak (Bh (E2 (Aa Eh (Aa (pv 3) Ai))))) Br)
    (Af (Au (i:=4) Iy.nd (Bg Di (Bg Do (Bg Do (pv 3) An) (Bg Di (Bg Py (Bg Py (pv 0) An) (pv 1)) (Bg Ho (pv 1) An))) (pv 1)))
    (Af (Ci (Bo Ec (Bg Di (pv 0) An) An (Bq _)) (Ak (Bh (E2 (Aa Eh (Aa (pv 3) (Aa (pv 4) Ai)))))) Br)
    (Ak (Bh (E2 (Aa Eh (Aa (pv 3) (Aa (pv 4) (Aa (pv 2) Ai)))))))))))),?_⟩
   refine⟨_,rfl,rfl,_,rfl,?_⟩;refine ite2 (fun h1=>?_) (fun h1=>?_)
   . have e:(m:Int)=0:=by simpa using h1
     exact k0 O9m
   have m0:¬(m:Int)=0:=by simpa using h1
   have mp:0<m:=O9m
   have lO:(0:Int)<(m:Int):=O9m
   have kk:=k1 mp;refine⟨_,rfl,_,_,rfl,rfl,⟨by decide,by decide⟩,_,rfl,_,_,rfl,rfl,lO,?_⟩;have a0:0<=c / 3%(m:Int):=qi0 _ O9m;have a1:c / 3%(m:Int)<(m:Int):=qi6 _ lO;obtain⟨ai,ha⟩:=qf2 a0;have hai:ai<m:=O9m
   have mk2:∀p,H p=none->Q (.ref p) (upd H p (.tup [.str "minus",.int (c / 3%(m:Int))])):=fun p hp=>kk (.mi ai) _ _ hai (fun _ _=>trivial) (Ao.new hp) ⟨p,_,rfl,.of Ae,⟨_,_,rfl,rfl,_,_,rfl,by rw[ha]<;>rfl,rfl⟩⟩;refine⟨_,rfl,rfl,_,rfl,?_⟩;refine ite2 (fun h2=>?_) (fun h2=>?_)
   . refine Yu rfl ?_;exact⟨_,rfl,Cp (by simp),fun p hp=>mk2 p hp⟩
   have m1:¬(m:Int)=1:=by simpa using h2
   refine⟨_,rfl,_,_,rfl,rfl,(by show(0:Int)<3;decide),rfl,_,rfl,?_⟩;refine ite2 (fun h3=>?_) (fun h3=>?_)
   . exact⟨_,rfl,Cp (by simp),fun p hp=>mk2 p hp⟩
   have mm:(0:Int)<(m:Int)-1:=O9m
   refine⟨_,rfl,_,_,rfl,rfl,_,rfl,_,_,rfl,rfl,⟨by decide,by decide⟩,_,rfl,_,_,rfl,rfl,⟨lO,O9m⟩,_,rfl,_,_,rfl,rfl,_,_,rfl,rfl,mm,_,_,rfl,rfl,_,rfl,_,_,rfl,rfl,lO,?_⟩;obtain⟨o1,o2,o3⟩:=Yd a0 a1 (qi0 (c / 3 / (m:Int)) (by omega:(m:Int)-1≠0)) (qi6 (c / 3 / (m:Int)) mm);obtain⟨bi,hb⟩:=qf2 o2;have hbi:bi<m:=O9m
   have hne:ai≠bi:=O9m
   refine⟨_,rfl,_,_,rfl,rfl,(by show(0:Int)<3;decide),rfl,_,rfl,?_⟩;refine ite2 (fun h4=>?_) (fun h4=>?_)
   . refine⟨_,rfl,_,rfl,Cp (by simp),fun p hp=>?_⟩;exact kk (.sw ai bi) _ _ ⟨hai,hbi,hne⟩ (fun _ _=>trivial) (Ao.new hp) ⟨p,_,rfl,.of Ae,⟨_,_,rfl,rfl,_,_,rfl,(by show V.int (c / 3%(m:Int))=V.int ai;rw[ha]),_,_,rfl,(by show V.int ((c / 3%(m:Int)+1+c / 3 / (m:Int)%((m:Int)-1))%(m:Int))=V.int bi;rw[hb]),rfl⟩⟩
   . refine⟨_,rfl,_,rfl,_,rfl,Cp (by simp),fun p hp=>?_⟩;exact kk (.ad ai bi n) _ _ ⟨hai,hbi,hne⟩ (fun B hB=>hB) (Ao.new hp) ⟨p,_,rfl,.of Ae,⟨_,_,rfl,rfl,_,_,rfl,(by show V.int (c / 3%(m:Int))=V.int ai;rw[ha]),_,_,rfl,(by show V.int ((c / 3%(m:Int)+1+c / 3 / (m:Int)%((m:Int)-1))%(m:Int))=V.int bi;rw[hb]),_,_,rfl,rfl,rfl⟩⟩
noncomputable abbrev Qr:Stmt:=top 43
theorem Np:FnScope ["_law_table","_law_width","_law_rows","_law_j"] ["_law_table","_law_width"] (Ar Qr):=Bn
theorem t6{f:Addr}{fd:FuncData}(F:Fb K "_law_flip" "_law_flip" Qr f fd)(T:Ga K mg Ad Ab Ag) :By P w K mg base Ex 1 f fd ["_law_table","_law_width"] (Nk K):=by
 refine F.ok Np (fun vs H Q E h=>?_) (fun Dp A outer s H vs Q E hr h=>?_)
 . obtain⟨_,_,_,_,rfl,_⟩:=h;rfl
 . obtain⟨v,h,w,f,rfl,hv,hh,hw,k⟩:=h;obtain⟨a,us,rfl,hq,L6,Ge⟩:=E7 hv
   refine⟨_,(Af (Au (i:=2) Np.nd (Jb Ai))
    (Af (Dg qc3 rfl (Dl (by rfl) T.n_range (Aa (pv 1) Ai)) (Ax (i:=3) Np.nd) (Ak (Bw (Hq (K:=K) qd9 qh9 qh8 Gm (pv 2) (Aa (Co (N':=["_law_row","_law_j"]) (cap:=[none,some 3]) (by rfl) (by kernel_rfl) (Ct (K:=K) (pv 0)) (fun _ _ _ _=>(Ax (i:=0) gT)) (fun _ _ _ _=>Cn) (fun _ _ _ _=>(Aw (Av (K:=K)) (pv 0) (pv 1) (fun _ _=>rfl)))) Ai)))))
    (Ak (Bh (pv 2))))),?_⟩
   refine⟨qa5 _,fun D hD=>?_⟩;refine⟨_,rfl,_,rfl,O9m,O9m,?_⟩
   refine Dm (lo:=0) (n:=(w:Int).toNat) (fun i σ H1=>∃(as:List Addr) (o:Option V),σ=[rS a,iS w,rS D,o]/\as.length=i/\Rows H H1 D as h (fun i j=>f j i))
    ⟨[],none,rfl,rfl,Rows.nil hD⟩ ?_ ?_
   . rintro j σ H1 hj ⟨as,o,rfl,hal,R⟩;have hj2:j<w:=O9m
     refine⟨_,rfl,.inl ⟨rfl,_,.of R.at⟩,_,rfl,a,rfl,⟨_,R.same.seq hq⟩,fun E hE=>?_⟩
     refine Da (K:=K) (a:=a) (xs:=us) (fun i ys τ H2=>Ao H1 H2/\H2 E=some (.lst ys)/\ys=VI i (fun i=>f i j)/\∃o,τ=[o,some (.int (0+j))])
      ⟨Ao.new hE,Ae,rfl,none,rfl⟩ (fun i ys τ H2 _ ⟨s2,_⟩=>(R.same.trans s2).seq hq) ?_ ?_
     . rintro i x ys τ H2 hx ⟨s2,Vl,rfl,o',rfl⟩;obtain⟨hi,b,rfl,hb⟩:=Ge i _ hx;refine⟨_,rfl,_,rfl,b,_,_,_,rfl,rfl,(R.same.trans s2).seq hb,V7 hj2,?_⟩;refine⟨Vl,small (by rw[Ba];omega),s2.turn hE,Ae,?_,_,rfl⟩;rw[Er]
     . rintro ys τ H2 ⟨s2,Vl,rfl,_⟩;rw[L6]at Vl;have z7:H2 D=some (.lst (as.map V.ref)):=s2 _ _ R.at
       refine⟨D,_,_,rfl,rfl,z7,small (by rw[qa3];omega),?_⟩;exact⟨as++[E],_,rfl,by simp[hal],R.push hE s2 (by rw[hal];exact Vl)⟩
   . rintro σ H1 ⟨as,o,rfl,hal,R⟩;exact⟨_,rfl,k D as H1 O9m R⟩
noncomputable abbrev F5:Stmt:=top 46
theorem Id:FnScope ["_law_numbers","_law_turn","_law_made"] ["_law_numbers","_law_turn"] (Ar F5):=Bn
theorem N5{f:Addr}{fd:FuncData}(F:Fb K "_law_list_turned" "_law_list_turned" F5 f fd)(T:Ga K mg Ad Ab Ag) :By P w K mg base Ex 1 f fd ["_law_numbers","_law_turn"] (Wh K):=by
 refine F.ok Id (fun vs H Q E h=>?_) (fun Dp A outer s H vs Q E hr h=>?_)
 . obtain⟨_,_,_,_,_,rfl,_⟩:=h;rfl
 . obtain⟨a,u,w,x,t,rfl,ha,hu,hok,hb,hw,bx,k⟩:=h
   have ix:∀r,r<w->Xa (VI w x).length ((r:Nat):Int)=some r:=fun r hr=>by
    unfold Xa;rw[Ba,if_pos (by omega),if_pos (by omega),qb6]
   have kU:∀r,r<w->aT (VI w x) ((r:Nat):Int)=some (.int (x r)):=fun r hr=>by
    have:=V7 (f:=x) hr
    rwa [qi7]at this
   have fin:∀{y z:Nat->Int},(∀c,c<w->y c=z c)->VI w y=VI w z:=fun h=>Fa h
   refine⟨_,(Af (Au (i:=2) Id.nd (D7 (C9 (K:=K)) (by rfl) T.n_list Cv (Aa (pv 0) Ai)))
    (Af (Ci (Bo Ec (Aw (Be (K:=K)) (pv 1) An (fun _ _=>rfl)) Eh (Bq _)) (Ak (C8 (Bg Ho An (Aw (Av (K:=K)) (pv 0) (Aw (Be (K:=K)) (pv 1) An (fun _ _=>rfl)) (fun _ _=>rfl))) (De (pv 2) (Aw (Be (K:=K)) (pv 1) An (fun _ _=>rfl)) Ca))) (Ak (Ci (Bo Ec (Aw (Be (K:=K)) (pv 1) An (fun _ _=>rfl)) Eh (Bq _)) (Af (C8 (Aw (Av (K:=K)) (pv 0) (Aw (Be (K:=K)) (pv 1) An (fun _ _=>rfl)) (fun _ _=>rfl)) (De (pv 2) (Aw (Be (K:=K)) (pv 1) An (fun _ _=>rfl)) Ca))
    (Ak (C8 (Aw (Av (K:=K)) (pv 0) (Aw (Be (K:=K)) (pv 1) An (fun _ _=>rfl)) (fun _ _=>rfl)) (De (pv 2) (Aw (Be (K:=K)) (pv 1) An (fun _ _=>rfl)) Ca)))) (Ak (C8 (Bg Ho (Aw (Av (K:=K)) (pv 0) (Aw (Be (K:=K)) (pv 1) An (fun _ _=>rfl)) (fun _ _=>rfl)) (Bg Dh (Aw (Be (K:=K)) (pv 1) An (fun _ _=>rfl)) (Aw (Av (K:=K)) (pv 0) (Aw (Be (K:=K)) (pv 1) An (fun _ _=>rfl)) (fun _ _=>rfl)))) (De (pv 2) (Aw (Be (K:=K)) (pv 1) An (fun _ _=>rfl)) Ca))))))
    (Ak (Bh (pv 2))))),?_⟩
   refine⟨_,rfl,a,_,rfl,.inl ha,fun L hL=>?_⟩;have s1:Ao H (upd H L (.lst (VI w x))):=Ao.new hL;have e1:upd H L (.lst (VI w x)) L=some (.lst (VI w x)):=Ae;generalize upd H L (.lst (VI w x))=H1 at s1 e1;cases t with
   | mi i =>
     have hi:i<w:=hok;obtain⟨ta,vs,rfl,hT,rT⟩:=hu;obtain⟨_,_,rfl,rfl,_,_,rfl,rfl,rfl⟩:=rT;have hT1:Du K H1 ta [V.str "minus",V.int i]:=s1.seqT hT;refine⟨_,rfl,ta,_,_,_,rfl,rfl,hT1,rfl,rfl,_,rfl,?_⟩;refine Yu (by decide +kernel) ?_;refine⟨_,rfl,_,rfl,ta,_,_,_,rfl,rfl,hT1,rfl,a,_,_,_,rfl,rfl,s1.seq ha,kU i hi,_,_,rfl,rfl,_,rfl,_,rfl,ta,_,_,_,rfl,rfl,hT1,rfl,L,_,_,i,rfl,rfl,e1,ix i hi,?_⟩;refine⟨_,rfl,k L _ (s1.turn hL) ?_⟩;rw[Ae,On hi]
     exact congrArg (fun z=>some (HO.lst z)) (fin fun c _=>by
      show _=if c=i then 0-x i else x c
      rfl)
   | sw i j =>
     obtain⟨hi,hj,hij⟩:=hok;obtain⟨ta,vs,rfl,hT,rT⟩:=hu;obtain⟨_,_,rfl,rfl,_,_,rfl,rfl,_,_,rfl,rfl,rfl⟩:=rT;have hT1:Du K H1 ta [V.str "swap",V.int i,V.int j]:=s1.seqT hT;refine⟨_,rfl,ta,_,_,_,rfl,rfl,hT1,rfl,rfl,_,rfl,?_⟩;refine M1 (by decide +kernel) ?_;refine⟨_,rfl,ta,_,_,_,rfl,rfl,hT1,rfl,rfl,_,rfl,?_⟩;refine Yu (by decide +kernel) ?_;refine⟨_,rfl,_,rfl,ta,_,_,_,rfl,rfl,hT1,rfl,a,_,_,_,rfl,rfl,s1.seq ha,kU j hj,_,rfl,_,rfl,ta,_,_,_,rfl,rfl,hT1,rfl,L,_,_,i,rfl,rfl,e1,ix i hi,?_⟩;have s2:Ao H (upd H1 L (.lst ((VI w x).set i (.int (x j))))):=s1.turn hL;have e2:upd H1 L (.lst ((VI w x).set i (.int (x j)))) L=some (.lst ((VI w x).set i (.int (x j)))):=Ae;generalize upd H1 L (.lst ((VI w x).set i (.int (x j))))=H2 at s2 e2;have hT2:Du K H2 ta [V.str "swap",V.int i,V.int j]:=s2.seqT hT;refine⟨_,rfl,_,rfl,ta,_,_,_,rfl,rfl,hT2,rfl,a,_,_,_,rfl,rfl,s2.seq ha,kU i hi,_,rfl,_,rfl,ta,_,_,_,rfl,rfl,hT2,rfl,L,_,_,j,rfl,rfl,e2,by rw[qg4];exact ix j hj,?_⟩;refine⟨_,rfl,k L _ (s2.turn hL) ?_⟩;rw[Ae,On hi,On hj]
     exact congrArg (fun z=>some (HO.lst z)) (fin fun c _=>by
      show _=if c=j then x i else if c=i then x j else x c
      rfl)
   | ad i j m =>
     obtain⟨hi,hj,hij⟩:=hok;obtain⟨ta,vs,rfl,hT,rT⟩:=hu;obtain⟨_,_,rfl,rfl,_,_,rfl,rfl,_,_,rfl,rfl,_,_,rfl,rfl,rfl⟩:=rT;have hT1:Du K H1 ta [V.str "add",V.int i,V.int j,V.int m]:=s1.seqT hT;refine⟨_,rfl,ta,_,_,_,rfl,rfl,hT1,rfl,rfl,_,rfl,?_⟩;refine M1 (by decide +kernel) ?_;refine⟨_,rfl,ta,_,_,_,rfl,rfl,hT1,rfl,rfl,_,rfl,?_⟩;refine M1 (by decide +kernel) ?_;have mo:IntMulOk m (x i):=Ih (show m.natAbs<2 ^ 2 from hb) (qa7 (bx i) (show 2 ^ 60<2 ^ 61 by decide)) (by decide);refine⟨_,rfl,_,rfl,ta,_,_,_,rfl,rfl,hT1,rfl,a,_,_,_,rfl,rfl,s1.seq ha,kU j hj,_,rfl,ta,_,_,_,rfl,rfl,hT1,rfl,_,rfl,_,rfl,ta,_,_,_,rfl,rfl,hT1,rfl,a,_,_,_,rfl,rfl,s1.seq ha,kU i hi,_,_,rfl,rfl,mo,_,_,rfl,rfl,_,rfl,_,rfl,ta,_,_,_,rfl,rfl,hT1,rfl,L,_,_,j,rfl,rfl,e1,ix j hj,?_⟩;refine⟨_,rfl,k L _ (s1.turn hL) ?_⟩;rw[Ae,On hj]
     exact congrArg (fun z=>some (HO.lst z)) (fin fun c _=>by
      show _=if c=j then x j-m*x i else x c
      rfl)
noncomputable abbrev Nv:Stmt:=top 48
theorem Fh:FnScope ["_law_table","_law_numbers","_law_made","_law_row","_law_total","_law_k"] ["_law_table","_law_numbers"] (Ar Nv):=Bn
theorem Yi{f:Addr}{fd:FuncData}(F:Fb K "_law_taken" "_law_taken" Nv f fd)(T:Ga K mg Ad Ab Ag) :By P w K mg base Ex 1 f fd ["_law_table","_law_numbers"] (Nm K):=by
 refine F.ok Fh (fun vs H Q E h=>?_) (fun Dp A outer s H vs Q E hr h=>?_)
 . obtain⟨_,_,_,_,_,_,rfl,_⟩:=h;rfl
 . obtain⟨v,a,h,w,f,x,rfl,hv,ha,hh,hw,hm,k⟩:=h;obtain⟨ta,us,rfl,hq,L6,Ge⟩:=E7 hv
   refine⟨_,(Af (Au (i:=2) Fh.nd (Jb Ai))
    (Af (Dg qc3 rfl (Ct (K:=K) (pv 0)) (Ax (i:=3) Fh.nd) (Af (Au (i:=4) Fh.nd An)
    (Af (Dg qc3 rfl (Dl (by rfl) T.n_range (Aa (Bf (Az (K:=K)) T.n_len qf7 (Aa (pv 1) Ai)) Ai)) (Ax (i:=5) Fh.nd) (Ak (Au (i:=4) Fh.nd (Bg Do (pv 4) (Bg Dh (Aw (Av (K:=K)) (pv 3) (pv 5) (fun _ _=>rfl)) (Aw (Av (K:=K)) (pv 1) (pv 5) (fun _ _=>rfl)))))))
    (Ak (Bw (Hq (K:=K) qd9 qh9 qh8 Gm (pv 2) (Aa (pv 4) Ai)))))))
    (Ak (Bh (pv 2))))),?_⟩
   refine qp8 (fun σ' H'=>∃D:Addr,σ'=[rS ta,rS a,rS D,none,none,none]/\H D=none/\Ao H H'/\H' D=some (.lst [])) (fun key=>?_) ?_
   . exact⟨qa5 _,fun D hD=>key _ _ ⟨D,rfl,hD,Ao.new hD,Ae⟩⟩
   refine AX fun D H0 hD sD eD=>?_;refine qp8 (t:=Wc _ _ _) (fun σ' H'=>∃o3 o4 o5:Option V,σ'=[rS ta,rS a,rS D,o3,o4,o5]/\Ao H H'/\H' D=some (.lst (VI h (Lat.mulV w f x)))) (fun key=>?_) ?_
   . refine⟨_,rfl,ta,rfl,⟨_,sD.seq hq⟩,?_⟩
     refine for_list (K:=K) (a:=ta) (xs:=us) (fun i σ' H'=>∃o3 o4 o5:Option V,σ'=[rS ta,rS a,rS D,o3,o4,o5]/\Ao H H'/\H' D=some (.lst (VI i (Lat.mulV w f x))))
      ⟨none,none,none,rfl,sD,eD⟩ (fun i σ H1 _ ⟨_,_,_,_,s,_⟩=>s.seq hq) ?_ ?_
     . rintro i u σ H1 hu ⟨o3,o4,o5,rfl,s1,F9⟩;obtain⟨hi,b,rfl,hb⟩:=Ge i u hu;refine bB [rS ta,rS a,rS D,rS b,iS 0,o5] H1 (fun _ h=>h) ?_;refine qp8 (t:=Wc _ _ _) (fun σ' H'=>∃o5:Option V,σ'=[rS ta,rS a,rS D,rS b,some (.int (Lat.mulV w f x i)),o5]/\H1=H') (fun key=>?_) ?_
       . refine⟨_,rfl,a,_,rfl,.inl (s1.seq ha),_,rfl,by rw[Ba];omega,by rw[Ba];omega,?_⟩
         refine Dm (lo:=0) (n:=(((VI w x).length:Nat):Int).toNat) (fun j σ' H'=>∃o5:Option V,σ'=[rS ta,rS a,rS D,rS b,some (.int (Ah (fun c=>f i c*x c) j)),o5]/\H1=H')
          ⟨_,rfl,rfl⟩ ?_ ?_
         . rintro j σ H2 hj ⟨LK,rfl,rfl⟩;have hj2:j<w:=by rw[Ba]at hj;omega
           exact⟨_,rfl,_,rfl,_,rfl,b,_,_,_,rfl,rfl,s1.seq hb,V7 hj2,_,rfl,_,rfl,a,_,_,_,rfl,rfl,s1.seq ha,V7 hj2,_,_,rfl,rfl,hm i j hi hj2,_,_,rfl,rfl,_,rfl,rfl⟩
         . rintro σ H2 ⟨LK,rfl,rfl⟩;rw[Ba,qb6];exact key _ _ ⟨_,rfl,rfl⟩
       refine jB fun LK=>?_;refine⟨_,rfl,.inl ⟨rfl,_,.of F9⟩,_,rfl,D,_,_,rfl,rfl,F9,small (by rw[Ba];omega),_,_,_,rfl,s1.turn hD,?_⟩;rw[Ae,Er]
     . rintro σ H1 ⟨o3,o4,o5,rfl,s1,F9⟩;rw[L6]at F9;exact key _ _ ⟨_,_,_,rfl,s1,F9⟩
   refine aW fun o3 o4 o5 H1 s1 F9=>?_;exact⟨_,rfl,k D H1 s1 F9⟩
noncomputable abbrev Ee:Stmt:=top 9
theorem J3:FnScope ["thing","many"] ["thing","many"] (Ar Ee):=Bn
theorem Kd{f:Addr}{fd:FuncData}(F:Fb K "is_list_of_wholes" "is_list_of_wholes" Ee f fd)(T:Ga K mg Ad Ab Ag)(Of:Has P w K mg base "is_whole" ["thing"] 1 (Jx K)):By P w K mg base Ex 2 f fd ["thing","many"] (Dv K):=by
 refine F.ok J3 (fun vs H Q E h=>?_) (fun Dp A outer s H vs Q E hr h=>?_)
 . obtain⟨_,_,_,rfl,_⟩:=h;rfl
 . obtain⟨a,n,f,rfl,hq,hn,k⟩:=h;refine⟨_,(Ak (Bh (Q2 (Bf (C6 (K:=K)) T.n_isinstance Cd (Aa (pv 0) (Aa (Hd (v:=.ty "list") rfl T.n_list Cv rfl) Ai))) (Q2 (K3 Ec (Bf (Az (K:=K)) T.n_len qf7 (Aa (pv 0) Ai)) (pv 1) (Bq _)) (Uw (Bf (Rf (K:=K) (by rfl)) T.n_all T5 (Aa (Co (N':=["number"]) (cap:=[none]) (by rfl) (by kernel_rfl) (Ct (K:=K) (pv 0)) (fun _ _ _ _=>(Ax (i:=0) BS)) (fun _ _ _ _=>Cn) (fun _ _ _ _=>(Aq Of hr (Aa (pv 0) Ai)))) Ai))))))),?_⟩;refine⟨_,rfl,.ref a,"list",dL n f,rfl,.inr (.inr (.inr (.inr (.inl rfl)))),Na hq,_,rfl,?_⟩;refine Yu (by simp[Yt,dL]) ?_;refine⟨_,rfl,a,_,rfl,.inl hq,_,rfl,rfl,_,rfl,?_⟩;refine Yu (RH (by rw[Ba])) ?_;refine⟨_,rfl,a,rfl,⟨_,hq⟩,fun D hD=>?_⟩
   refine Da (K:=K) (a:=a) (xs:=VI n f) (fun i ys τ H1=>Ao H H1/\H1 D=some (.lst ys)/\ys=(List.replicate i true).map V.bl/\∃o,τ=[o])
    ⟨Ao.new hD,Ae,rfl,none,rfl⟩ (fun i ys τ H1 _ ⟨s1,_⟩=>s1.seq hq) ?_ ?_
   . rintro i x ys τ H1 hx ⟨s1,F9,rfl,o,rfl⟩;obtain⟨hi,rfl⟩:=E9 hx;refine⟨_,rfl,_,.int (f i),rfl,rfl,F9,small (by simp;omega),s1.turn hD,Ae,?_,_,rfl⟩;rw[List.replicate_succ',qe7];rfl
   . rintro ys τ H1 ⟨s1,F9,rfl,_⟩;refine⟨D,List.replicate (VI n f).length true,rfl,.of F9,?_⟩;rw[show(List.replicate (VI n f).length true).all id=true by simp];exact k H1 s1
noncomputable abbrev Nt:Stmt:=top 10
theorem X9:FnScope ["table","width"] ["table","width"] (Ar Nt):=Bn
theorem Yg{f:Addr}{fd:FuncData}(F:Fb K "flipped" "flipped" Nt f fd)(T:Ga K mg Ad Ab Ag)(Vk:Has P w K mg base "column" ["table","j"] 1 (Tc K)):By P w K mg base Ex 2 f fd ["table","width"] (Gp K):=by
 refine F.ok X9 (fun vs H Q E h=>?_) (fun Dp A outer s H vs Q E hr h=>?_)
 . obtain⟨_,_,_,_,rfl,_⟩:=h;rfl
 . obtain⟨v,h,w,f,rfl,hv,hh,hw,k⟩:=h;refine⟨_,(Ak (Bh (Co (N':=["j","table"]) (cap:=[none,some 0]) (by rfl) (by kernel_rfl) (Dl (by rfl) T.n_range (Aa (pv 1) Ai)) (fun _ _ _ _=>(Ax (i:=0) jW)) (fun _ _ _ _=>Cn) (fun _ _ _ _=>(Aq Vk hr (Aa (pv 1) (Aa (pv 0) Ai))))))),?_⟩;refine⟨_,rfl,_,rfl,O9m,O9m,fun D hD=>?_⟩
   refine Ku (fun i ys τ H1=>∃as,as.length=i/\ys=as.map V.ref/\Rows H H1 D as h (fun i j=>f j i)/\∃o,τ=[o,some v])
    ⟨[],rfl,rfl,Rows.nil hD,none,rfl⟩ ?_ ?_
   . rintro i ys τ H1 hi ⟨as,hal,rfl,R,o,rfl⟩;have hi2:i<w:=O9m
     refine⟨_,rfl,_,rfl,v,h,w,i,f,by rw[qi7]<;>rfl,Rep.same R.same hv,hh,hi2,fun D2 H2 z7 s2 h2=>?_⟩;exact⟨s2 _ _ R.at,small (by rw[qa3];omega),as++[D2],by simp[hal],by rw[qe7];rfl,R.push z7 s2 (by rw[hal];exact h2),_,rfl⟩
   . rintro ys τ H1 ⟨as,hal,rfl,R,_⟩;exact k D as H1 O9m R
noncomputable abbrev Yb:Stmt:=top 12
theorem DJ:FnScope ["size"] ["size"] (Ar Yb):=Bn
theorem dX{f:Addr}{fd:FuncData}(F:Fb K "ones" "ones" Yb f fd)(T:Ga K mg Ad Ab Ag)(Rm:Has P w K mg base "one_row" ["size","i"] 1 (Qa K)):By P w K mg base Ex 2 f fd ["size"] (Zx K):=by
 refine F.ok DJ (fun vs H Q E h=>?_) (fun Dp A outer s H vs Q E hr h=>?_)
 . obtain⟨_,rfl,_⟩:=h;rfl
 . obtain⟨n,rfl,hn,k⟩:=h;refine⟨_,(Ak (Bh (Co (N':=["i","size"]) (cap:=[none,some 0]) (by rfl) (by kernel_rfl) (Dl (by rfl) T.n_range (Aa (pv 0) Ai)) (fun _ _ _ _=>(Ax (i:=0) jV)) (fun _ _ _ _=>Cn) (fun _ _ _ _=>(Aq Rm hr (Aa (pv 1) (Aa (pv 0) Ai))))))),?_⟩;refine⟨_,rfl,_,rfl,O9m,O9m,fun D hD=>?_⟩
   refine Ku (fun i ys τ H1=>∃as,as.length=i/\ys=as.map V.ref/\Rows H H1 D as n (fun i j=>if j=i then 1 else 0)/\∃o,τ=[o,iS n])
    ⟨[],rfl,rfl,Rows.nil hD,none,rfl⟩ ?_ ?_
   . rintro i ys τ H1 hi ⟨as,hal,rfl,R,o,rfl⟩;refine⟨_,rfl,_,rfl,n,i,by rw[qi7]<;>rfl,hn,fun D2 H2 z7 s2 h2=>?_⟩;exact⟨s2 _ _ R.at,small (by rw[qa3];omega),as++[D2],by simp[hal],by rw[qe7];rfl,R.push z7 s2 (by rw[hal];exact h2),_,rfl⟩
   . rintro ys τ H1 ⟨as,hal,rfl,R,_⟩;exact k D as H1 O9m R
noncomputable abbrev Qn:Stmt:=top 17
theorem Nn:FnScope ["lines","turn","told","i"] ["lines","turn"] (Ar Qn):=Bn
theorem t0{f:Addr}{fd:FuncData}(F:Fb K "turned" "turned" Qn f fd)(T:Ga K mg Ad Ab Ag)(Ht:Has P w K mg base "mixed" ["a","one","b","other"] 1 (Qb K)):By P w K mg base Ex 2 f fd ["lines","turn"] (Qh K):=by
 refine F.ok Nn (fun vs H Q E h=>?_) (fun Dp A outer s H vs Q E hr h=>?_)
 . obtain⟨_,_,_,_,_,_,_,rfl,_⟩:=h;rfl
 . obtain⟨r,u,as,n,W,f,t,rfl,x,hu,hm,hn,hW,k⟩:=h;have hq:SqL K H r (as.map V.ref):=.of x.2.1
   refine⟨_,(Af (Au (i:=2) Nn.nd (D7 (C9 (K:=K)) (by rfl) T.n_list Cv (Aa (pv 0) Ai)))
    (Af (Au (i:=3) Nn.nd (Aw (Be (K:=K)) (pv 1) An (fun _ _=>rfl)))
    (Af (Ci (Bo Ec (Aw (Be (K:=K)) (pv 1) An (fun _ _=>rfl)) Eh (Bq _)) (Ak (C8 (Co (N':=["number"]) (cap:=[none]) (by rfl) (by kernel_rfl) (Ct (K:=K) (Aw (Av (K:=K)) (pv 0) (pv 3) (fun _ _=>rfl))) (fun _ _ _ _=>(Ax (i:=0) BS)) (fun _ _ _ _=>Cn) (fun _ _ _ _=>(Jo F0 (pv 0)))) (De (pv 2) (pv 3) Ca))) (Ak (Ci (Bo Ec (Aw (Be (K:=K)) (pv 1) An (fun _ _=>rfl)) Eh (Bq _)) (Af (C8 (Aw (Av (K:=K)) (pv 0) (Aw (Be (K:=K)) (pv 1) An (fun _ _=>rfl)) (fun _ _=>rfl)) (De (pv 2) (pv 3) Ca))
    (Ak (C8 (Aw (Av (K:=K)) (pv 0) (pv 3) (fun _ _=>rfl)) (De (pv 2) (Aw (Be (K:=K)) (pv 1) An (fun _ _=>rfl)) Ca)))) (Ak (C8 (Aq Ht hr (Aa An (Aa (Aw (Av (K:=K)) (pv 0) (pv 3) (fun _ _=>rfl)) (Aa (Aw (Be (K:=K)) (pv 1) An (fun _ _=>rfl)) (Aa (Aw (Av (K:=K)) (pv 0) (Aw (Be (K:=K)) (pv 1) An (fun _ _=>rfl)) (fun _ _=>rfl)) Ai))))) (De (pv 2) (pv 3) Ca))))))
    (Ak (Bh (pv 2)))))),?_⟩
   refine⟨_,rfl,r,as.map V.ref,rfl,.inl hq,fun L hL=>?_⟩;have sL:Ao H (upd H L (.lst (as.map V.ref))):=Ao.new hL;generalize SG:upd H L (.lst (as.map V.ref))=HL at sL;have pS:HL L=some (.lst (as.map V.ref)):=by rw[←SG];exact Ae
   have NC:SqL K HL r (as.map V.ref):=sL.seq hq
   have fin:∀(i:Nat) (D:Addr) (H1:Hp),i<n->HL D=none->Ao HL H1->H1 D=some (.lst (VI W (Eb t f i)))->(∀r,r≠i->Eb t f r=f r)->H1 L=some (.lst (as.map V.ref))/\Q (.ref L) (upd H1 L (.lst ((as.map V.ref).set i (.ref D)))):=by
    intro i D H1 hi hD s1 h1 he;have oV:D≠L:=fun z=>by rw[z,pS]at hD;cases hD
    refine⟨s1 _ _ pS,?_⟩;have s2:Ao H (upd H1 L (.lst ((as.map V.ref).set i (.ref D)))):=(sL.trans s1).turn hL;refine k L (as.set i D) _ hL s2 (x.made s2 hi Ae (by rw[As oV];exact h1) he) fun a ha=>?_;rcases qm6 ha with ha | rfl
    . exact⟨.inl ha,fun z=>x.there.2 a ha (z▸hL)⟩
    . exact⟨.inr (sL.free hD),oV⟩
   cases t with
   | sw i j=>exact hm.elim
   | mi i =>
     have hi:i<n:=hm;obtain⟨ta,vs,rfl,hT,rT⟩:=hu;obtain⟨_,_,rfl,rfl,_,_,rfl,rfl,rfl⟩:=rT;have hT1:Du K HL ta [V.str "minus",V.int i]:=sL.seqT hT;obtain⟨b,_,eb,_,hb⟩:=x.row (K:=K) hi;refine⟨_,rfl,ta,_,_,_,rfl,rfl,hT1,rfl,?_⟩;refine⟨_,rfl,ta,_,_,_,rfl,rfl,hT1,rfl,rfl,_,rfl,?_⟩;refine Yu (by decide +kernel) ?_;refine⟨_,rfl,_,rfl,r,_,_,_,rfl,rfl,NC,Bi eb,b,rfl,⟨_,sL.seq hb⟩,fun D hD=>?_⟩
     refine Da (K:=K) (a:=b) (xs:=VI W (f i)) (fun c ys τ H1=>Ao HL H1/\H1 D=some (.lst ys)/\ys=VI c (fun c=>-(f i c))/\∃o,τ=[o])
      ⟨Ao.new hD,Ae,rfl,none,rfl⟩ (fun c ys τ H1 _ ⟨s1,_⟩=>s1.seq (sL.seq hb)) ?_ ?_
     . rintro c y ys τ H1 hx ⟨s1,F9,rfl,o,rfl⟩;obtain⟨hc,rfl⟩:=E9 hx;refine⟨_,rfl,_,rfl,F9,small (by rw[Ba];omega),s1.turn hD,Ae,?_,_,rfl⟩;rw[Er]
     . rintro ys τ H1 ⟨s1,F9,rfl,_⟩;rw[Ba]at F9;obtain⟨f1,f2⟩:=fin i D H1 hi hD s1 (by rw[F9];congr 2;exact Fa fun c _=>by simp[Eb]) fun r hr=>by funext c;simp[Eb,hr]
       exact⟨_,rfl,_,rfl,L,_,_,i,rfl,rfl,f1,He (by rw[qa3,x.1];exact hi),⟨_,rfl,f2⟩⟩
   | ad i j m =>
     obtain⟨hi,hj,hij,hm⟩:=hm;obtain⟨ta,vs,rfl,hT,rT⟩:=hu;obtain⟨_,_,rfl,rfl,_,_,rfl,rfl,_,_,rfl,rfl,_,_,rfl,rfl,rfl⟩:=rT;have hT1:Du K HL ta [V.str "add",V.int i,V.int j,V.int m]:=sL.seqT hT;obtain⟨bi,_,kQ,_,hbi⟩:=x.row (K:=K) hi;obtain⟨bj,_,KP,_,fP⟩:=x.row (K:=K) hj;refine⟨_,rfl,ta,_,_,_,rfl,rfl,hT1,rfl,?_⟩;refine⟨_,rfl,ta,_,_,_,rfl,rfl,hT1,rfl,rfl,_,rfl,?_⟩;refine M1 (by decide +kernel) ?_;refine⟨_,rfl,ta,_,_,_,rfl,rfl,hT1,rfl,rfl,_,rfl,?_⟩;refine M1 (by decide +kernel) ?_;refine⟨_,rfl,_,rfl,r,_,_,_,rfl,rfl,NC,Bi kQ,_,rfl,ta,_,_,_,rfl,rfl,hT1,rfl,_,rfl,_,rfl,ta,_,_,_,rfl,rfl,hT1,rfl,r,_,_,_,rfl,rfl,NC,Bi KP,?_⟩;refine⟨1,m,bi,bj,W,f i,f j,rfl,sL.seq hbi,sL.seq fP,hW,fun c hc=>⟨N6 (by decide) (by decide),hm c hc⟩,fun D H1 hD s1 F9=>?_⟩;obtain⟨f1,f2⟩:=fin i D H1 hi hD s1 (by rw[F9];congr 2;exact Fa fun c _=>by simp[Eb]) fun r hr=>by funext c;simp[Eb,hr]
     exact⟨_,rfl,_,rfl,L,_,_,i,rfl,rfl,f1,He (by rw[qa3,x.1];exact hi),⟨_,rfl,f2⟩⟩
noncomputable abbrev Dk:Stmt:=Ea (top 19) 2
theorem Cl:FnScope ["self","i","j","one","other","papers","a","b","c","d","row","back"] ["self","i","j","one","other"] (Ar Dk):=Bn
theorem Kg{f:Addr}{fd:FuncData}(F:Fb K "blend" "Lines.blend" Dk f fd)(T:Ga K mg Ad Ab Ag)(En:Has P w K mg base "shared_divisor" ["one","other"] 1 (Ox K))(Ht:Has P w K mg base "mixed" ["a","one","b","other"] 1 (Qb K)):By P w K mg base Ex 2 f fd ["self","i","j","one","other"] (Hz K Ad Ab Ag):=by
 refine F.ok Cl (fun vs H Q E h=>?_) (fun Dp A outer s H vs Q E hr h=>?_)
 . obtain⟨_,_,_,_,_,_,_,_,_,_,_,_,_,rfl,_⟩:=h;rfl
 . obtain⟨p,C,r,b,sv,n,W,i,j,A,B,s,N,rfl,hC,x,hi,hj,hij,hn,hW,hA,hB,lA,lB,bo,k⟩:=h;obtain⟨dx,fs,hp,l1,l2,l3,l4,l5⟩:=x.ob;obtain⟨as,xa,na⟩:=x.rw;obtain⟨bs,xb,nb⟩:=x.bk;obtain⟨pr,pb⟩:=x.refs;have rb:=x.ne
   have hc:Cls K C/\NoAttr K C "rows"/\NoAttr K C "backs":=by
    rcases hC with rfl | rfl
    . exact⟨T.cl_Lines,T.na_Lines_rows,T.na_Lines_backs⟩
    . exact⟨T.cl_Stairs,T.na_Stairs_rows,T.na_Stairs_backs⟩
   refine⟨_,(Af (Au (i:=5) Cl.nd (Aq En hr (Aa (pv 3) (Aa (pv 4) Ai))))
    (Af (Au (i:=6) Cl.nd (Aw (Be (K:=K)) (pv 5) An (fun _ _=>rfl)))
    (Af (Au (i:=7) Cl.nd (Aw (Be (K:=K)) (pv 5) An (fun _ _=>rfl)))
    (Af (Au (i:=8) Cl.nd (Jo F0 (Bg Fx (pv 4) (Aw (Be (K:=K)) (pv 5) An (fun _ _=>rfl)))))
    (Af (Au (i:=9) Cl.nd (Bg Fx (pv 3) (Aw (Be (K:=K)) (pv 5) An (fun _ _=>rfl))))
    (Af (Au (i:=10) Cl.nd (Aw (Av (K:=K)) (At (K:=K) (pv 0)) (pv 1) (fun _ _=>rfl)))
    (Af (C8 (Aq Ht hr (Aa (pv 6) (Aa (pv 10) (Aa (pv 7) (Aa (Aw (Av (K:=K)) (At (K:=K) (pv 0)) (pv 2) (fun _ _=>rfl)) Ai))))) (De (At (K:=K) (pv 0)) (pv 1) Ca))
    (Af (C8 (Aq Ht hr (Aa (pv 8) (Aa (pv 10) (Aa (pv 9) (Aa (Aw (Av (K:=K)) (At (K:=K) (pv 0)) (pv 2) (fun _ _=>rfl)) Ai))))) (De (At (K:=K) (pv 0)) (pv 2) Ca))
    (Af (Au (i:=11) Cl.nd (Aw (Av (K:=K)) (At (K:=K) (pv 0)) (pv 1) (fun _ _=>rfl)))
    (Af (C8 (Aq Ht hr (Aa (pv 9) (Aa (pv 11) (Aa (Jo F0 (pv 8)) (Aa (Aw (Av (K:=K)) (At (K:=K) (pv 0)) (pv 2) (fun _ _=>rfl)) Ai))))) (De (At (K:=K) (pv 0)) (pv 1) Ca))
    (Af (C8 (Aq Ht hr (Aa (Jo F0 (pv 7)) (Aa (pv 11) (Aa (pv 6) (Aa (Aw (Av (K:=K)) (At (K:=K) (pv 0)) (pv 2) (fun _ _=>rfl)) Ai))))) (De (At (K:=K) (pv 0)) (pv 2) Ca))
    (Ak (Bh (pv 5)))))))))))))),?_⟩
   refine qp8 (fun σ' H'=>∃(L:Addr) (g a c:Int),σ'=[rS p,iS i,iS j,iS A,iS B,rS L,none,none,none,none,none,none]/\Ao H H'/\Du K H' L [.int g,.int a,.int c]/\Lat.Shares A B g a c) (fun key=>?_) ?_
   . exact⟨_,rfl,_,rfl,A,B,rfl,hA,hB,lA,lB,fun L g a c H1 s1 hL sh=>key _ _ ⟨L,g,a,c,rfl,s1,hL,sh⟩⟩
   refine IY fun L g a c H1 s1 hL sh=>?_;have g0:=sh.pos;have lg:g.natAbs<L9:=qa7 (Nat.le_of_dvd (Int.natAbs_pos.mpr O9m) (qn9.mpr sh.dA)) lA;have cb:∀z:Int,Nh z g:=fun z=>Nh.of9 O9m lg;have la:a.natAbs<L9:=qa7 sh.la lB;have lc:c.natAbs<L9:=qa7 sh.lb lA;have eB:B.fdiv g=B / g:=qd7 _ O9m;have eA:A.fdiv g=A / g:=qd7 _ O9m;have QX:(B / g).natAbs<L9:=qa7 (qe1 _ _) lB;have lz:(-(B / g)).natAbs<L9:=by rw[qb3];exact QX
   have lu:(A / g).natAbs<L9:=qa7 (qe1 _ _) lA;have hp1:=s1 _ _ hp;have hr1:=s1 _ _ xa.2.1;obtain⟨ci,_,AS,OW,y9⟩:=xa.row (K:=K) hi;obtain⟨cj,_,iP,qX,kJ⟩:=xa.row (K:=K) hj;obtain⟨di,_,kP,mS,hdi⟩:=xb.row (K:=K) hi;obtain⟨dj,_,LZ,oW,nK⟩:=xb.row (K:=K) hj;have mk:∀{u:Int}{k c U:Nat}{f:Lat.Mat},u.natAbs<L9->Lat.Bits n U Xv f->k<n->c<U->IntMulOk u (f k c):=fun h1 h2 h3 h4=>Ym h1 (h2 _ _ h3 h4);refine⟨_,rfl,L,_,_,_,rfl,rfl,hL,rfl,?_⟩;refine⟨_,rfl,L,_,_,_,rfl,rfl,hL,rfl,?_⟩;refine⟨_,rfl,_,rfl,L,_,_,_,rfl,rfl,hL,rfl,_,_,rfl,rfl,cb _,_,rfl,?_⟩;refine⟨_,rfl,_,rfl,L,_,_,_,rfl,rfl,hL,rfl,_,_,rfl,rfl,cb _,?_⟩;refine⟨_,rfl,p,C,dx,fs,_,rfl,hp1,hc.1,hc.2.1,l1,_,rfl,r,_,_,_,rfl,rfl,.of hr1,Bi AS,?_⟩;refine Ap (fun σ' H'=>σ'=[rS p,iS i,iS j,iS A,iS B,rS L,iS a,iS c,some (.int (-(B / g))),some (.int (A / g)),rS ci,none]/\H1=H') ?_ fun key=>key _ _ ⟨by rw[←eA,←eB];rfl,rfl⟩;refine Hw ?_;refine qp8 (fun σ' H'=>∃D1,σ'=[rS p,iS i,iS j,iS A,iS B,rS L,iS a,iS c,some (.int (-(B / g))),some (.int (A / g)),rS ci,none]/\Op r b H1 H'/\Kp H1 H'/\H1 D1=none/\H' b=H1 b/\H' r=some (.lst ((as.map V.ref).set i (.ref D1)))/\H' D1=some (.lst (VI W fun k=>a*s.1 i k+c*s.1 j k))) (fun key=>?_) ?_
   . refine⟨_,rfl,_,rfl,_,rfl,_,rfl,p,C,dx,fs,_,rfl,hp1,hc.1,hc.2.1,l1,_,rfl,r,_,_,_,rfl,rfl,.of hr1,Bi iP,?_⟩;refine⟨a,c,ci,cj,W,s.1 i,s.1 j,rfl,s1.seq y9,s1.seq kJ,hW,fun k hk=>⟨mk la bo.1 hi hk,mk lc bo.1 hj hk⟩,fun D1 H2 F9 s2 h2=>?_⟩;have nD:D1≠r:=fun z=>by rw[z,hr1]at F9;cases F9
     refine⟨_,rfl,p,C,dx,fs,_,rfl,(s2 _ _ hp1),hc.1,hc.2.1,l1,_,rfl,r,_,_,i,rfl,rfl,s2 _ _ hr1,He (by rw[qa3,xa.1];exact hi),?_⟩;exact key _ _ ⟨D1,rfl,(Op.of s2).l,(Kp.of s2).trans Kp.upd,F9,by rw[As rb.symm,s2 _ _ (s1 _ _ xb.2.1),s1 _ _ xb.2.1],Ae,by rw[As nD];exact h2⟩
   refine Zn fun D1 H3 CZ JZ n1 b3 r3 d3=>?_;have hp3:=CZ _ _ pr pb hp1;have kr:∀{G:Hp}{c:Addr},Op r b H1 G->c∈as->∀o,H c=some o->G c=some o:=fun fr hc o e=>fr _ _ (na _ hc).1 (na _ hc).2.1 (s1 _ _ e);have kb:∀{G:Hp}{c:Addr},Op r b H1 G->c∈bs->∀o,H c=some o->G c=some o:=fun fr hc o e=>fr _ _ (nb _ hc).1 (nb _ hc).2.1 (s1 _ _ e);have qr:∀{G:Hp}{k:Nat}{c:Addr},Op r b H1 G->c∈as->SqL K H c (VI W (s.1 k))->as[k]?=some c->SqL K G c (VI W (s.1 k)):=fun fr hc _ e=>.of (kr fr hc _ (xa.2.2 _ _ e));have ML:as[i]?=some ci:=by rw[qc1]at AS;obtain⟨z,e1,e2⟩:=qk4.mp AS;cases e2;exact e1
   have QS:as[j]?=some cj:=by rw[qc1]at iP;obtain⟨z,e1,e2⟩:=qk4.mp iP;cases e2;exact e1
   have LH:bs[i]?=some di:=by rw[qc1]at kP;obtain⟨z,e1,e2⟩:=qk4.mp kP;cases e2;exact e1
   have oQ:bs[j]?=some dj:=by rw[qc1]at LZ;obtain⟨z,e1,e2⟩:=qk4.mp LZ;cases e2;exact e1
   have MD:D1≠r:=fun z=>by rw[z,hr1]at n1;cases n1
   have mE:D1≠b:=fun z=>by rw[z,s1 _ _ xb.2.1]at n1;cases n1
   refine qp8 (fun σ' H'=>∃D2,σ'=[rS p,iS i,iS j,iS A,iS B,rS L,iS a,iS c,some (.int (-(B / g))),some (.int (A / g)),rS ci,none]/\Op r b H3 H'/\Kp H3 H'/\H3 D2=none/\H' b=H3 b/\H' r=some (.lst (((as.map V.ref).set i (.ref D1)).set j (.ref D2)))/\H' D2=some (.lst (VI W fun k=>-(B / g)*s.1 i k+A / g*s.1 j k))) (fun key=>?_) ?_
   . refine⟨_,rfl,_,rfl,_,rfl,_,rfl,p,C,dx,fs,_,rfl,hp3,hc.1,hc.2.1,l1,_,rfl,r,_,_,_,rfl,rfl,.of r3,Bi (by rw[ql4 hij];exact iP),?_⟩;refine⟨-(B / g),A / g,ci,cj,W,s.1 i,s.1 j,rfl,qr CZ OW y9 ML,qr CZ qX kJ QS,hW,fun k hk=>⟨mk lz bo.1 hi hk,mk lu bo.1 hj hk⟩,fun D2 H4 z7 s4 h4=>?_⟩;have nD:D2≠r:=fun z=>by rw[z,r3]at z7;cases z7
     refine⟨_,rfl,p,C,dx,fs,_,rfl,(s4 _ _ hp3),hc.1,hc.2.1,l1,_,rfl,r,_,_,j,rfl,rfl,s4 _ _ r3,He (by rw[qg4,qa3,xa.1];exact hj),?_⟩;refine key _ _ ⟨D2,rfl,(Op.of s4).l,(Kp.of s4).trans Kp.upd,z7,?_,Ae,by rw[As nD];exact h4⟩;have e3:H3 b=some (.lst (bs.map V.ref)):=by rw[b3];exact s1 _ _ xb.2.1
     rw[As rb.symm,s4 _ _ e3,e3]
   refine Zn fun D2 H5 HS IK n2 b5 r5 d5=>?_;have e5:H5 b=some (.lst (bs.map V.ref)):=by rw[b5,b3];exact s1 _ _ xb.2.1
   have HV:=CZ.trans HS;have y4:=HS _ _ pr pb hp3;have oG:D2≠r:=fun z=>by rw[z,r3]at n2;cases n2
   have OG:D2≠b:=fun z=>by rw[z,b3,s1 _ _ xb.2.1]at n2;cases n2
   refine⟨_,rfl,p,C,dx,fs,_,rfl,y4,hc.1,hc.2.2,l2,_,rfl,b,_,_,_,rfl,rfl,.of e5,Bi kP,?_⟩;refine Ap (fun σ' H'=>σ'=[rS p,iS i,iS j,iS A,iS B,rS L,iS a,iS c,some (.int (-(B / g))),some (.int (A / g)),rS ci,rS di]/\H5=H') ?_ fun key=>key _ _ ⟨rfl,rfl⟩;refine Hw ?_;refine qp8 (fun σ' H'=>∃D3,σ'=[rS p,iS i,iS j,iS A,iS B,rS L,iS a,iS c,some (.int (-(B / g))),some (.int (A / g)),rS ci,rS di]/\Op r b H5 H'/\Kp H5 H'/\H5 D3=none/\H' r=H5 r/\H' b=some (.lst ((bs.map V.ref).set i (.ref D3)))/\H' D3=some (.lst (VI n fun k=>A / g*s.2 i k+-(-(B / g))*s.2 j k))) (fun key=>?_) ?_
   . refine⟨_,rfl,_,rfl,_,rfl,_,rfl,_,rfl,p,C,dx,fs,_,rfl,y4,hc.1,hc.2.2,l2,_,rfl,b,_,_,_,rfl,rfl,.of e5,Bi LZ,?_⟩;refine⟨A / g,-(-(B / g)),di,dj,n,s.2 i,s.2 j,rfl,.of (kb HV mS _ (xb.2.2 _ _ LH)),.of (kb HV oW _ (xb.2.2 _ _ oQ)),hn,fun k hk=>⟨mk lu bo.2 hi hk,mk (by rw[qb3];exact lz) bo.2 hj hk⟩,fun D3 H6 Xc s6 h6=>?_⟩;have nD:D3≠b:=fun z=>by rw[z,e5]at Xc;cases Xc
     refine⟨_,rfl,p,C,dx,fs,_,rfl,(s6 _ _ y4),hc.1,hc.2.2,l2,_,rfl,b,_,_,i,rfl,rfl,s6 _ _ e5,He (by rw[qa3,xb.1];exact hi),?_⟩;exact key _ _ ⟨D3,rfl,(Op.of s6).r,(Kp.of s6).trans Kp.upd,Xc,by rw[As rb,s6 _ _ r5,r5],Ae,by rw[As nD];exact h6⟩
   refine Zn fun D3 H7 LY pC n3 r7 b7 d7=>?_;have HU:=HV.trans LY;have pL:=LY _ _ pr pb y4;have qE:D3≠r:=fun z=>by rw[z,r5]at n3;cases n3
   have QE:D3≠b:=fun z=>by rw[z,e5]at n3;cases n3
   refine qp8 (fun σ' H'=>∃D4,σ'=[rS p,iS i,iS j,iS A,iS B,rS L,iS a,iS c,some (.int (-(B / g))),some (.int (A / g)),rS ci,rS di]/\Op r b H7 H'/\Kp H7 H'/\H7 D4=none/\H' r=H7 r/\H' b=some (.lst (((bs.map V.ref).set i (.ref D3)).set j (.ref D4)))/\H' D4=some (.lst (VI n fun k=>-c*s.2 i k+a*s.2 j k))) (fun key=>?_) ?_
   . refine⟨_,rfl,_,rfl,_,rfl,_,rfl,_,rfl,p,C,dx,fs,_,rfl,pL,hc.1,hc.2.2,l2,_,rfl,b,_,_,_,rfl,rfl,.of b7,Bi (by rw[ql4 hij];exact LZ),?_⟩;refine⟨-c,a,di,dj,n,s.2 i,s.2 j,rfl,.of (kb HU mS _ (xb.2.2 _ _ LH)),.of (kb HU oW _ (xb.2.2 _ _ oQ)),hn,fun k hk=>⟨mk (by rw[qb3];exact lc) bo.2 hi hk,mk la bo.2 hj hk⟩,fun D4 H8 nT s8 h8=>?_⟩;have nD:D4≠b:=fun z=>by rw[z,b7]at nT;cases nT
     refine⟨_,rfl,p,C,dx,fs,_,rfl,(s8 _ _ pL),hc.1,hc.2.2,l2,_,rfl,b,_,_,j,rfl,rfl,s8 _ _ b7,He (by rw[qg4,qa3,xb.1];exact hj),?_⟩;refine key _ _ ⟨D4,rfl,(Op.of s8).r,(Kp.of s8).trans Kp.upd,nT,?_,Ae,by rw[As nD];exact h8⟩;have e7:=r7.trans r5;rw[As rb,s8 _ _ e7,e7]
   refine Zn fun D4 H9 lY RD n4 r9 b9 d9=>?_;have z8:=HU.trans lY;have tK:D4≠r:=fun z=>by rw[z,r7,r5]at n4;cases n4
   have tL:D4≠b:=fun z=>by rw[z,b7]at n4;cases n4
   have pF:Kp H1 H9:=((JZ.trans IK).trans pC).trans RD;have u1:H D1=none:=s1.free n1
   have Uh:∀{G:Hp}{D:Addr},Kp H G->G D=none->H D=none:=fun kp e=>by
    cases z:H _ with
    | none=>rfl
    | some o=>exact absurd e (kp _ (by rw[z];exact fun q=>by cases q))
   have KA:Kp H H1:=Kp.of s1;have u2:H D2=none:=Uh (KA.trans JZ) n2;have u3:H D3=none:=Uh ((KA.trans JZ).trans IK) n3;have u4:H D4=none:=Uh (((KA.trans JZ).trans IK).trans pC) n4;have nN:∀a,H a=none->¬N a:=fun a e z=>x.nn a z e
   have SA:Du K H9 L [.int g,.int a,.int c]:=by
    rcases hL with h | h
    . exact .inl (by
       have pR:L≠r:=fun z=>by rw[z]at h;rcases h with h|⟨_,h⟩<;>rw[hr1]at h<;>cases h
       have PR:L≠b:=fun z=>by rw[z]at h;rcases h with h|⟨_,h⟩<;>rw[s1 _ _ xb.2.1]at h<;>cases h
       rcases h with h|⟨q,h⟩
       . exact .inl (z8 _ _ pR PR h)
       . exact .inr ⟨q,z8 _ _ pR PR h⟩)
    . exact .inr h
   refine⟨_,rfl,k L g a c H9 ((Op.of s1).trans z8) (KA.trans pF) SA sh ⟨⟨dx,fs,z8 _ _ pr pb hp1,l1,l2,l3,l4,l5⟩,⟨_,xa.two (D1:=D1) (D2:=D2) hi hj hij ?_ (fun a ha=>kr z8 ha) ?_ ?_ ?_,fun a ha=>?_⟩,⟨_,xb.two hi hj hij b9 (fun a ha=>kb z8 ha) ?_ ?_ ?_,fun a ha=>?_⟩,rb,x.nr,x.nb,fun a ha z=>x.nn a ha (Uh (KA.trans pF) z)⟩⟩
   . rw[r9,r7,r5]
   . show H9 D1=some (.lst (VI W (Lat.blendR s.1 i j a c (-(B / g)) (A / g) i)));rw[Lat.blend_row_p hij];exact(lY _ _ MD mE (LY _ _ MD mE (HS _ _ MD mE d3)))
   . show H9 D2=some (.lst (VI W (Lat.blendR s.1 i j a c (-(B / g)) (A / g) j)));rw[Lat.blend_row_q];exact(lY _ _ oG OG (LY _ _ oG OG d5))
   . exact fun k k1 k2=>Lat.blend_row_ne k1 k2 _ _ _ _
   . rcases Z8 ha with ha | rfl | rfl
     . exact na a ha
     . exact⟨MD,mE,nN _ u1⟩
     . exact⟨oG,OG,nN _ u2⟩
   . show H9 D3=some (.lst (VI n (Lat.blendR s.2 i j (A / g) (-(-(B / g))) (-c) a i)));rw[Lat.blend_row_p hij];exact lY _ _ qE QE d7
   . show H9 D4=some (.lst (VI n (Lat.blendR s.2 i j (A / g) (-(-(B / g))) (-c) a j)));rw[Lat.blend_row_q];exact d9
   . exact fun k k1 k2=>Lat.blend_row_ne k1 k2 _ _ _ _
   . rcases Z8 ha with ha | rfl | rfl
     . exact nb a ha
     . exact⟨qE,QE,nN _ u3⟩
     . exact⟨tK,tL,nN _ u4⟩
noncomputable abbrev F3:Stmt:=Ea (top 22) 0
theorem No:FnScope ["self","rows","backs"] ["self","rows","backs"] (Ar F3):=Bn
theorem N3{f:Addr}{fd:FuncData}(F:Fb K "__init__" "Stairs.__init__" F3 f fd)(T:Ga K mg Ad Ab Ag)(Rl:iG P w K mg base Ad "__init__" ["self","rows","backs"] 1 (Hy K Ad Ab Ag)):By P w K mg base Ex 2 f fd ["self","rows","backs"] (Wg K Ad Ab Ag):=by
 refine F.ok No (fun vs H Q E h=>?_) (fun Dp A outer s H vs Q E hr h=>?_)
 . obtain⟨_,_,_,_,rfl,_⟩:=h;rfl
 . obtain⟨p,dx,r,b,rfl,hp,k⟩:=h
   refine⟨_,(Af (Bw (dU Rl hr (by rfl) T.m_Lines (Aa (pv 0) (Aa (pv 1) (Aa (pv 2) Ai)))))
    (Ak (D9 (K:=K) (pv 0) (Jb Ai)))),?_⟩
   refine⟨_,rfl,_,rfl,_,rfl,p,dx,Ab,r,b,rfl,.inr rfl,hp,fun H1 fs hfs PU=>?_⟩;have hp1:H1 p=some (.ins Ab dx fs):=by rw[PU];exact Ae
   have s1:SameX p H H1:=by rw[PU];exact SameX.upd (SameX.upd (SameX.refl _ _))
   have hl:fs.length<=2:=by rw[hfs];exact qa1 (Bs _ _ _) (qf8 (Bs _ _ _))
   refine⟨qa5 _,fun D hD=>?_⟩;have NS:p≠D:=Bb hp1 hD;refine⟨_,rfl,p,Ab,dx,fs,rfl,by rw[As NS];exact hp1,T.cl_Stairs,T.na_Stairs_starts,O9m,?_⟩;refine k D _ _ ?_ (by rw[hfs]) (SameX.upd (s1.trans (SameX.of (Ao.new hD)))) (by rw[As NS.symm];exact Ae) Ae;cases z:H D with
   | none=>rfl
   | some o=>rw[s1 _ _ NS.symm z]at hD;cases hD
noncomputable abbrev J5:Stmt:=top 33
theorem Ix:FnScope ["numbers","seen","i","value"] ["numbers","seen"] (Ar J5):=Bn
theorem U0{f:Addr}{fd:FuncData}(F:Fb K "first_bar" "first_bar" J5 f fd)(T:Ga K mg Ad Ab Ag)(Jh:Has P w K mg base "is_multiple" ["value","number"] 1 (Jm K))(L7:Has P w K mg base "number_at" ["numbers","i"] 1 (Li K)):By P w K mg base Ex 2 f fd ["numbers","seen"] (Lj K):=by
 refine F.ok Ix (fun vs H Q E h=>?_) (fun Dp A outer s H vs Q E hr h=>?_)
 . obtain⟨_,_,_,_,_,_,rfl,_⟩:=h;rfl
 . obtain⟨a,b,k0,n,f,s,rfl,ha,hb,hn,hp,k1,k2⟩:=h
   refine⟨_,(Af (Dg qc3 rfl (Uv (K:=K) (by rfl) T.n_enumerate (Aa (pv 1) Ai)) (Fs (K:=K) (n:=2) (by rfl) (Cc (Ax (i:=2) Ix.nd) (Cc (Ax (i:=3) Ix.nd) Fq))) (Ak (Ci (Gw (Fk (Aq Jh hr (Aa (pv 3) (Aa (Aq L7 hr (Aa (pv 0) (Aa (pv 2) Ai))) Ai))))) (Ak (Bh (pv 2))) Br)))
    (Ak (Bh Q0))),?_⟩
   refine qp8 (fun σ' H'=>∃o2 o3,σ'=[rS a,rS b,o2,o3]/\Ao H H'/\∀i,i<n->¬Lat.Bar f k0 s i) (fun key=>?_) ?_
   . refine⟨_,rfl,b,rfl,⟨_,hb⟩,?_⟩;refine Xe (K:=K) (a:=b) (xs:=VI n s) (fun i σ G=>∃o2 o3,σ=[rS a,rS b,o2,o3]/\Ao H G/\∀j,j<i->¬Lat.Bar f k0 s j) ⟨none,none,rfl,Ao.refl H,fun j hj=>O9m⟩ (fun i σ G _ ⟨_,_,_,s1,_⟩=>s1.seq hb) ?_ ?_
     . rintro i x σ G p hx ⟨o2,o3,rfl,s1,hS⟩ ND;obtain⟨hi,rfl⟩:=E9 hx;have sp:Ao G (upd G p (.tup [.int i,.int (s i)])):=Ao.new ND;refine⟨p,_,rfl,.of Ae,rfl,_,_,rfl,_,_,rfl,rfl,?_⟩;generalize upd G p (.tup [.int i,.int (s i)])=G1 at sp;have s2:=s1.trans sp
       have h0:0<=Lat.numAt f k0 i:=by
        unfold Lat.numAt;split
        . exact qp7 (hp _ (by assumption))
        . decide
       refine⟨_,rfl,_,rfl,_,rfl,a,k0,i,f,rfl,s2.seq ha,_,_,rfl,h0,_,rfl,?_⟩;refine ite2 (fun h1=>?_) (fun h1=>?_)
       . have h2:¬Lat.numAt f k0 i∣s i:=by simpa using h1
         exact⟨_,rfl,k2 i hi h2 _ s2⟩
       . have h2:Lat.numAt f k0 i∣s i:=by simpa using h1
         refine⟨_,_,rfl,s2,fun j hj=>?_⟩;rcases qe3 j i with z | z
         . exact hS j z
         . have:j=i:=O9m
           subst this;exact fun q=>q h2
     . rintro σ G ⟨o2,o3,rfl,s1,hS⟩;rw[Ba]at hS;exact key _ _ ⟨_,_,rfl,s1,hS⟩
   refine aX fun o2 o3 G s1 hS=>?_;exact k1 hS _ s1
noncomputable abbrev J8:Stmt:=top 40
theorem Mq:FnScope ["_law_found","_law_size","_law_number"] ["_law_found","_law_size"] (Ar J8):=Bn
theorem U3{f:Addr}{fd:FuncData}(F:Fb K "_law_is_list" "_law_is_list" J8 f fd)(T:Ga K mg Ad Ab Ag)(Rn:Has P w K mg base "_law_whole" ["_law_found"] 1 (Qc K)):By P w K mg base Ex 2 f fd ["_law_found","_law_size"] (Is K):=by
 refine F.ok Mq (fun vs H Q E h=>?_) (fun Dp A outer s H vs Q E hr h=>?_)
 . obtain⟨_,_,_,rfl,_⟩:=h;rfl
 . obtain⟨v,n,f,rfl,hv,k⟩:=h;obtain⟨a,rfl,hq⟩:=fV hv
   refine⟨_,(Af (Ci (PW.pt (Tj (Gw (Fk (Bf (C6 (K:=K)) T.n_isinstance Cd (Aa (pv 0) (Aa (Hd (v:=.ty "list") rfl T.n_list Cv rfl) Ai))))) (Ny (Bo Mv (Bf (Az (K:=K)) T.n_len qf7 (Aa (pv 0) Ai)) (pv 1) (Bq _))))) (Ak (Bh Kc)) Br)
    (Af (Dg qc3 rfl (Ct (K:=K) (pv 0)) (Ax (i:=2) Mq.nd) (Ak (Ci (Gw (Fk (Aq Rn hr (Aa (pv 2) Ai)))) (Ak (Bh Kc)) Br)))
    (Ak (Bh Kc)))),?_⟩
   refine⟨_,rfl,.ref a,"list",dL n f,rfl,.inr (.inr (.inr (.inr (.inl rfl)))),hv,_,rfl,?_⟩;refine M1 (by simp[Yt,dL]) ?_;refine⟨_,rfl,a,_,rfl,.inl hq,_,rfl,rfl,_,rfl,?_⟩;refine M1 (by simp[Ba,K5]) ?_;refine⟨_,rfl,a,rfl,⟨_,hq⟩,?_⟩
   refine for_list (K:=K) (a:=a) (xs:=VI n f) (fun j σ H1=>∃o2,σ=[rS a,iS n,o2]/\H=H1)
    ⟨_,rfl,rfl⟩ (fun j σ H1 _ ⟨_,_,e⟩=>e▸hq) ?_ ?_
   . rintro j x σ H1 hx ⟨LL,rfl,rfl⟩;obtain⟨hj,rfl⟩:=E9 hx;refine⟨_,rfl,_,.int (f j),rfl,rfl,_,rfl,?_⟩;refine M1 (by simp[Hj,Yt]) ?_;exact⟨_,rfl,rfl⟩
   . rintro σ H1 ⟨o2,rfl,rfl⟩;exact k
noncomputable abbrev F4:Stmt:=top 44
theorem Fi:FnScope ["_law_table","_law_turn","_law_rows","_law_at"] ["_law_table","_law_turn"] (Ar F4):=Bn
theorem N4{f:Addr}{fd:FuncData}(F:Fb K "_law_rows_turned" "_law_rows_turned" F4 f fd)(T:Ga K mg Ad Ab Ag)(K7:Has P w K mg base "_law_copy" ["_law_table"] 1 (Nl K)):By P w K mg base Ex 2 f fd ["_law_table","_law_turn"] (Hx K):=by
 refine F.ok Fi (fun vs H Q E h=>?_) (fun Dp A outer s H vs Q E hr h=>?_)
 . obtain⟨_,_,_,_,_,_,_,rfl,_⟩:=h;rfl
 . obtain⟨v,u,h,w,B,f,t,rfl,hv,hu,hok,bf,bt,hB,hh,hw,k⟩:=h;obtain⟨a,us,rfl,hq,L6,Ge⟩:=E7 hv
   have row:∀r,r<h->∃b,us[r]?=some (.ref b)/\SqL K H b (VI w (f r)):=fun r hr=>by
    obtain⟨_,b,e,hb⟩:=Ge r us[r] (qb0 O9m);exact⟨b,by rw[qb0 (by omega),e],hb⟩
   refine⟨_,(Af (Au (i:=2) Fi.nd (Aq K7 hr (Aa (pv 0) Ai)))
    (Af (Au (i:=3) Fi.nd (Aw (Be (K:=K)) (pv 1) An (fun _ _=>rfl)))
    (Af (Ci (Bo Ec (Aw (Be (K:=K)) (pv 1) An (fun _ _=>rfl)) Eh (Bq _)) (Ak (C8 (Co (N':=["_law_number"]) (cap:=[none]) (by rfl) (by kernel_rfl) (Ct (K:=K) (Aw (Av (K:=K)) (pv 0) (pv 3) (fun _ _=>rfl))) (fun _ _ _ _=>(Ax (i:=0) GS)) (fun _ _ _ _=>Cn) (fun _ _ _ _=>(Jo F0 (pv 0)))) (De (pv 2) (pv 3) Ca))) (Ak (Ci (Bo Ec (Aw (Be (K:=K)) (pv 1) An (fun _ _=>rfl)) Eh (Bq _)) (Af (C8 (D7 (C9 (K:=K)) (by rfl) T.n_list Cv (Aa (Aw (Av (K:=K)) (pv 0) (Aw (Be (K:=K)) (pv 1) An (fun _ _=>rfl)) (fun _ _=>rfl)) Ai)) (De (pv 2) (pv 3) Ca))
    (Ak (C8 (D7 (C9 (K:=K)) (by rfl) T.n_list Cv (Aa (Aw (Av (K:=K)) (pv 0) (pv 3) (fun _ _=>rfl)) Ai)) (De (pv 2) (Aw (Be (K:=K)) (pv 1) An (fun _ _=>rfl)) Ca)))) (Ak (C8 (Co (N':=["_law_number","_law_more","_law_turn"]) (cap:=[none,none,some 1]) (by rfl) (by kernel_rfl) (Qz (K:=K) (by rfl) T.n_zip (Aa (Aw (Av (K:=K)) (pv 0) (pv 3) (fun _ _=>rfl)) (Aa (Aw (Av (K:=K)) (pv 0) (Aw (Be (K:=K)) (pv 1) An (fun _ _=>rfl)) (fun _ _=>rfl)) Ai))) (fun _ _ _ _=>(Fs (K:=K) (n:=2) (by rfl) (Cc (Ax (i:=0) BQ) (Cc (Ax (i:=1) BQ) Fq)))) (fun _ _ _ _=>Cn) (fun _ _ _ _=>(Bg Do (pv 0) (Bg Dh (Aw (Be (K:=K)) (pv 2) An (fun _ _=>rfl)) (pv 1))))) (De (pv 2) (pv 3) Ca))))))
    (Ak (Bh (pv 2)))))),?_⟩
   refine⟨_,rfl,.ref a,h,w,f,rfl,hv,O9m,fun D as H1 hal R=>?_⟩;have s1:=R.same
   have ix:∀r,r<h->Xa (as.map V.ref).length ((r:Nat):Int)=some r:=fun r hr=>by
    unfold Xa;rw[qa3,if_pos (by omega),if_pos (by omega),qb6]
   have fin:∀{H2:Hp}{vs:List V}{f':Nat->Nat->Int},Ao H1 H2->vs.length=h->(∀r,r<h->∃b,vs[r]?=some (.ref b)/\b≠D/\H b=none/\H2 b=some (.lst (VI w (f' r))))->Rep K (Jr (upd H2 D (.lst vs)) fun a=>H a≠none) (.ref D) (dT h w f'):=fun {H2 vs f'} s2 hl hr=>by
    refine Xn (us:=vs) (.of ?_) hl fun r hr'=>?_
    . rw[Gh (fun z=>z R.free)];exact Ae
    . obtain⟨b,e1,n1,e2,e3⟩:=hr r hr';refine⟨b,e1,.of ?_⟩;rw[Gh (fun z=>z e2),As n1];exact e3
   have old:∀r,r<h->∃b,(as.map V.ref)[r]?=some (.ref b)/\b≠D/\H b=none/\H1 b=some (.lst (VI w (f r))):=fun r hr=>by
    have hr':r<as.length:=O9m
    obtain⟨h1,h2,h3⟩:=R.row r as[r] (qb0 hr');exact⟨as[r],by rw[qc1,qb0 hr'];rfl,h2,h1,h3⟩
   have lm:(as.map V.ref).length=h:=by rw[qa3];exact hal
   cases t with
   | mi i =>
     have hi:i<h:=hok;obtain⟨ta,vs,rfl,hT,rT⟩:=hu;obtain⟨_,_,rfl,rfl,_,_,rfl,rfl,rfl⟩:=rT;have hT1:Du K H1 ta [V.str "minus",V.int i]:=s1.seqT hT;obtain⟨b,eb,hb⟩:=row i hi;refine⟨_,rfl,ta,_,_,_,rfl,rfl,hT1,rfl,?_⟩;refine⟨_,rfl,ta,_,_,_,rfl,rfl,hT1,rfl,rfl,_,rfl,?_⟩;refine Yu (by decide +kernel) ?_;refine⟨_,rfl,_,rfl,a,us,_,_,rfl,rfl,s1.seq hq,Bi eb,b,rfl,⟨_,s1.seq hb⟩,fun E hE=>?_⟩
     refine Da (K:=K) (a:=b) (xs:=VI w (f i)) (fun c ys τ H2=>Ao H1 H2/\H2 E=some (.lst ys)/\ys=VI c (fun c=>-(f i c))/\∃o,τ=[o])
      ⟨Ao.new hE,Ae,rfl,none,rfl⟩ (fun c ys τ H2 _ ⟨s2,_⟩=>s2.seq (s1.seq hb)) ?_ ?_
     . rintro c x ys τ H2 hx ⟨s2,Vl,rfl,o,rfl⟩;obtain⟨hc,rfl⟩:=E9 hx;refine⟨_,rfl,_,rfl,Vl,small (by rw[Ba];omega),s2.turn hE,Ae,?_,_,rfl⟩;rw[Er]
     . rintro ys τ H2 ⟨s2,Vl,rfl,_⟩;rw[Ba]at Vl;refine⟨_,rfl,_,rfl,D,_,_,i,rfl,rfl,s2 _ _ R.at,ix i hi,?_⟩;refine⟨_,rfl,k D _ R.free ((s1.trans s2).turn R.free) (fin s2 (by simpa using lm) fun r hr=>?_)⟩;rw[qg2];by_cases e:i=r
       . subst e;rw[if_pos rfl,if_pos (by omega)];refine⟨E,rfl,(fun z=>by rw[z,R.at]at hE;cases hE),s1.free hE,?_⟩;rw[Vl]
         congr 2
         refine Fa fun c _=>?_;simp[Eb]
       . rw[if_neg e];obtain⟨b',e1,e2,e3,e4⟩:=old r hr;refine⟨b',e1,e2,e3,?_⟩;have e5:Eb (.mi i) f r=f r:=by funext c;simp[Eb,Ne.symm e]
         rw[e5];exact s2 _ _ e4
   | sw i j =>
     obtain⟨hi,hj,hij⟩:=hok;obtain⟨ta,vs,rfl,hT,rT⟩:=hu;obtain⟨_,_,rfl,rfl,_,_,rfl,rfl,_,_,rfl,rfl,rfl⟩:=rT;have hT1:Du K H1 ta [V.str "swap",V.int i,V.int j]:=s1.seqT hT;obtain⟨bi,kQ,hbi⟩:=row i hi;obtain⟨bj,KP,fP⟩:=row j hj;refine⟨_,rfl,ta,_,_,_,rfl,rfl,hT1,rfl,?_⟩;refine⟨_,rfl,ta,_,_,_,rfl,rfl,hT1,rfl,rfl,_,rfl,?_⟩;refine M1 (by decide +kernel) ?_;refine⟨_,rfl,ta,_,_,_,rfl,rfl,hT1,rfl,rfl,_,rfl,?_⟩;refine Yu (by decide +kernel) ?_;refine⟨_,rfl,_,rfl,ta,_,_,_,rfl,rfl,hT1,rfl,a,us,_,_,rfl,rfl,s1.seq hq,Bi KP,bj,_,rfl,.inl (s1.seq fP),fun E hE=>?_⟩;have s2:Ao H1 (upd H1 E (.lst (VI w (f j)))):=Ao.new hE;have OU:E≠D:=fun z=>by rw[z,R.at]at hE;cases hE
     refine⟨_,rfl,_,rfl,D,_,_,i,rfl,rfl,s2 _ _ R.at,ix i hi,?_⟩;have s3:Ao H (upd (upd H1 E (.lst (VI w (f j)))) D (.lst ((as.map V.ref).set i (.ref E)))):=(s1.trans s2).turn R.free;refine⟨_,rfl,_,rfl,a,us,_,_,rfl,rfl,s3.seq hq,Bi kQ,bi,_,rfl,.inl (s3.seq hbi),fun G hG=>?_⟩;have s4:Ao (upd (upd H1 E (.lst (VI w (f j)))) D (.lst ((as.map V.ref).set i (.ref E)))) (upd (upd (upd H1 E (.lst (VI w (f j)))) D (.lst ((as.map V.ref).set i (.ref E)))) G (.lst (VI w (f i)))):=Ao.new hG;have Xc:(upd (upd H1 E (.lst (VI w (f j)))) D (.lst ((as.map V.ref).set i (.ref E)))) D=some (.lst ((as.map V.ref).set i (.ref E))):=Ae;have QW:G≠D:=fun z=>by rw[z,Xc]at hG;cases hG
     have sH:H G=none:=s3.free hG;refine⟨_,rfl,_,rfl,ta,_,_,_,rfl,rfl,(s3.trans s4).seqT hT,rfl,D,_,_,j,rfl,rfl,s4 _ _ Xc,by rw[qg4];exact ix j hj,?_⟩;refine⟨_,rfl,k D _ R.free ((s3.trans s4).turn R.free) ?_⟩;have up:∀b q,b≠D->(upd H1 E (.lst (VI w (f j)))) b=some q->(upd (upd (upd H1 E (.lst (VI w (f j)))) D (.lst ((as.map V.ref).set i (.ref E)))) G (.lst (VI w (f i)))) b=some q:=fun b q n e=>s4 _ _ (by rw[As n];exact e);refine Xn (us:=((as.map V.ref).set i (.ref E)).set j (.ref G)) (.of ?_) (by simpa using lm) fun r hr=>?_
     . rw[Gh (fun z=>z R.free)];exact Ae
     . have key:∀b q,b≠D->H b=none->(upd (upd (upd H1 E (.lst (VI w (f j)))) D (.lst ((as.map V.ref).set i (.ref E)))) G (.lst (VI w (f i)))) b=some (.lst q)->SqL K (Jr (upd (upd (upd (upd H1 E (.lst (VI w (f j)))) D (.lst ((as.map V.ref).set i (.ref E)))) G (.lst (VI w (f i)))) D (.lst (((as.map V.ref).set i (.ref E)).set j (.ref G)))) fun a=>H a≠none) b q:=fun b q n1 n2 e=>.of (by rw[Gh (fun z=>z n2),As n1];exact e);rw[qg2,qg4];by_cases e:j=r
       . subst e;rw[if_pos rfl,if_pos (by omega)];have e5:Eb (.sw i j) f j=f i:=by funext c;simp[Eb]
         rw[e5];exact⟨G,rfl,key G _ QW sH Ae⟩
       . rw[if_neg e,qg2];by_cases e2:i=r
         . subst e2;rw[if_pos rfl,if_pos (by omega)];have e5:Eb (.sw i j) f i=f j:=by funext c;simp[Eb,hij]
           rw[e5];exact⟨E,rfl,key E _ OU (s1.free hE) (up E _ OU Ae)⟩
         . rw[if_neg e2];obtain⟨b',g1,g2,g3,g4⟩:=old r hr;have e5:Eb (.sw i j) f r=f r:=by funext c;simp[Eb,Ne.symm e,Ne.symm e2]
           rw[e5];exact⟨b',g1,key b' _ g2 g3 (up b' _ g2 (s2 _ _ g4))⟩
   | ad i j n =>
     obtain⟨hi,hj,hij⟩:=hok;obtain⟨ta,vs,rfl,hT,rT⟩:=hu;obtain⟨_,_,rfl,rfl,_,_,rfl,rfl,_,_,rfl,rfl,_,_,rfl,rfl,rfl⟩:=rT;have hT1:Du K H1 ta [V.str "add",V.int i,V.int j,V.int n]:=s1.seqT hT;obtain⟨bi,kQ,hbi⟩:=row i hi;obtain⟨bj,KP,fP⟩:=row j hj;refine⟨_,rfl,ta,_,_,_,rfl,rfl,hT1,rfl,?_⟩;refine⟨_,rfl,ta,_,_,_,rfl,rfl,hT1,rfl,rfl,_,rfl,?_⟩;refine M1 (by decide +kernel) ?_;refine⟨_,rfl,ta,_,_,_,rfl,rfl,hT1,rfl,rfl,_,rfl,?_⟩;refine M1 (by decide +kernel) ?_;refine⟨_,rfl,_,rfl,a,us,_,_,rfl,rfl,s1.seq hq,Bi kQ,_,rfl,_,rfl,ta,_,_,_,rfl,rfl,hT1,rfl,a,us,_,_,rfl,rfl,s1.seq hq,Bi KP,bi,bj,rfl,⟨_,s1.seq hbi⟩,⟨_,s1.seq fP⟩,fun E hE=>?_⟩
     refine Im (K:=K) (a:=bi) (b:=bj) (xs:=VI w (f i)) (ys:=VI w (f j)) (n:=w) (by rw[Ba,Ba,qm5]) (fun c ys τ H2=>Ao H1 H2/\H2 E=some (.lst ys)/\ys=VI c (fun c=>f i c+n*f j c)/\∃o1 o2,τ=[o1,o2,rS ta])
      ⟨Ao.new hE,Ae,rfl,none,none,rfl⟩ (fun c ys τ H2 _ ⟨s2,_⟩=>⟨s2.seq (s1.seq hbi),s2.seq (s1.seq fP)⟩) ?_ ?_
     . rintro c x y ys τ H2 pr hx hy ⟨s2,Vl,rfl,o1,o2,rfl⟩ hpr;obtain⟨hc,rfl⟩:=E9 hx;obtain⟨_,rfl⟩:=E9 hy;have sp:Ao H2 (upd H2 pr (.tup [.int (f i c),.int (f j c)])):=Ao.new hpr;refine⟨pr,_,rfl,.of Ae,rfl,_,_,rfl,_,_,rfl,rfl,?_⟩;refine⟨_,rfl,_,rfl,ta,_,_,_,rfl,rfl,(s2.trans sp).seqT hT1,rfl,_,rfl,_,_,rfl,rfl,Ih bt (bf j c) O9m,_,_,rfl,rfl,?_⟩;refine⟨sp _ _ Vl,small (by rw[Ba];omega),(s2.trans sp).turn hE,Ae,?_,_,_,rfl⟩;rw[Er]
     . rintro ys τ H2 ⟨s2,Vl,rfl,_⟩;refine⟨_,rfl,_,rfl,D,_,_,i,rfl,rfl,s2 _ _ R.at,ix i hi,?_⟩;refine⟨_,rfl,k D _ R.free ((s1.trans s2).turn R.free) (fin s2 (by simpa using lm) fun r hr=>?_)⟩;rw[qg2];by_cases e:i=r
       . subst e;rw[if_pos rfl,if_pos (by omega)];refine⟨E,rfl,(fun z=>by rw[z,R.at]at hE;cases hE),s1.free hE,?_⟩;rw[Vl]
         congr 2
         refine Fa fun c _=>?_;simp[Eb]
       . rw[if_neg e];obtain⟨b',e1,e2,e3,e4⟩:=old r hr;refine⟨b',e1,e2,e3,?_⟩;have e5:Eb (.ad i j n) f r=f r:=by funext c;simp[Eb,Ne.symm e]
         rw[e5];exact s2 _ _ e4
noncomputable abbrev Lv:Stmt:=top 8
theorem Wo:FnScope ["thing","width"] ["thing","width"] (Ar Lv):=Bn
theorem Wy{f:Addr}{fd:FuncData}(F:Fb K "is_table" "is_table" Lv f fd)(T:Ga K mg Ad Ab Ag)(Cj:Has P w K mg base "is_list_of_wholes" ["thing","many"] 2 (Dv K)):By P w K mg base Ex 3 f fd ["thing","width"] (Ot K):=by
 refine F.ok Wo (fun vs H Q E h=>?_) (fun Dp A outer s H vs Q E hr h=>?_)
 . obtain⟨_,_,_,_,rfl,_⟩:=h;rfl
 . obtain⟨v,h,w,f,rfl,hv,hh,hw,k⟩:=h;obtain⟨Os,Xs⟩:=T.x_MOST_ROWS;obtain⟨a,us,rfl,hq,L6,Ge⟩:=E7 hv
   refine⟨_,(Af (Ci (PW.pt (Tj (Gw (Fk (Bf (C6 (K:=K)) T.n_isinstance Cd (Aa (pv 0) (Aa (Hd (v:=.ty "list") rfl T.n_list Cv rfl) Ai))))) (Ny (Bo JQ (Bf (Az (K:=K)) T.n_len qf7 (Aa (pv 0) Ai)) (Z2 (v:=.int 40) (by rfl) Xs ⟨_,rfl⟩) (Bq _))))) (Ak (Bh Kc)) Br)
    (Ak (Bh (Bf (Rf (K:=K) (by rfl)) T.n_all T5 (Aa (Co (N':=["row","width"]) (cap:=[none,some 1]) (by rfl) (by kernel_rfl) (Ct (K:=K) (pv 0)) (fun _ _ _ _=>(Ax (i:=0) bQ)) (fun _ _ _ _=>Cn) (fun _ _ _ _=>(Aq Cj hr (Aa (pv 0) (Aa (pv 1) Ai))))) Ai))))),?_⟩
   refine⟨_,rfl,.ref a,"list",dT h w f,rfl,.inr (.inr (.inr (.inr (.inl rfl)))),hv,_,rfl,?_⟩;refine M1 (by simp[Yt,dT]) ?_;refine⟨_,rfl,a,_,rfl,.inl hq,_,_,rfl,rfl,_,rfl,?_⟩;refine M1 (by simp;omega) ?_;refine⟨_,rfl,a,rfl,⟨_,hq⟩,fun D hD=>?_⟩
   refine Da (K:=K) (a:=a) (xs:=us) (fun i ys τ H1=>Ao H H1/\H1 D=some (.lst ys)/\ys=(List.replicate i true).map V.bl/\∃o,τ=[o,iS w])
    ⟨Ao.new hD,Ae,rfl,none,rfl⟩ (fun i ys τ H1 _ ⟨s1,_⟩=>s1.seq hq) ?_ ?_
   . rintro i x ys τ H1 hx ⟨s1,F9,rfl,o,rfl⟩;obtain⟨hi,b,rfl,hb⟩:=Ge i _ hx;refine⟨_,rfl,_,rfl,b,w,f i,rfl,s1.seq hb,hw,fun H2 s2=>?_⟩;refine⟨s2 _ _ F9,small (by simp;omega),(s1.trans s2).turn hD,Ae,?_,_,rfl⟩;rw[List.replicate_succ',qe7];rfl
   . rintro ys τ H1 ⟨s1,F9,rfl,_⟩;refine⟨D,List.replicate us.length true,rfl,.of F9,?_⟩;rw[show(List.replicate us.length true).all id=true by simp];exact k H1 s1
noncomputable abbrev D6:Stmt:=Ea (top 19) 1
theorem Sb:FnScope ["self","turn"] ["self","turn"] (Ar D6):=Bn
theorem Ll{f:Addr}{fd:FuncData}(F:Fb K "turn" "Lines.turn" D6 f fd)(T:Ga K mg Ad Ab Ag)(M3:Has P w K mg base "turned" ["lines","turn"] 2 (Qh K))(P0:Has P w K mg base "across" ["turn"] 1 (Td K)):By P w K mg base Ex 3 f fd ["self","turn"] (Gr K Ad Ab Ag):=by
 refine F.ok Sb (fun vs H Q E h=>?_) (fun Dp A outer s H vs Q E hr h=>?_)
 . obtain⟨_,_,_,_,_,_,_,_,_,_,_,rfl,_⟩:=h;rfl
 . obtain⟨p,u,C,r,b,sv,n,W,s,N,t,rfl,hC,x,hu,m1,m2,hn,hW,k⟩:=h;obtain⟨dx,fs,hp,l1,l2,l3,l4,l5⟩:=x.ob;obtain⟨as,xa,na⟩:=x.rw;obtain⟨bs,xb,nb⟩:=x.bk
   have hc:Cls K C/\NoAttr K C "rows"/\NoAttr K C "backs":=by
    rcases hC with rfl | rfl
    . exact⟨T.cl_Lines,T.na_Lines_rows,T.na_Lines_backs⟩
    . exact⟨T.cl_Stairs,T.na_Stairs_rows,T.na_Stairs_backs⟩
   refine⟨_,(Af (D9 (K:=K) (pv 0) (Aq M3 hr (Aa (At (K:=K) (pv 0)) (Aa (pv 1) Ai))))
    (Ak (D9 (K:=K) (pv 0) (Aq M3 hr (Aa (At (K:=K) (pv 0)) (Aa (Aq P0 hr (Aa (pv 1) Ai)) Ai)))))),?_⟩
   refine⟨_,rfl,p,C,dx,fs,_,rfl,hp,hc.1,hc.2.1,l1,_,rfl,r,u,as,n,W,s.1,t,rfl,xa,hu,m1,hn,hW,fun D1 EU H1 F9 s1 x1 n1=>?_⟩;have hp1:=s1 _ _ hp;refine⟨_,rfl,p,C,dx,fs,rfl,hp1,hc.1,hc.2.1,O9m,?_⟩;have JH:SameX p H (upd H1 p (.ins C dx (putF "rows" (.ref D1) fs))):=SameX.upd (SameX.of s1);have jH:SameX p H1 (upd H1 p (.ins C dx (putF "rows" (.ref D1) fs))):=SameX.upd (SameX.refl _ _)
   have hu1:Rep K (upd H1 p (.ins C dx (putF "rows" (.ref D1) fs))) u (Y7 t):=by
    refine Rep.t ⟨fun b xs e=>?_,fun b o u e=>?_⟩ (by cases t<;>rfl) hu
    . exact JH b _ (Eu e hp (by intro z;cases z)) e
    . exact JH b _ (Eu e hp (by intro z;cases z)) e
   have hl1:(putF "rows" (V.ref D1) fs).length=fs.length:=Ie l1;have hp2:(upd H1 p (.ins C dx (putF "rows" (.ref D1) fs))) p=some (.ins C dx (putF "rows" (.ref D1) fs)):=Ae;have x2:=x1.x hp1 jH;have dF:=xb.x hp JH
   have eN:∀a,(upd H1 p (.ins C dx (putF "rows" (.ref D1) fs))) a=none->H a=none:=fun a e=>by
    by_cases hap:a=p
    . rw[hap,Ae]at e;cases e
    . rw[As hap]at e;exact s1.free e
   generalize LV:upd H1 p (.ins C dx (putF "rows" (.ref D1) fs))=H2 at JH jH hu1 hp2 x2 dF eN;refine⟨_,rfl,p,C,dx,_,_,rfl,hp2,hc.1,hc.2.2,(by rw[Al,if_neg (by decide +kernel)];exact l2),_,rfl,u,t,rfl,hu1,fun u2 H3 s3 rM=>?_⟩;refine⟨b,u2,bs,n,n,s.2,CV t,rfl,dF.same s3,rM,m2,hn,hn,fun D2 kT H4 z7 s4 x4 n4=>?_⟩;have LG:=s3.trans s4;have O5:=LG _ _ hp2;refine⟨_,rfl,p,C,dx,_,rfl,O5,hc.1,hc.2.2,O9m,?_⟩;have hl2:(putF "backs" (V.ref D2) (putF "rows" (V.ref D1) fs)).length=(putF "rows" (V.ref D1) fs).length:=Ie (x:=.ref b) (by rw[Al,if_neg (by decide +kernel)];exact l2);have gH:SameX p H4 (upd H4 p (.ins C dx (putF "backs" (.ref D2) (putF "rows" (.ref D1) fs)))):=SameX.upd (SameX.refl _ _);have f2:H D2=none:=eN _ (s3.free z7);have SY:D1≠D2:=fun z=>(x2.same s3).there.1 (z▸z7);have nN:∀a,H a=none->¬N a:=fun a e z=>x.nn a z e;refine k D1 D2 _ (SameX.upd (JH.trans (SameX.of LG))) F9 f2 ⟨⟨dx,_,Ae,?_,?_,?_,fun m hm=>?_,O9m⟩,⟨EU,(x2.same LG).x O5 gH,fun a ha=>?_⟩,⟨kT,x4.x O5 gH,fun a ha=>?_⟩,SY,nN _ F9,nN _ f2,fun a ha z=>?_⟩
   . rw[Al,if_neg (by decide +kernel),Al,if_pos rfl]
   . rw[Al,if_pos rfl]
   . rw[Al,if_neg (by decide +kernel),Al,if_neg (by decide +kernel)];exact l3
   . rw[Al,if_neg (fun z=>absurd (z▸hm) (by decide +kernel)),Al,if_neg (fun z=>absurd (z▸hm) (by decide +kernel))];exact l4 m hm
   . have h1:=(x2.same s3).there.2 a ha;obtain⟨h2,h3⟩:=n1 a ha;refine⟨h3,fun z=>h1 (z▸z7),?_⟩;rcases h2 with h2 | h2
     . exact(na a h2).2.2
     . exact nN a h2
   . obtain⟨h2,h3⟩:=n4 a ha;refine⟨fun z=>?_,h3,?_⟩
     . rcases h2 with h2 | h2
       . exact xb.there.2 a h2 (z▸F9)
       . exact(x2.same s3).there.1 (z▸h2)
     . rcases h2 with h2 | h2
       . exact(nb a h2).2.2
       . exact nN a (eN _ (s3.free h2))
   . by_cases hap:a=p
     . rw[hap,Ae]at z;cases z
     . rw[As hap]at z;exact x.nn a ha (eN _ (LG.free z))
noncomputable abbrev Hm:Stmt:=Ea (top 27) 0
theorem Qm:FnScope ["self","table","width"] ["self","table","width"] (Ar Hm):=Bn
theorem Q7{f:Addr}{fd:FuncData}(F:Fb K "__init__" "Work.__init__" Hm f fd)(T:Ga K mg Ad Ab Ag)(Gy:Zi P w K mg base Ad ["self","rows","backs"] 1 (Hy K Ad Ab Ag))(Tw:Has P w K mg base "ones" ["size"] 2 (Zx K)):By P w K mg base Ex 3 f fd ["self","table","width"] (Wj K Ad Ab Ag):=by
 refine F.ok Qm (fun vs H Q E h=>?_) (fun Dp A outer s H vs Q E hr h=>?_)
 . obtain⟨_,_,_,_,_,_,_,rfl,_⟩:=h;rfl
 . obtain⟨H0,p,dx,v,n,w,M,rfl,s0,fp,hp,hv,hn,hw,k⟩:=h;obtain⟨ta,us,rfl,PK,L6,_⟩:=E7 hv
   refine⟨_,(Af (D9 (K:=K) (pv 0) (pv 1))
    (Af (D9 (K:=K) (pv 0) (pv 2))
    (Af (D9 (K:=K) (pv 0) (Kb Gy hr (by rfl) T.m_Lines (Aa (Aq Tw hr (Aa (Bf (Az (K:=K)) T.n_len qf7 (Aa (pv 1) Ai)) Ai)) (Aa (Aq Tw hr (Aa (Bf (Az (K:=K)) T.n_len qf7 (Aa (pv 1) Ai)) Ai)) Ai))))
    (Af (D9 (K:=K) (pv 0) (Kb Gy hr (by rfl) T.m_Lines (Aa (Aq Tw hr (Aa (pv 2) Ai)) (Aa (Aq Tw hr (Aa (pv 2) Ai)) Ai))))
    (Ak (D9 (K:=K) (pv 0) (Jb Ai))))))),?_⟩
   have OV:∀{G1 G2 G3:Hp}{D1 D2 L Vo:Addr}{EU aO:List Addr}{m:Nat}{fs:List (Str × V)}{G4:Hp}{N:Addr->Prop},EU.length=m->Rows G1 G2 D1 EU m (fun i j=>if j=i then 1 else 0)->aO.length=m->Rows G2 G3 D2 aO m (fun i j=>if j=i then 1 else 0)->G3 L=none->Ao G3 (upd (upd G3 Vo (.own L)) L (.ins Ad Vo []))->fs=putF "backs" (.ref D2) (putF "rows" (.ref D1) [])->G4=upd (upd (upd (upd G3 Vo (.own L)) L (.ins Ad Vo [])) L (.ins Ad Vo (putF "rows" (.ref D1) []))) L (.ins Ad Vo fs)->(∀a,N a->G1 a≠none) →
    Ao G3 G4/\LX G4 Ad L D1 D2 none m m (Lat.one,Lat.one) N:=by
    intro G1 G2 G3 D1 D2 L Vo EU aO m fs G4 N hl1 R1 hl2 R2 nL sN hfs HQ hN;have nP:G4 L=some (.ins Ad Vo fs):=by rw[HQ];exact Ae
    have st:Ao G3 G4:=fun a o e=>by
     rw[HQ,As (Bb e nL),As (Bb e nL)];exact sN _ _ e
    clear HQ
    have x1:TA G4 D1 EU m m Lat.one:=((TA.of R1 hl1).same (R2.same.trans st)).congr fun i c _ _=>by
     by_cases z:i=c
     . subst z;simp[Lat.one]
     . have:¬c=i:=fun e=>z e.symm;simp[Lat.one,z,this]
    have x2:TA G4 D2 aO m m Lat.one:=((TA.of R2 hl2).same st).congr fun i c _ _=>by
     by_cases z:i=c
     . subst z;simp[Lat.one]
     . have:¬c=i:=fun e=>z e.symm;simp[Lat.one,z,this]
    have t1:=(TA.of R1 hl1).there;have f2:∀a,G2 a=none->G1 a=none:=fun a e=>R1.same.free e;have nN:∀a,G1 a=none->¬N a:=fun a e z=>hN a z e;refine⟨st,⟨Vo,fs,nP,by rw[hfs];((repeat (first | rw[Al,if_pos rfl] | rw[Al,if_neg (by decide +kernel)]))<;>first | rfl | assumption),by rw[hfs];((repeat (first | rw[Al,if_pos rfl] | rw[Al,if_neg (by decide +kernel)]))<;>first | rfl | assumption),by rw[hfs];((repeat (first | rw[Al,if_pos rfl] | rw[Al,if_neg (by decide +kernel)]))<;>first | rfl | assumption),fun m hm=>?_,?_⟩,⟨EU,x1,fun a ha=>?_⟩,⟨aO,x2,fun a ha=>?_⟩,fun z=>t1.1 (z▸R2.free),nN _ R1.free,nN _ (f2 _ R2.free),fun a ha z=>hN a ha (f2 _ (R2.same.free (st.free z)))⟩
    . rw[hfs,Al,if_neg (fun z=>absurd (z▸hm) (by decide +kernel)),Al,if_neg (fun z=>absurd (z▸hm) (by decide +kernel))];rfl
    . rw[hfs];exact qa1 (Bs _ _ _) (qa1 (qf8 (Bs _ _ _)) (by decide))
    . obtain⟨i,hi,rfl⟩:=qh1 ha;obtain⟨z1,z2,z3⟩:=R1.row i _ (qb0 hi);exact⟨z2,fun z=>t1.2 _ ha (z▸R2.free),nN _ z1⟩
    . obtain⟨i,hi,rfl⟩:=qh1 ha;obtain⟨z1,z2,z3⟩:=R2.row i _ (qb0 hi);exact⟨fun z=>t1.1 (z▸z1),z2,nN _ (f2 _ z1)⟩
   refine⟨_,rfl,_,rfl,p,Ag,dx,_,rfl,hp,T.cl_Work,T.na_Work_table,by simp,?_⟩;refine Fe (fun σ' H'=>σ'=[rS p,rS ta,some (.int (w:Int))]/\upd H p (.ins Ag dx (putF "table" (.ref ta) []))=H') ?_ fun Oc=>Oc _ _ ⟨rfl,rfl⟩;rintro _ _ ⟨rfl,rfl⟩;refine qp8 (fun σ' H'=>σ'=[rS p,rS ta,some (.int (w:Int))]/\∃fs,fs=putF "width" (.int (w:Int)) (putF "table" (.ref ta) [])/\H' p=some (.ins Ag dx fs)/\SameX p H H') (fun key=>?_) ?_
   . refine⟨_,rfl,_,rfl,p,Ag,dx,_,rfl,Ae,T.cl_Work,T.na_Work_width,by simp[putF],?_⟩;exact key _ _ ⟨rfl,_,rfl,Ae,SameX.upd (SameX.upd (SameX.refl _ _))⟩
   refine Hv fun H2 V9=>?_;obtain⟨pZ,hf2,hp2,qM⟩:=V9;have l2:pZ.length<=2:=by rw[hf2];exact qa1 (Bs _ _ _) (qf8 (Bs _ _ _))
   have GI:Ao H0 H2:=qM.same s0 fp;refine qp8 (fun σ' H'=>σ'=[rS p,rS ta,some (.int (w:Int))]/\∃(L O1 O2:Addr) (fs:List (Str × V)),fs=putF "left" (.ref L) pZ/\H' p=some (.ins Ag dx fs)/\SameX p H2 H'/\Kp H2 H'/\p≠L/\H2 L=none/\H2 O1=none/\H2 O2=none/\LX H' Ad L O1 O2 none n n (Lat.one,Lat.one) (fun _=>False)) (fun key=>?_) ?_
   . refine⟨_,rfl,ta,us,rfl,.inl (GI.seq PK),n,(by rw[L6]<;>rfl),O9m,fun O1 qV G1 hl1 R1=>?_⟩;refine⟨_,rfl,ta,us,rfl,.inl ((GI.trans R1.same).seq PK),n,(by rw[L6]<;>rfl),O9m,fun O2 QU G2 hl2 R2=>?_⟩;have s2:=R1.same.trans R2.same;intro L dl nL mR MQ;have sN:Ao G2 (upd (upd G2 dl (.own L)) L (.ins Ad dl [])):=(Ao.new mR).turn nL;refine⟨L,dl,Ad,.ref O1,.ref O2,rfl,.inl rfl,Ae,fun G4 fs hfs HQ=>⟨rfl,?_⟩⟩;obtain⟨st,lx⟩:=OV (N:=fun _=>False) hl1 R1 hl2 R2 nL sN hfs HQ (fun _ z=>z.elim);have O5:=st _ _ (s2 _ _ hp2);have dZ:p≠L:=Bb (s2 _ _ hp2) nL;refine⟨_,rfl,p,Ag,dx,_,rfl,O5,T.cl_Work,T.na_Work_left,O9m,?_⟩;exact key _ _ ⟨rfl,L,O1,O2,_,rfl,Ae,SameX.upd (SameX.of (s2.trans st)),(Kp.of (s2.trans st)).trans Kp.upd,dZ,s2.free nL,R1.free,R1.same.free R2.free,lx.x O5 dZ (SameX.upd (SameX.refl _ _)) Kp.upd⟩
   refine Hv fun H3 V9=>?_;obtain⟨L,O1,O2,fT,kI,hp3,QL,JZ,dZ,nL,n1,n2,II⟩:=V9;have l3:fT.length<=3:=by rw[kI];exact qa1 (Bs _ _ _) (qf8 l2)
   have jL:Ao H0 H3:=QL.same GI fp;refine qp8 (fun σ' H'=>σ'=[rS p,rS ta,some (.int (w:Int))]/\∃(R O3 O4:Addr) (fs:List (Str × V)),fs=putF "right" (.ref R) fT/\H' p=some (.ins Ag dx fs)/\SameX p H3 H'/\Kp H3 H'/\p≠R/\H3 R=none/\H3 O3=none/\H3 O4=none/\LX H' Ad L O1 O2 none n n (Lat.one,Lat.one) (fun a=>a=O3\/a=O4)/\LX H' Ad R O3 O4 none w w (Lat.one,Lat.one) (fun _=>False)) (fun key=>?_) ?_
   . refine⟨_,rfl,w,rfl,O9m,fun OD qV G1 hl1 R1=>?_⟩;refine⟨_,rfl,w,rfl,O9m,fun mC QU G2 hl2 R2=>?_⟩;have s2:=R1.same.trans R2.same;intro R dl nR mR MQ;have sN:Ao G2 (upd (upd G2 dl (.own R)) R (.ins Ad dl [])):=(Ao.new mR).turn nR;refine⟨R,dl,Ad,.ref OD,.ref mC,rfl,.inl rfl,Ae,fun G4 fs hfs HQ=>⟨rfl,?_⟩⟩;obtain⟨st,lx⟩:=OV (N:=fun _=>False) hl1 R1 hl2 R2 nR sN hfs HQ (fun _ z=>z.elim);have O5:=st _ _ (s2 _ _ hp3);have fJ:p≠R:=Bb (s2 _ _ hp3) nR;have n4:H3 mC=none:=R1.same.free R2.free;refine⟨_,rfl,p,Ag,dx,_,rfl,O5,T.cl_Work,T.na_Work_right,O9m,?_⟩
     have y1:LX G4 Ad L O1 O2 none n n (Lat.one,Lat.one) (fun a=>a=OD\/a=mC):=II.more (s2.trans st) (fun a ha=>.inr (by rcases ha with rfl | rfl;exact R1.free;exact n4)) fun a ha=>by
      rcases ha with rfl | rfl
      . obtain⟨_,z,_⟩:=lx.rw;exact z.there.1
      . obtain⟨_,z,_⟩:=lx.bk;exact z.there.1
     exact key _ _ ⟨rfl,R,OD,mC,_,rfl,Ae,SameX.upd (SameX.of (s2.trans st)),(Kp.of (s2.trans st)).trans Kp.upd,fJ,s2.free nR,R1.free,n4,y1.x O5 dZ (SameX.upd (SameX.refl _ _)) Kp.upd,lx.x O5 fJ (SameX.upd (SameX.refl _ _)) Kp.upd⟩
   refine Hv fun H4 V9=>?_;obtain⟨R,O3,O4,kN,iM,O5,qL,uB,fJ,nR,n3,n4,MT,MS⟩:=V9;have l4:kN.length<=4:=by rw[iM];exact qa1 (Bs _ _ _) (qf8 l3)
   have JK:Ao H0 H4:=qL.same jL fp;refine⟨qa5 _,fun nm hnm=>?_⟩;have sn:Ao H4 (upd H4 nm (.lst [])):=Ao.new hnm;have HH:upd H4 nm (.lst []) nm=some (.lst []):=Ae;have y4:=sn _ _ O5;generalize upd H4 nm (.lst [])=H5 at sn HH y4;refine⟨_,rfl,p,Ag,dx,_,rfl,y4,T.cl_Work,T.na_Work_numbers,O9m,?_⟩
   have ex:∀a,a=nm\/a=O3\/a=O4->H5 a≠none:=fun a ha=>by
    rcases ha with rfl | rfl | rfl
    . rw[HH];exact fun z=>nomatch z
    . obtain⟨_,z,_⟩:=MS.rw;exact(z.same sn).there.1
    . obtain⟨_,z,_⟩:=MS.bk;exact(z.same sn).there.1
   have z1:LX H5 Ad L O1 O2 none n n (Lat.one,Lat.one) (fun a=>a=nm\/a=O3\/a=O4):=MT.more sn (fun a ha=>ha.elim (fun e=>.inr (e▸hnm)) .inl) ex;have z2:LX H5 Ad R O3 O4 none w w (Lat.one,Lat.one) (fun a=>a=nm):=MS.more sn (fun a ha=>.inr (ha▸hnm)) fun a ha=>ex a (.inl ha);have GG:SameX p H5 (upd H5 p (.ins Ag dx (putF "numbers" (.ref nm) kN))):=SameX.upd (SameX.refl _ _);have OO:Ao H0 (upd H5 p (.ins Ag dx (putF "numbers" (.ref nm) kN))):=GG.same (JK.trans sn) fp;have g2:∀a,H2 a=none->H0 a=none:=fun a e=>GI.free e;have g3:∀a,H3 a=none->H0 a=none:=fun a e=>jL.free e;have LM:p≠nm:=Bb O5 hnm;have LR:L≠R:=fun z=>by obtain⟨_,_,q,_⟩:=II.ob;rw[z,nR]at q;cases q
   refine k L R nm _ ⟨⟨.ref ta,dx,_,Ae,?_,?_,?_,?_,?_,fun m hm=>?_,?_,fun M' e=>by cases e;exact Rep.same (fun a o e=>by rw[Rk (Bb e (JK.free hnm))];exact OO _ _ e) hv⟩,⟨O1,O2,O3,O4,z1.x y4 dZ GG Kp.upd,z2.x y4 fJ GG Kp.upd,g2 _ n1,g2 _ n2,g3 _ n3,g3 _ n4⟩,by rw[As LM.symm];exact HH,OO,⟨fp,g2 _ nL,g3 _ nR,JK.free hnm⟩,⟨dZ,fJ,LR⟩,⟨hn,hw⟩⟩
   . rw[iM,kI,hf2];((repeat (first | rw[Al,if_pos rfl] | rw[Al,if_neg (by decide +kernel)]))<;>first | rfl | assumption)
   . rw[iM,kI,hf2];((repeat (first | rw[Al,if_pos rfl] | rw[Al,if_neg (by decide +kernel)]))<;>first | rfl | assumption)
   . rw[iM,kI];((repeat (first | rw[Al,if_pos rfl] | rw[Al,if_neg (by decide +kernel)]))<;>first | rfl | assumption)
   . rw[iM];((repeat (first | rw[Al,if_pos rfl] | rw[Al,if_neg (by decide +kernel)]))<;>first | rfl | assumption)
   . ((repeat (first | rw[Al,if_pos rfl] | rw[Al,if_neg (by decide +kernel)]))<;>first | rfl | assumption)
   . rw[iM,kI,hf2]
     iterate 5 rw[Al,if_neg (fun z=>absurd (z▸hm) (by decide +kernel))]
     rfl
   . exact qa1 (Bs _ _ _) O9m
noncomputable abbrev Lx:Stmt:=top 45
theorem Wp:FnScope ["_law_table","_law_width","_law_of_rows","_law_turn"] ["_law_table","_law_width","_law_of_rows","_law_turn"] (Ar Lx):=Bn
theorem W0{f:Addr}{fd:FuncData}(F:Fb K "_law_turned" "_law_turned" Lx f fd)(T:Ga K mg Ad Ab Ag)(Ji:Has P w K mg base "_law_flip" ["_law_table","_law_width"] 1 (Nk K))(E4:Has P w K mg base "_law_rows_turned" ["_law_table","_law_turn"] 2 (Hx K)):By P w K mg base Ex 3 f fd ["_law_table","_law_width","_law_of_rows","_law_turn"] (Ou K):=by
 refine F.ok Wp (fun vs H Q E h=>?_) (fun Dp A outer s H vs Q E hr h=>?_)
 . obtain⟨_,_,_,_,_,_,_,_,rfl,_⟩:=h;rfl
 . obtain⟨v,u,h,w,B,f,b,t,rfl,hv,hu,hok,bf,bt,hB,hh,hw,k⟩:=h
   refine⟨_,(Af (Ci (Fk (pv 2)) (Ak (Bh (Aq E4 hr (Aa (pv 0) (Aa (pv 3) Ai))))) Br)
    (Ak (Bh (Aq Ji hr (Aa (Aq E4 hr (Aa (Aq Ji hr (Aa (pv 0) (Aa (pv 1) Ai))) (Aa (pv 3) Ai))) (Aa (Bf (Az (K:=K)) T.n_len qf7 (Aa (pv 0) Ai)) Ai)))))),?_⟩
   refine⟨_,rfl,_,rfl,?_⟩;cases b with
   | true =>
     refine Yu rfl ?_;exact⟨_,rfl,_,rfl,v,u,h,w,B,f,t,rfl,hv,hu,hok,bf,bt,hB,hh,hw,k⟩
   | false =>
     refine M1 (by decide) ?_;refine⟨_,rfl,_,rfl,v,h,w,f,rfl,hv,O9m,O9m,fun D1 EU H1 hl1 R1=>?_⟩;refine⟨_,rfl,.ref D1,u,w,h,B,(fun i j=>f j i),t,rfl,R1.rep hl1,Rep.same R1.same hu,hok,fun i j=>bf j i,bt,hB,hw,hh,fun D2 H2 n2 s2 r2=>?_⟩;have s12:=R1.same.trans s2;obtain⟨a,us,rfl,hq,L6,Ge⟩:=E7 hv;refine⟨_,rfl,a,us,rfl,.inl (s12.seq hq),.ref D2,w,h,Eb t (fun i j=>f j i),(by rw[L6]<;>rfl),Rep.same Fl r2,O9m,O9m,fun D3 tG H3 hl3 R3=>?_⟩;exact k D3 H3 (s12.free R3.free) (s12.trans R3.same) (R3.hid hl3 fun a z=>Kp.of s12 a z)
noncomputable abbrev Lz:Stmt:=top 49
theorem Oy:FnScope ["_law_told","_law_table","_law_width","_law_many","_law_one"] ["_law_told","_law_table","_law_width","_law_many"] (Ar Lz):=Bn
theorem W2{f:Addr}{fd:FuncData}(F:Fb K "_law_spares" "_law_spares" Lz f fd)(T:Ga K mg Ad Ab Ag)(Fm:Has P w K mg base "_law_is_list" ["_law_found","_law_size"] 2 (Is K))(Ij:Has P w K mg base "_law_taken" ["_law_table","_law_numbers"] 1 (Nm K)):By P w K mg base Ex 3 f fd ["_law_told","_law_table","_law_width","_law_many"] (Qg K):=by
 refine F.ok Oy (fun vs H Q E h=>?_) (fun Dp A outer s H vs Q E hr h=>?_)
 . obtain⟨_,_,_,_,_,_,_,rfl,_⟩:=h;rfl
 . obtain⟨v,u,n,w,m,Am,S,rfl,hv,hu,hn,hw,mw,mo,mz,k⟩:=h;have lU:=hr.u8;obtain⟨ta,us,rfl,hq,L6,Ge⟩:=E7 hv;obtain⟨ua,xs,rfl,RN,LS,pI⟩:=E7 hu
   refine⟨_,(Af (Ci (PW.pt (Tj (Gw (Fk (Bf (C6 (K:=K)) T.n_isinstance Cd (Aa (pv 0) (Aa (Hd (v:=.ty "list") rfl T.n_list Cv rfl) Ai))))) (Ny (Bo Mv (Bf (Az (K:=K)) T.n_len qf7 (Aa (pv 0) Ai)) (Bg Ho (pv 2) (pv 3)) (Bq _))))) (Ak (Bh Kc)) Br)
    (Af (Dg qc3 rfl (Ct (K:=K) (pv 0)) (Ax (i:=4) Oy.nd) (Ak (Ci (PW.pt (Tj (Gw (Fk (Aq Fm hr (Aa (pv 4) (Aa (pv 2) Ai))))) (Ny (Bo (a8 (K:=K) lU) (Aq Ij hr (Aa (pv 1) (Aa (pv 4) Ai))) (Bg Uy (Jb (Aa An Ai)) (Bf (Az (K:=K)) T.n_len qf7 (Aa (pv 1) Ai))) (Bq _))))) (Ak (Bh Kc)) Br)))
    (Ak (Bh Kc)))),?_⟩
   refine qp8 (t:=P6 _ _ _) (fun σ' H'=>σ'=[rS ta,rS ua,some (.int (w:Int)),some (.int (m:Int)),none]/\H=H') (fun key=>?_) ?_
   . refine⟨_,rfl,_,_,_,rfl,.inr (.inr (.inr (.inr (.inl rfl)))),hv,_,rfl,?_⟩;refine M1 (by simp[Yt,dT]) ?_;refine⟨_,rfl,ta,_,rfl,.inl hq,_,rfl,_,rfl,_,_,rfl,rfl,rfl,_,rfl,?_⟩;refine M1 (by rw[L6];simp;omega) ?_;exact key _ _ ⟨rfl,rfl⟩
   refine Hw ?_;refine qp8 (t:=Wc _ _ _) (fun σ' H'=>∃o4:Option V,σ'=[rS ta,rS ua,some (.int (w:Int)),some (.int (m:Int)),o4]/\Ao H H') (fun key=>?_) ?_
   . refine⟨_,rfl,ta,rfl,⟨_,hq⟩,?_⟩
     refine for_list (K:=K) (a:=ta) (xs:=us) (fun i σ' H'=>∃o4:Option V,σ'=[rS ta,rS ua,some (.int (w:Int)),some (.int (m:Int)),o4]/\Ao H H')
      ⟨none,rfl,Ao.refl H⟩ (fun i σ H1 _ ⟨_,_,s⟩=>s.seq hq) ?_ ?_
     . rintro i y σ H1 hy ⟨o4,rfl,s1⟩;obtain⟨hi,b,rfl,hb⟩:=Ge i y hy;refine⟨_,rfl,_,rfl,.ref b,w,S i,rfl,Na (s1.seq hb),_,rfl,?_⟩;refine M1 (by simp) ?_;refine⟨_,rfl,_,rfl,.ref ua,b,n,w,Am,S i,rfl,Rep.same s1 hu,s1.seq hb,hn,hw,fun i' c h1 h2=>mo i' i c h1 hi h2,fun L H2 s2 hL=>?_⟩;have s12:=s1.trans s2;refine⟨Cp (by simp),fun Z hZ=>?_⟩;have sZ:Ao H2 (upd H2 Z (.lst [.int 0])):=Ao.new hZ;have eZ:upd H2 Z (.lst [.int 0]) Z=some (.lst [.int 0]):=Ae;generalize upd H2 Z (.lst [.int 0])=G1 at sZ eZ;refine⟨_,rfl,ua,xs,rfl,.inl ((s12.trans sZ).seq RN),Z,_,_,rfl,rfl,eZ,by rw[LS];omega,by rw[LS];omega,Cp (by rw[LS,qb6];show 1*n<=_;omega),fun C hC=>?_⟩;have eC:(List.replicate (((xs.length:Nat):Int)).toNat [V.int 0]).flatten=VI n fun _=>0:=by rw[LS,qb6];exact V5 n
       rw[eC];have sC:Ao G1 (upd G1 C (.lst (VI n fun _=>0))):=Ao.new hC
       have e0:dL n (Lat.mulV w Am (S i))=dL n fun _=>0:=by
        unfold dL;rw[Oa fun j hj=>mz i hi j hj]
       refine⟨dL n fun _=>0,dL n fun _=>0,e0▸Na (.of ((sZ.trans sC) _ _ hL)),Na (.of Ae),by show deps (Yl _)+1<=8;rw[Ol];decide,?_⟩;rw[Ik];refine⟨_,rfl,?_⟩;refine M1 (by simp) ?_;exact⟨_,rfl,(s12.trans sZ).trans sC⟩
     . rintro σ H1 ⟨o4,rfl,s1⟩;exact key _ _ ⟨_,rfl,s1⟩
   refine AY fun o4 H1 s1=>?_;exact k H1 s1
noncomputable abbrev Eg:Stmt:=Ea (top 22) 4
theorem C3:FnScope ["self","i","first","j","at","quotient"] ["self","i","first"] (Ar Eg):=Bn
theorem Kf{f:Addr}{fd:FuncData}(F:Fb K "shrink_row" "Stairs.shrink_row" Eg f fd)(T:Ga K mg Ad Ab Ag)(Cf:G8 P w K mg base Ab "turn" ["self","turn"] 3 (Gr K Ad Ab Ag)):By P w K mg base Ex 4 f fd ["self","i","first"] (Gq K Ad Ab Ag):=by
 refine F.ok C3 (fun vs H Q E h=>?_) (fun Dp A outer s H vs Q E hr h=>?_)
 . obtain⟨_,_,_,_,_,_,_,_,_,_,_,rfl,_⟩:=h;rfl
 . obtain⟨H0,p,q,M,n,W,t,cnt,s,i,f,rfl,x,hi,hf,hif,hds,ok,k⟩:=h;obtain⟨cX,cW,MI⟩:=x.sm;obtain⟨r,b,lx,_⟩:=x.ex;obtain⟨dx,fs,hp,l1,l2,l3,l4,l5⟩:=lx.ob
   refine⟨_,(Ak (Dg qc3 rfl (Nz (by rfl) T.n_range (Aa (pv 2) (Aa (Bf (Az (K:=K)) T.n_len qf7 (Aa (At (K:=K) (pv 0)) Ai)) Ai))) (Ax (i:=3) C3.nd) (Af (Au (i:=4) C3.nd (Aw (Av (K:=K)) (At (K:=K) (pv 0)) (pv 3) (fun _ _=>rfl)))
    (Af (Au (i:=5) C3.nd (Bg Fx (Aw (Av (K:=K)) (Aw (Av (K:=K)) (At (K:=K) (pv 0)) (pv 1) (fun _ _=>rfl)) (pv 4) (fun _ _=>rfl)) (Aw (Av (K:=K)) (Aw (Av (K:=K)) (At (K:=K) (pv 0)) (pv 3) (fun _ _=>rfl)) (pv 4) (fun _ _=>rfl))))
    (Ak (Ci (Bo Mv (pv 5) An (Bq _)) (Ak (Bw (C4 (pv 0) T.cl_Stairs Cf hr (Aa (E2 (Aa Eh (Aa (pv 1) (Aa (pv 3) (Aa (Jo F0 (pv 5)) Ai))))) Ai)))) Br)))))),?_⟩
   refine⟨_,rfl,_,rfl,p,Ab,dx,fs,_,rfl,hp,T.cl_Stairs,T.na_Stairs_starts,l3,q,_,rfl,.inl (.of x.st),(f:Int),(cnt:Int),by rw[Ba],O9m,?_⟩;rw[show(((cnt:Nat):Int)-((f:Nat):Int)).toNat=cnt-f by omega];clear lx hp l1 l2 l3 l4 l5;refine Dm (lo:=(f:Int)) (n:=cnt-f) (fun d σ G=>∃o3 o4 o5,σ=[rS p,iS i,iS f,o3,o4,o5]/\SX Ab H0 G p q M n W t cnt (Lat.shrS t i f s d)) ⟨none,none,none,rfl,x⟩ ?_ ?_
   . rintro d σ G hd ⟨o3,o4,o5,rfl,y⟩;obtain⟨r,b,lx,_⟩:=y.ex;obtain⟨dx,fs,hp,l1,l2,l3,l4,l5⟩:=lx.ob;obtain⟨as,xa,na⟩:=lx.rw;obtain⟨h1,h2,h3⟩:=hds (f+d) O9m O9m;have bo:=ok d O9m;have ej:((f:Nat):Int)+((d:Nat):Int)=(((f+d:Nat):Nat):Int):=O9m
     rw[ej];have hji:f+d≠i:=O9m
     have er:(Lat.shrS t i f s d).1 (f+d)=s.1 (f+d):=Qj t i f s d _ hji;obtain⟨ci,_,AS,_,y9⟩:=xa.row (K:=K) hi;obtain⟨cj,_,iP,_,kJ⟩:=xa.row (K:=K) (show f+d<n by omega);rw[er]at kJ;refine⟨_,rfl,p,Ab,dx,fs,_,rfl,hp,T.cl_Stairs,T.na_Stairs_starts,l3,_,rfl,q,_,_,_,rfl,rfl,.of y.st,Bi (Ch O9m),?_⟩;refine⟨_,rfl,p,Ab,dx,fs,_,rfl,hp,T.cl_Stairs,T.na_Stairs_rows,l1,_,rfl,r,_,_,_,rfl,rfl,.of xa.2.1,Bi AS,_,rfl,ci,_,_,_,rfl,rfl,y9,Bi (Ch h1),_,rfl,p,Ab,dx,fs,_,rfl,hp,T.cl_Stairs,T.na_Stairs_rows,l1,_,rfl,r,_,_,_,rfl,rfl,.of xa.2.1,Bi iP,_,rfl,cj,_,_,_,rfl,rfl,kJ,Bi (Ch h1),_,_,rfl,rfl,Nh.of9 O9m h3,?_⟩;have nB:∀G',SX Ab H0 G' p q M n W t cnt (Lat.addS i (f+d) (-((Lat.shrS t i f s d).1 i (t (f+d)) / s.1 (f+d) (t (f+d)))) (Lat.shrS t i f s d))->SX Ab H0 G' p q M n W t cnt (Lat.shrS t i f s (d+1)):=fun G' z=>z.re (by rw[Lat.shrS,er]);have hq:((Lat.shrS t i f s d).1 i (t (f+d)) / s.1 (f+d) (t (f+d))).natAbs<2 ^ Xv:=Lat.fdiv_small h2 (bo.1 i _ hi h1);refine Ap (fun σ' H'=>σ'=[rS p,iS i,iS f,some (.int ((f+d:Nat):Int)),some (.int ((t (f+d):Nat):Int)),some (.int ((Lat.shrS t i f s d).1 i (t (f+d)) / s.1 (f+d) (t (f+d))))]/\G=H') ?_ fun key=>key _ _ ⟨by rw[←qd7 _ (qp7 h2)];rfl,rfl⟩;rintro _ _ ⟨rfl,rfl⟩;generalize (Lat.shrS t i f s d).1 i (t (f+d)) / s.1 (f+d) (t (f+d))=qq at nB hq;refine⟨_,rfl,rfl,_,rfl,?_⟩;refine ite2 (fun h4=>?_) (fun h4=>?_)
     . refine⟨_,rfl,p,dx,fs,rfl,hp,l4 _ (by decide +kernel),_,rfl,_,rfl,_,rfl,_,rfl,Cp (by simp),fun T1 hT1=>?_⟩;have s1:Ao G (upd G T1 (.tup [.str "add",.int i,.int ((f+d:Nat):Int),.int (-qq)])):=Ao.new hT1;have hT:Rep K (upd G T1 (.tup [.str "add",.int i,.int ((f+d:Nat):Int),.int (-qq)])) (.ref T1) (Y7 (.ad i (f+d) (-qq))):=⟨T1,_,rfl,.of Ae,⟨_,_,rfl,rfl,_,_,rfl,rfl,_,_,rfl,rfl,_,_,rfl,rfl,rfl⟩⟩
       generalize upd G T1 (.tup [.str "add",.int i,.int ((f+d:Nat):Int),.int (-qq)])=G1 at s1 hT;refine⟨p,.ref T1,Ab,r,b,_,n,W,_,_,.ad i (f+d) (-qq),rfl,.inr rfl,lx.keep s1,hT,⟨hi,O9m,fun z=>hji z.symm,fun c hc=>Ih (by rw[qb3];exact hq) (bo.1 _ _ O9m hc) (by decide)⟩,⟨O9m,hi,hji,fun c hc=>Ih (by rw[qb3,qb3];exact hq) (bo.2 _ _ hi hc) (by decide)⟩,O9m,O9m,fun r' b' G2 sx n1 n2 z=>?_⟩;exact⟨_,_,_,rfl,nB _ (y.redo s1 sx n1 n2 z)⟩
     . have h5:qq=0:=by simpa using h4
       subst h5;exact⟨_,_,_,rfl,nB _ (y.re (Lat.addS_zero _ _ _).symm)⟩
   . rintro σ G ⟨o3,o4,o5,rfl,y⟩;exact k _ y
noncomputable abbrev Ja:Stmt:=Ea (top 27) 4
theorem Fp:FnScope ["self","i","j","one","other","papers"] ["self","i","j"] (Ar Ja):=Bn
theorem Sf{f:Addr}{fd:FuncData}(F:Fb K "share" "Work.share" Ja f fd)(T:Ga K mg Ad Ab Ag)(Gg:G8 P w K mg base Ad "turn" ["self","turn"] 3 (Gr K Ad Ab Ag))(Hs:G8 P w K mg base Ad "blend" ["self","i","j","one","other"] 2 (Hz K Ad Ab Ag)):By P w K mg base Ex 4 f fd ["self","i","j"] (Tg K Ad Ab Ag):=by
 refine F.ok Fp (fun vs H Q E h=>?_) (fun Dp A outer s H vs Q E hr h=>?_)
 . obtain⟨_,_,_,_,_,_,_,_,_,_,_,_,_,rfl,_⟩:=h;rfl
 . obtain⟨H0,p,L,R,nm,n,w,m,i,j,l,r,f,rfl,x,hij,hj,mn,mw,ok,k1,k2⟩:=h;obtain⟨cX,cW⟩:=x.sm;obtain⟨lF,Yz,Yx,hpa,lR,LQ,gY,IJ,fN,iJ,LP,_⟩:=x.ob;obtain⟨r1,b1,r2,b2,lx,ly,f1,f2,f3,f4⟩:=x.li;obtain⟨p1,lJ⟩:=ok.p1;obtain⟨p2,LI⟩:=ok.p2
   refine⟨_,(Af (Au (i:=3) Fp.nd (Aw (Av (K:=K)) (At (K:=K) (pv 0)) (pv 1) (fun _ _=>rfl)))
    (Af (Au (i:=4) Fp.nd (Aw (Av (K:=K)) (At (K:=K) (pv 0)) (pv 2) (fun _ _=>rfl)))
    (Ak (Ci (Bo Mv (Bg Di (pv 4) (pv 3)) An (Bq _)) (Af (Bw (C4 (At (K:=K) (pv 0)) T.cl_Lines Gg hr (Aa (E2 (Aa Eh (Aa (pv 1) (Aa (pv 2) (Aa An Ai))))) Ai)))
    (Af (Au (i:=5) Fp.nd (C4 (At (K:=K) (pv 0)) T.cl_Lines Hs hr (Aa (pv 1) (Aa (pv 2) (Aa (pv 3) (Aa (pv 4) Ai))))))
    (Af (Bw (C4 (At (K:=K) (pv 0)) T.cl_Lines Gg hr (Aa (E2 (Aa Eh (Aa (pv 2) (Aa (pv 1) (Aa (Jo F0 (Bg Fx (Bg Dh (Aw (Be (K:=K)) (pv 5) An (fun _ _=>rfl)) (pv 4)) (Aw (Be (K:=K)) (pv 5) An (fun _ _=>rfl)))) Ai))))) Ai)))
    (Af (C8 (Aw (Be (K:=K)) (pv 5) An (fun _ _=>rfl)) (De (At (K:=K) (pv 0)) (pv 1) Ca))
    (Ak (C8 (Bg Dh (Bg Fx (pv 3) (Aw (Be (K:=K)) (pv 5) An (fun _ _=>rfl))) (pv 4)) (De (At (K:=K) (pv 0)) (pv 2) Ca))))))) Br)))),?_⟩
   refine⟨_,rfl,p,Ag,Yz,Yx,_,rfl,hpa,T.cl_Work,T.na_Work_numbers,fN,_,rfl,nm,_,_,_,rfl,rfl,.of x.nu,Bi (Ch (show i<m by omega)),?_⟩;refine⟨_,rfl,p,Ag,Yz,Yx,_,rfl,hpa,T.cl_Work,T.na_Work_numbers,fN,_,rfl,nm,_,_,_,rfl,rfl,.of x.nu,Bi (Ch hj),?_⟩;refine Fe (fun σ' H'=>σ'=[rS p,some (.int (i:Int)),some (.int (j:Int)),some (.int (f i)),some (.int (f j)),none]/\H=H') ?_ fun Oc=>Oc _ _ ⟨rfl,rfl⟩;refine Hw ?_;refine⟨_,rfl,_,rfl,_,_,rfl,rfl,p1,rfl,_,rfl,?_⟩;refine ite2 (fun h1=>?_) (fun h1=>?_);rotate_left
   . have h2:f j%f i=0:=by simpa using h1
     exact k1 (Int.dvd_of_emod_eq_zero h2)
   obtain⟨dl,fl,hL,_,_,_,m4,_⟩:=lx.ob;refine qp8 (fun σ' H'=>σ'=[rS p,some (.int (i:Int)),some (.int (j:Int)),some (.int (f i)),some (.int (f j)),none]/\∃r1 b1,WX K Ad Ag H0 H' p L R nm n w none (Lat.addS i j 1 l) r (G7 m f)/\LX H' Ad L r1 b1 none n n (Lat.addS i j 1 l) (fun a=>a=nm\/a=r2\/a=b2)/\LX H' Ad R r2 b2 none w w r (fun a=>a=nm)/\H0 r1=none/\H0 b1=none) (fun key=>?_) ?_
   . refine⟨_,rfl,p,Ag,Yz,Yx,_,rfl,hpa,T.cl_Work,T.na_Work_left,gY,L,dl,fl,rfl,hL,m4 _ (by decide +kernel),_,rfl,_,rfl,Cp (by simp),fun T1 hT1=>?_⟩;have s1:Ao H (upd H T1 (.tup [.str "add",.int (i:Int),.int (j:Int),.int 1])):=Ao.new hT1;have hT:Rep K (upd H T1 (.tup [.str "add",.int (i:Int),.int (j:Int),.int 1])) (.ref T1) (Y7 (.ad i j 1)):=⟨T1,_,rfl,.of Ae,⟨_,_,rfl,rfl,_,_,rfl,rfl,_,_,rfl,rfl,_,_,rfl,rfl,rfl⟩⟩
     generalize upd H T1 (.tup [.str "add",.int (i:Int),.int (j:Int),.int 1])=G1 at s1 hT;refine⟨L,.ref T1,Ad,r1,b1,_,n,n,l,_,.ad i j 1,rfl,.inl rfl,lx.keep s1,hT,⟨O9m,O9m,O9m,fun c hc=>N6 (by decide) (by decide)⟩,⟨O9m,O9m,O9m,fun c hc=>N6 (by decide) (by decide)⟩,O9m,O9m,fun r' b' G2 sx n1 n2 z=>?_⟩;obtain⟨y1,y2⟩:=x.left lx ly f3 f4 s1 sx n1 n2 z;exact key _ _ ⟨rfl,r',b',y1,z,y2,(x.same.trans s1).free n1,(x.same.trans s1).free n2⟩
   refine Hv fun H2 V9=>?_;obtain⟨r1',fX,x2,GW,mT,sS,sR⟩:=V9;obtain⟨TM,sX,sP,rP,UA,tZ,TX,RA,TU,tU,TR,_⟩:=x2.ob;obtain⟨dr,fr,hR,_,_,_,m5,_⟩:=mT.ob;refine qp8 (fun σ' H'=>∃(P:Addr) (g a b:Int),σ'=[rS p,some (.int (i:Int)),some (.int (j:Int)),some (.int (f i)),some (.int (f j)),rS P]/\Lat.Shares (f i) (f j) g a b/\Du K H' P [.int g,.int a,.int b]/\WX K Ad Ag H0 H' p L R nm n w none (Lat.addS i j 1 l) (DI i j g a b f r) (G7 m f)/\LX H' Ad L r1' fX none n n (Lat.addS i j 1 l) (fun a=>a=nm\/a=r2\/a=b2)/\LX H' Ad R r2 b2 none w w (DI i j g a b f r) (fun a=>a=nm)) (fun key=>?_) ?_
   . refine⟨_,rfl,p,Ag,sX,sP,_,rfl,rP,T.cl_Work,T.na_Work_right,RA,R,dr,fr,rfl,hR,m5 _ (by decide +kernel),_,rfl,_,rfl,_,rfl,_,rfl,?_⟩;refine⟨R,Ad,r2,b2,_,w,w,i,j,f i,f j,r,_,rfl,.inl rfl,mT,O9m,O9m,O9m,O9m,O9m,p1,p2,lJ,LI,ok.br,fun P g a b G fr kp hT sh z=>?_⟩;obtain⟨y1,y2⟩:=x2.right GW mT sS sR f3 f4 fr kp z;exact key _ _ ⟨P,g,a,b,rfl,sh,hT,y1,y2,z⟩
   refine iY fun P g a b H3 sh KJ x3 II qY=>?_;obtain⟨OJ,kR,kM,kH,pB,pA,mW,OZ,oZ,lQ,OY,_⟩:=x3.ob;obtain⟨tD,sQ,FP,_,_,_,m6,_⟩:=II.ob;have g0:=sh.pos;have lg:g.natAbs<L9:=qa7 (Nat.le_of_dvd (Int.natAbs_pos.mpr O9m) (qn9.mpr sh.dA)) lJ;have lb:b.natAbs<L9:=qa7 sh.lb lJ;have cb:∀z:Int,Nh z g:=fun z=>Nh.of9 O9m lg;have ek:∀z:Int,z.fdiv g=z / g:=fun z=>qd7 _ O9m;have OX:(b*f j / g).natAbs<2 ^ 18000:=qa7 (qe1 _ _) (MR lb LI);refine qp8 (fun σ' H'=>σ'=[rS p,some (.int (i:Int)),some (.int (j:Int)),some (.int (f i)),some (.int (f j)),rS P]/\Du K H' P [.int g,.int a,.int b]/\WX K Ad Ag H0 H' p L R nm n w none (iH i j g b f l) (DI i j g a b f r) (G7 m f)) (fun key=>?_) ?_
   . refine⟨_,rfl,p,Ag,kR,kM,_,rfl,kH,T.cl_Work,T.na_Work_left,mW,L,tD,sQ,rfl,FP,m6 _ (by decide +kernel),_,rfl,_,rfl,_,rfl,P,_,_,_,rfl,rfl,KJ,rfl,_,rfl,_,_,rfl,rfl,U7 lb LI,_,rfl,P,_,_,_,rfl,rfl,KJ,rfl,_,_,rfl,rfl,cb _,_,rfl,Cp (by simp),?_⟩;rw[ek];intro T1 hT1;have s1:Ao H3 (upd H3 T1 (.tup [.str "add",.int (j:Int),.int (i:Int),.int (-(b*f j / g))])):=Ao.new hT1;have hT:Rep K (upd H3 T1 (.tup [.str "add",.int (j:Int),.int (i:Int),.int (-(b*f j / g))])) (.ref T1) (Y7 (.ad j i (-(b*f j / g)))):=⟨T1,_,rfl,.of Ae,⟨_,_,rfl,rfl,_,_,rfl,rfl,_,_,rfl,rfl,_,_,rfl,rfl,rfl⟩⟩
     generalize upd H3 T1 (.tup [.str "add",.int (j:Int),.int (i:Int),.int (-(b*f j / g))])=G1 at s1 hT;refine⟨L,.ref T1,Ad,r1',fX,_,n,n,_,_,.ad j i (-(b*f j / g)),rfl,.inl rfl,II.keep s1,hT,⟨O9m,O9m,O9m,fun c hc=>Ih (by rw[qb3];exact OX) (ok.bl.2.1 _ _ O9m hc) (by decide)⟩,⟨O9m,O9m,O9m,fun c hc=>Ih (by rw[qb3,qb3];exact OX) (ok.bl.2.2 _ _ O9m hc) (by decide)⟩,O9m,O9m,fun r' b' G2 sx n1 n2 z=>?_⟩;obtain⟨y1,_⟩:=x3.left II qY f3 f4 s1 sx n1 n2 z;exact key _ _ ⟨rfl,Zv (s1.seqT KJ) (s1 _ _ FP) sx,y1⟩
   refine S6 fun H4 lV x4=>?_;obtain⟨tM,SW,SO,RO,uA,TY,tX,TV,rA,tT,tR,_⟩:=x4.ob;refine⟨_,rfl,P,_,_,_,rfl,rfl,lV,rfl,_,rfl,p,Ag,SW,SO,_,rfl,RO,T.cl_Work,T.na_Work_numbers,rA,_,rfl,nm,_,_,i,rfl,rfl,x4.nu,He (by rw[Ba];omega),?_⟩;have e1:(VI m f).set i (.int g)=(G7 m fun k=>if k=i then g else f k).map V.int:=bE O9m;have x5:=x4.num (ns':=G7 m fun k=>if k=i then g else f k);rw[←e1]at x5;have iN:Du K (upd H4 nm (.lst ((VI m f).set i (.int g)))) P [.int g,.int a,.int b]:=jI lV x4.nu;refine Fe (fun σ' H'=>σ'=[rS p,some (.int (i:Int)),some (.int (j:Int)),some (.int (f i)),some (.int (f j)),rS P]/\Du K H' P [.int g,.int a,.int b]/\WX K Ad Ag H0 H' p L R nm n w none (iH i j g b f l) (DI i j g a b f r) (G7 m fun k=>if k=i then g else f k)) ?_ fun Oc=>Oc _ _ ⟨rfl,iN,x5⟩;refine S6 fun H6 NL x6=>?_;obtain⟨TL,SV,sO,rO,TZ,tY,tW,tV,QZ,tS,TQ,_⟩:=x6.ob;have lA:(f i / g).natAbs<L9:=qa7 (qe1 _ _) lJ;refine⟨_,rfl,_,rfl,P,_,_,_,rfl,rfl,NL,rfl,_,_,rfl,rfl,cb _,_,rfl,_,_,rfl,rfl,(by rw[ek];exact U7 lA LI),_,rfl,p,Ag,SV,sO,_,rfl,rO,T.cl_Work,T.na_Work_numbers,QZ,_,rfl,nm,_,_,j,rfl,rfl,x6.nu,He (by rw[Ba];exact hj),?_⟩;rw[ek]
   have e2:(VI m fun k=>if k=i then g else f k).set j (.int (f i / g*f j))=(G7 m (gI i j g f)).map V.int:=by
    rw[bE hj];show VI m _=VI m _;refine Fa fun c hc=>?_;unfold gI Lat.put2;by_cases z1:c=j
    . subst z1;rw[if_pos rfl,if_neg (by omega),if_pos rfl]
    . rw[if_neg z1];by_cases z2:c=i
      . rw[if_pos z2,if_pos z2]
      . rw[if_neg z2,if_neg z2,if_neg z1]
   have x7:=x6.num (ns':=G7 m (gI i j g f));rw[←e2]at x7;exact k2 g a b _ sh x7
noncomputable abbrev Nw:Stmt:=top 47
theorem Cq:FnScope ["_law_script","_law_height","_law_width","_law_many","_law_rows","_law_i","_law_row","_law_numbers","_law_j","_law_cell","_law_lines","_law_turn"] ["_law_script","_law_height","_law_width","_law_many"] (Ar Nw):=Bn
theorem Yj{f:Addr}{fd:FuncData}(F:Fb K "_law_built" "_law_built" Nw f fd)(T:Ga K mg Ad Ab Ag)(Ma:Has P w K mg base "_law_turn_by" ["_law_cell","_law_lines","_law_number"] 1 (Mm K))(Oh:Has P w K mg base "_law_turned" ["_law_table","_law_width","_law_of_rows","_law_turn"] 3 (Ou K))(Gz:Has P w K mg base "_law_list_turned" ["_law_numbers","_law_turn"] 1 (Wh K))(Dx:Has P w K mg base "_law_cell_at" ["_law_script","_law_k"] 1 (Iu K))(Oi:Has P w K mg base "_law_spread" ["_law_script","_law_k"] 1 (Ov K)):By P w K mg base Ex 4 f fd ["_law_script","_law_height","_law_width","_law_many"] (Tf K):=by
 refine F.ok Cq (fun vs H Q E h=>?_) (fun Dp A outer s H vs Q E hr h=>?_)
 . obtain⟨_,_,_,_,_,rfl,_⟩:=h;rfl
 . obtain⟨a,ns,h,w,m,rfl,hS,hl,Vg,mh,mw,hm,hh,hw,k⟩:=h
   refine⟨_,(Af (Au (i:=4) Cq.nd (Jb Ai))
    (Af (Dg qc3 rfl (Dl (by rfl) T.n_range (Aa (pv 1) Ai)) (Ax (i:=5) Cq.nd) (Af (Au (i:=6) Cq.nd (Bg Uy (Jb (Aa An Ai)) (pv 2)))
    (Af (Ci (Bo Q4 (pv 5) (pv 3) (Bq _)) (Ak (C8 (Bg Do An (Bg Di (Aq Dx hr (Aa (pv 0) (Aa (Bg Do An (pv 5)) Ai))) An)) (De (pv 6) (pv 5) Ca))) Br)
    (Ak (Bw (Hq (K:=K) qd9 qh9 qh8 Gm (pv 4) (Aa (pv 6) Ai)))))))
    (Af (Au (i:=7) Cq.nd (Bg Uy (Jb (Aa An Ai)) (pv 2)))
    (Af (Dg qc3 rfl (Nz (by rfl) T.n_range (Aa (pv 3) (Aa (pv 2) Ai))) (Ax (i:=8) Cq.nd) (Ak (C8 (Bg Ho (Bg Di (Bg Dh (Aq Oi hr (Aa (pv 0) (Aa (Bg Do An (pv 8)) Ai))) An) An) An) (De (pv 7) (pv 8) Ca))))
    (Af (Dg qc3 rfl (Ct (K:=K) (Mu (Mz (K:=K)) (pv 0) (Mt An) (Mt An))) (Ax (i:=9) Cq.nd) (Af (Au (i:=10) Cq.nd (pv 2))
    (Af (Ci (Bo Ec (Bg Di (pv 9) An) An (Bq _)) (Ak (Au (i:=10) Cq.nd (pv 1))) Br)
    (Af (Au (i:=11) Cq.nd (Aq Ma hr (Aa (Bg Py (pv 9) An) (Aa (pv 10) (Aa (Bg Ho (Bg Di (Bg Di (Bg Dh (pv 9) An) An) An) An) Ai)))))
    (Ak (Ci (Bo Z4 (pv 11) Q0 (Bq _)) (Af (Au (i:=4) Cq.nd (Aq Oh hr (Aa (pv 4) (Aa (pv 2) (Aa (K3 Ec (Bg Di (pv 9) An) An (Bq _)) (Aa (pv 11) Ai))))))
    (Ak (Ci (Bo Mv (Bg Di (pv 9) An) An (Bq _)) (Ak (Au (i:=7) Cq.nd (Aq Gz hr (Aa (pv 7) (Aa (pv 11) Ai))))) Br))) Br))))))
    (Ak (Bh (E2 (Aa (pv 4) (Aa (pv 7) Ai)))))))))),?_⟩
   obtain⟨d,hd⟩:∃d:Nat->Int,∀x:Nat,d x=1+Kv ns (3+(x:Int))%39:=⟨_,fun _=>rfl⟩
   have dpos:∀x,x<m->0<d x:=fun x _=>by rw[hd];omega
   have dle:∀x,x<m->(d x).natAbs<=2 ^ 6:=fun x _=>by rw[hd];show _<=64;omega
   refine qp8 (fun σ' H'=>∃D:Addr,σ'=[rS a,some (.int (h:Int)),some (.int (w:Int)),some (.int (m:Int)),rS D,none,none,none,none,none,none,none]/\Rows H H' D [] w (Lat.lay m d)) (fun key=>?_) ?_
   . exact⟨qa5 _,fun D hD=>key _ _ ⟨D,rfl,Rows.nil hD⟩⟩
   refine AY fun D H0 R0=>?_;refine qp8 (t:=Wc _ _ _) (fun σ' H'=>∃(as:List Addr) (o5 o6:Option V),σ'=[rS a,some (.int (h:Int)),some (.int (w:Int)),some (.int (m:Int)),rS D,o5,o6,none,none,none,none,none]/\as.length=h/\Rows H H' D as w (Lat.lay m d)) (fun key=>?_) ?_
   . refine⟨_,rfl,_,rfl,O9m,O9m,?_⟩;refine Dm (lo:=0) (n:=(h:Int).toNat) (fun i σ' H'=>∃(as:List Addr) (o5 o6:Option V),σ'=[rS a,some (.int (h:Int)),some (.int (w:Int)),some (.int (m:Int)),rS D,o5,o6,none,none,none,none,none]/\as.length=i/\Rows H H' D as w (Lat.lay m d)) ⟨[],none,none,rfl,rfl,R0⟩ ?_ ?_
     . rintro i σ H1 hi ⟨as,o5,o6,rfl,hal,R⟩;rw[qb6]at hi;rw[qi7];refine qp8 (fun σ' H'=>∃E:Addr,σ'=[rS a,some (.int (h:Int)),some (.int (w:Int)),some (.int (m:Int)),rS D,some (.int (i:Int)),rS E,none,none,none,none,none]/\H1 E=none/\Ao H1 H'/\H' E=some (.lst (VI w fun _=>0))) (fun key=>?_) ?_
       . refine⟨Cp (by simp),fun Z hZ=>?_⟩;have sZ:Ao H1 (upd H1 Z (.lst [.int 0])):=Ao.new hZ;have eZ:upd H1 Z (.lst [.int 0]) Z=some (.lst [.int 0]):=Ae;generalize upd H1 Z (.lst [.int 0])=G1 at sZ eZ;refine⟨_,rfl,Z,_,_,rfl,rfl,eZ,O9m,O9m,Cp (by rw[qb6];show 1*w<=_;omega),fun C hC=>?_⟩;have eC:(List.replicate ((w:Int)).toNat [V.int 0]).flatten=VI w fun _=>0:=by rw[qb6];exact V5 w
         rw[eC];exact key _ _ ⟨C,rfl,sZ.free hC,sZ.trans (Ao.new hC),Ae⟩
       refine AX fun E H2 nE s2 hE=>?_;refine qp8 (t:=P6 _ _ _) (fun σ' H'=>σ'=[rS a,some (.int (h:Int)),some (.int (w:Int)),some (.int (m:Int)),rS D,some (.int (i:Int)),rS E,none,none,none,none,none]/\Ao H1 H'/\H' E=some (.lst (VI w (Lat.lay m d i)))) (fun key=>?_) ?_
       . refine⟨_,rfl,_,rfl,_,_,rfl,rfl,_,rfl,?_⟩;refine ite2 (fun h1=>?_) (fun h1=>?_)
         . have hi2:i<m:=by simp at h1;omega
           have ix:Xa (VI w fun _=>(0:Int)).length ((i:Nat):Int)=some i:=by
            unfold Xa;rw[Ba,if_pos (by omega),if_pos (by omega),qb6]
           refine⟨_,rfl,_,rfl,_,_,rfl,rfl,a,ns,_,rfl,(R.same.trans s2).seq hS,O9m,hl,_,_,rfl,rfl,(by show(0:Int)<39;decide),_,_,rfl,rfl,_,rfl,_,rfl,E,_,_,i,rfl,rfl,hE,ix,key _ _ ⟨rfl,s2.turn nE,?_⟩⟩;rw[Ae,On (by omega)];refine congrArg (fun z=>some (HO.lst z)) (Fa fun c _=>?_);show _=if i=c/\i<m then d i else 0
           by_cases z:c=i
           . rw[if_pos z,if_pos ⟨z.symm,hi2⟩,hd]
           . rw[if_neg z,if_neg fun q=>z q.1.symm]
         . have hi2:¬i<m:=by simp at h1;omega
           refine key _ _ ⟨rfl,s2,?_⟩;rw[hE]
           exact congrArg (fun z=>some (HO.lst z)) (Fa fun c _=>by
            show _=if i=c/\i<m then d i else 0
            rw[if_neg fun q=>hi2 q.2])
       refine S6 fun H3 s3 sI=>?_;have Xc:=s3 _ _ R.at
       refine⟨_,rfl,.inl ⟨rfl,_,.of Xc⟩,_,rfl,D,_,_,rfl,rfl,Xc,small (by rw[qa3];omega),?_⟩;exact⟨as++[E],_,_,rfl,by simp[hal],R.push nE s3 (by rw[hal];exact sI)⟩
     . rintro σ H1 ⟨as,o5,o6,rfl,hal,R⟩;rw[qb6]at hal;exact key _ _ ⟨as,o5,o6,rfl,hal,R⟩
   refine aW fun as o5 o6 H1 hal R=>?_;have rD:Rep K H1 (.ref D) (dT h w (Lat.lay m d)):=R.rep hal;have s1:=R.same;refine qp8 (fun σ' H'=>∃L:Addr,σ'=[rS a,some (.int (h:Int)),some (.int (w:Int)),some (.int (m:Int)),rS D,o5,o6,rS L,none,none,none,none]/\H1 L=none/\Ao H1 H'/\H' L=some (.lst (VI w fun _=>0))) (fun key=>?_) ?_
   . refine⟨Cp (by simp),fun Z hZ=>?_⟩;have sZ:Ao H1 (upd H1 Z (.lst [.int 0])):=Ao.new hZ;have eZ:upd H1 Z (.lst [.int 0]) Z=some (.lst [.int 0]):=Ae;generalize upd H1 Z (.lst [.int 0])=G1 at sZ eZ;refine⟨_,rfl,Z,_,_,rfl,rfl,eZ,O9m,O9m,Cp (by rw[qb6];show 1*w<=_;omega),fun C hC=>?_⟩;have eC:(List.replicate ((w:Int)).toNat [V.int 0]).flatten=VI w fun _=>0:=by rw[qb6];exact V5 w
     rw[eC];exact key _ _ ⟨C,rfl,sZ.free hC,sZ.trans (Ao.new hC),Ae⟩
   refine AX fun L H2 nL s2 hL=>?_;refine qp8 (t:=Wc _ _ _) (fun σ' H'=>∃(o8:Option V) (v:Nat->Int),σ'=[rS a,some (.int (h:Int)),some (.int (w:Int)),some (.int (m:Int)),rS D,o5,o6,rS L,o8,none,none,none]/\Ao H1 H'/\H' L=some (.lst (VI w v))/\(∀c,c<m->v c=0)/\∀c,(v c).natAbs<=2 ^ 20) (fun key=>?_) ?_
   . refine⟨_,rfl,_,rfl,_,_,rfl,⟨O9m,O9m,O9m,O9m⟩,?_⟩
     refine Dm (lo:=(m:Int)) (n:=((w:Int)-(m:Int)).toNat) (fun j σ' H'=>∃(o8:Option V) (v:Nat->Int),σ'=[rS a,some (.int (h:Int)),some (.int (w:Int)),some (.int (m:Int)),rS D,o5,o6,rS L,o8,none,none,none]/\Ao H1 H'/\H' L=some (.lst (VI w v))/\(∀c,c<m->v c=0)/\∀c,(v c).natAbs<=2 ^ 20)
      ⟨none,_,rfl,s2,hL,fun _ _=>rfl,fun _=>qa5 _⟩ ?_ ?_
     . rintro j σ H3 hj ⟨o8,v,rfl,s3,FP,v0,vb⟩;have hj2:m+j<w:=O9m
       rw[show(m:Int)+(j:Int)=((m+j:Nat):Int) by omega]
       have ix:Xa (VI w v).length ((m+j:Nat):Int)=some (m+j):=by
        unfold Xa;rw[Ba,if_pos (by omega),if_pos (by omega),qb6]
       have mo:IntMulOk (spreadV ns (4+((m+j:Nat):Int))) 48271:=bU (by decide) (by decide);refine⟨_,rfl,_,rfl,_,_,rfl,rfl,a,ns,_,rfl,(s1.trans s3).seq hS,O9m,O9m,hl,_,_,rfl,rfl,mo,_,_,rfl,rfl,(by show(0:Int)<2000003;decide),_,_,rfl,rfl,_,rfl,_,rfl,L,_,_,m+j,rfl,rfl,FP,ix,?_⟩;refine⟨_,fun c=>if c=m+j then spreadV ns (4+((m+j:Nat):Int))*48271%2000003-1000001 else v c,rfl,s3.turn nL,by rw[Ae,On hj2],fun c hc=>by show(if c=m+j then _ else v c)=0;rw[if_neg (by omega)];exact v0 c hc,fun c=>?_⟩;show(if c=m+j then _ else v c).natAbs<=_;have:=vb c;split
       . show _<=1048576;omega
       . exact this
     . rintro σ H3 ⟨o8,v,rfl,s3,FP,v0,vb⟩;exact key _ _ ⟨o8,v,rfl,s3,FP,v0,vb⟩
   refine AW fun o8 v1 H3 s3 FP v0 vb=>?_;refine qp8 (t:=Wc _ _ _) (fun σ' G=>∃(rv:V) (L:Addr) (Am:Lat.Mat) (v:Nat->Int) (o9 Yk dY:Option V),σ'=[rS a,some (.int (h:Int)),some (.int (w:Int)),some (.int (m:Int)),some rv,o5,o6,rS L,o8,o9,Yk,dY]/\Ao H3 G/\Rep K G rv (dT h w Am)/\SqL K G L (VI w v)/\Lat.Bent h w m d 12 Am v) (fun key=>?_) ?_
   . refine⟨_,rfl,_,rfl,_,rfl,a,_,rfl,(s1.trans s3).seq hS,fun C hC=>?_⟩;rw[CK];have hcl:=KS ns;have pN:∀x∈Y8 ns (some 9) (some 21),x.natAbs<2 ^ Fz:=fun x hx=>Vg x (cL hx);generalize Y8 ns (some 9) (some 21)=cs at hcl pN;have sC:Ao H3 (upd H3 C (.lst (cs.map V.int))):=Ao.new hC;have nU:upd H3 C (.lst (cs.map V.int)) C=some (.lst (cs.map V.int)):=Ae;generalize upd H3 C (.lst (cs.map V.int))=G0 at sC nU
     refine⟨C,rfl,⟨_,.of nU⟩,for_list (K:=K) (a:=C) (xs:=cs.map V.int) (fun i σ' G=>∃(rv:V) (L:Addr) (Am:Lat.Mat) (v:Nat->Int) (o9 Yk dY:Option V),σ'=[rS a,some (.int (h:Int)),some (.int (w:Int)),some (.int (m:Int)),some rv,o5,o6,rS L,o8,o9,Yk,dY]/\Ao G0 G/\Rep K G rv (dT h w Am)/\SqL K G L (VI w v)/\Lat.Bent h w m d i Am v)
      ⟨.ref D,L,_,v1,none,none,none,rfl,Ao.refl _,Rep.same (s3.trans sC) rD,.of (sC _ _ FP),Lat.Bent.first hm dle v0 vb⟩ (fun i σ G _ ⟨_,_,_,_,_,_,_,_,s,_⟩=>.of (s _ _ nU)) ?_ ?_⟩
     . rintro i y σ G hy ⟨rv,L,Am,v,o9,Yk,dY,rfl,s,rr,rl,bt⟩;have hi:i<cs.length:=by have:=(qb2.mp hy).1;simpa using this
       rw[qc1,qb0 hi]at hy;cases hy;have hcb:=pN _ (qj4 hi);generalize cs[i]=c at hcb;dsimp only[Rp];obtain⟨b,eb⟩:∃b:Bool,b=decide (c%3=0):=⟨_,rfl⟩
       refine qp8 (fun σ' G'=>σ'=[rS a,some (.int (h:Int)),some (.int (w:Int)),some (.int (m:Int)),some rv,o5,o6,rS L,o8,iS c,some (.int (w:Int)),dY]/\G=G') (fun key=>?_) ?_
       . exact⟨_,rfl,key _ _ ⟨rfl,rfl⟩⟩
       rintro _ _ ⟨rfl,rfl⟩;refine qp8 (t:=P6 _ _ _) (fun σ' G'=>σ'=[rS a,some (.int (h:Int)),some (.int (w:Int)),some (.int (m:Int)),some rv,o5,o6,rS L,o8,iS c,some (.int ((if b then h else w:Nat):Int)),dY]/\G=G') (fun key=>?_) ?_
       . refine⟨_,rfl,_,_,rfl,rfl,(by show(0:Int)<3;decide),rfl,_,rfl,?_⟩;refine ite2 (fun h1=>?_) (fun h1=>?_)
         . have hb:b=true:=by rw[eb];simpa using h1
           exact⟨_,rfl,key _ _ ⟨by rw[hb];rfl,rfl⟩⟩
         . have hb:b=false:=by rw[eb];simpa using h1
           exact key _ _ ⟨by rw[hb];rfl,rfl⟩
       rintro _ _ ⟨rfl,rfl⟩;have nH:(if b then h else w:Nat)<=60:=by cases b<;>simp<;>omega
       refine qp8 (fun σ' G'=>∃JG,σ'=[rS a,some (.int (h:Int)),some (.int (w:Int)),some (.int (m:Int)),some rv,o5,o6,rS L,o8,iS c,some (.int ((if b then h else w:Nat):Int)),some JG]/\Ao G G'/\(JG=.non\/∃t,K9 (if b then h else w) t/\tB 2 t/\Rep K G' JG (Y7 t))) (fun key=>?_) ?_
       . have hn1:0<=c*48271%1009%5:=qi0 _ (by decide);have hn2:c*48271%1009%5<5:=qi6 _ (by decide);refine⟨_,rfl,_,_,rfl,rfl,⟨by decide,by decide⟩,_,rfl,_,rfl,_,_,rfl,rfl,Ih (m:=Fz) (n:=16) hcb (by decide) (by decide),_,_,rfl,rfl,(by show(0:Int)<1009;decide),_,_,rfl,rfl,(by show(0:Int)<5;decide),_,_,rfl,rfl,?_⟩;refine⟨_,_,(if b then h else w),rfl,nH,fun _=>key _ _ ⟨.non,rfl,Ao.refl G,.inl rfl⟩,fun _ t v G' ht htb s rt=>key _ _ ⟨v,rfl,s,.inr ⟨t,ht,htb 2 (by show _<4;omega),rt⟩⟩⟩
       rintro _ G1 ⟨JG,rfl,sv,hv⟩;have OP:=Rep.same sv rr;refine⟨_,rfl,?_⟩;rcases hv with rfl|⟨t,ht,htb,rt⟩
       . refine⟨rfl,_,rfl,?_⟩;refine M1 (by simp) ?_;exact⟨rv,L,Am,v,_,_,_,rfl,s.trans sv,OP,sv.seq rl,bt.up⟩
       . obtain⟨va,rfl⟩:∃va,JG=.ref va:=by cases t<;>exact⟨_,rt.choose_spec.choose_spec.1⟩
         refine⟨rfl,_,rfl,?_⟩;refine Yu (by simp) ?_;refine qp8 (fun σ' G'=>∃D:Addr,σ'=[rS a,some (.int (h:Int)),some (.int (w:Int)),some (.int (m:Int)),rS D,o5,o6,rS L,o8,iS c,some (.int ((if b then h else w:Nat):Int)),rS va]/\Ao G1 G'/\Rep K G' (.ref D) (dT h w (if b then Eb t Am else gE t Am))) (fun key=>?_) ?_
         . refine⟨_,rfl,_,rfl,_,rfl,_,_,rfl,rfl,(by show(0:Int)<3;decide),rfl,_,rfl,?_⟩;rw[show decide (V.int (c%3)=V.int 0)=b by rw[eb];exact DW _ _];exact⟨rv,.ref va,h,w,95,Am,b,t,rfl,OP,rt,ht,bt.bt.mono O9m,htb.mono O9m,by decide,O9m,O9m,fun D G2 fD s2 r2=>key _ _ ⟨D,rfl,s2,Rep.same Fl r2⟩⟩
         rintro _ G2 ⟨D2,rfl,s2,r2⟩;have GI:=(s.trans sv).trans s2;refine⟨_,rfl,_,_,rfl,rfl,(by show(0:Int)<3;decide),rfl,_,rfl,?_⟩;have PZ:decide (V.int (c%3)=V.int 0)=b:=by rw[eb];exact DW _ _
         cases b with
         | true =>
           refine M1 (by simpa using PZ) ?_;exact⟨.ref D2,L,_,v,_,_,_,rfl,GI,r2,(sv.trans s2).seq rl,bt.row ht htb⟩
         | false =>
           refine Yu (by simpa using PZ) ?_;exact⟨_,rfl,_,rfl,L,.ref va,w,v,t,rfl,(sv.trans s2).seq rl,Rep.same s2 rt,ht,htb,O9m,fun c=>qa1 (bt.bits c) (qb9 (by decide) O9m),fun L2 G3 s3 h3=>⟨.ref D2,L2,_,_,_,_,_,rfl,GI.trans s3,Rep.same s3 r2,.of h3,bt.col ht htb⟩⟩
     . rintro σ G ⟨rv,L,Am,v,o9,Yk,dY,rfl,s,rr,rl,bt⟩
       have up:∀j,cs.length+j<=12->Lat.Bent h w m d (cs.length+j) Am v:=fun j=>by
        induction j with
        | zero=>intro _;rw[qa3]at bt;exact bt
        | succ j ih=>intro q;exact(ih O9m).up
       have QC:=up (12-cs.length) O9m;rw[show cs.length+(12-cs.length)=12 by omega]at QC;exact key _ _ ⟨rv,L,Am,v,o9,Yk,dY,rfl,sC.trans s,rr,rl,QC⟩
   rintro _ H4 ⟨rv,L2,Am,v,o9,Yk,dY,rfl,s4,rr,rl,bt⟩;refine⟨_,rfl,_,rfl,Cp (by simp),fun tp htp=>?_⟩;have sT:=Ao.new (o:=.tup [rv,.ref L2]) htp;exact k tp L2 rv Am v d _ (((s1.trans s3).trans s4).trans sT) (.of Ae) (Rep.same sT rr) (sT.seq rl) bt dpos
noncomputable abbrev Hn:Stmt:=Ea (top 22) 2
theorem Ey:FnScope ["self","spot","i","at","head","other"] ["self","spot","i"] (Ar Hn):=Bn
theorem Q8{f:Addr}{fd:FuncData}(F:Fb K "meet" "Stairs.meet" Hn f fd)(T:Ga K mg Ad Ab Ag)(B4:G8 P w K mg base Ab "shrink_row" ["self","i","first"] 4 (Gq K Ad Ab Ag))(Cf:G8 P w K mg base Ab "turn" ["self","turn"] 3 (Gr K Ad Ab Ag))(F8:G8 P w K mg base Ab "blend" ["self","i","j","one","other"] 2 (Hz K Ad Ab Ag)):By P w K mg base Ex 5 f fd ["self","spot","i"] (Wf K Ad Ab Ag):=by
 refine F.ok Ey (fun vs H Q E h=>?_) (fun Dp A outer s H vs Q E hr h=>?_)
 . obtain⟨_,_,_,_,_,_,_,_,_,_,_,rfl,_⟩:=h;rfl
 . obtain⟨H0,p,q,M,n,W,t,spot,i,s,Nx,rfl,x,hs,hi,ok,k⟩:=h;obtain⟨cX,cW,MI⟩:=x.sm;obtain⟨r,b,lx,f1,f2⟩:=x.ex;obtain⟨dx,fs,hp,l1,l2,l3,l4,l5⟩:=lx.ob;obtain⟨as,xa,na⟩:=lx.rw;obtain⟨h1,h2,h3⟩:=ok.hd spot (qa0 _) hs;obtain⟨o1,o2⟩:=ok.oth;obtain⟨ci,_,AS,_,y9⟩:=xa.row (K:=K) hi;obtain⟨cs,_,MA,_,hcs⟩:=xa.row (K:=K) (show spot<n by omega)
   refine⟨_,(Af (Au (i:=3) Ey.nd (Aw (Av (K:=K)) (At (K:=K) (pv 0)) (pv 1) (fun _ _=>rfl)))
    (Af (Au (i:=4) Ey.nd (Aw (Av (K:=K)) (Aw (Av (K:=K)) (At (K:=K) (pv 0)) (pv 1) (fun _ _=>rfl)) (pv 3) (fun _ _=>rfl)))
    (Af (Au (i:=5) Ey.nd (Aw (Av (K:=K)) (Aw (Av (K:=K)) (At (K:=K) (pv 0)) (pv 2) (fun _ _=>rfl)) (pv 3) (fun _ _=>rfl)))
    (Af (Ci (Bo Ec (Bg Di (pv 5) (pv 4)) An (Bq _)) (Ak (Bw (C4 (pv 0) T.cl_Stairs Cf hr (Aa (E2 (Aa Eh (Aa (pv 2) (Aa (pv 1) (Aa (Jo F0 (Bg Fx (pv 5) (pv 4))) Ai))))) Ai)))) (Af (Bw (C4 (pv 0) T.cl_Stairs F8 hr (Aa (pv 1) (Aa (pv 2) (Aa (pv 4) (Aa (pv 5) Ai))))))
    (Ak (Bw (C4 (pv 0) T.cl_Stairs B4 hr (Aa (pv 1) (Aa (Bg Do (pv 1) An) Ai)))))))
    (Ak (Bw (C4 (pv 0) T.cl_Stairs B4 hr (Aa (pv 2) (Aa (Bg Do (pv 1) An) Ai))))))))),?_⟩
   refine⟨_,rfl,p,Ab,dx,fs,_,rfl,hp,T.cl_Stairs,T.na_Stairs_starts,l3,_,rfl,q,_,_,_,rfl,rfl,.of x.st,Bi (Ch hs),?_⟩;refine⟨_,rfl,p,Ab,dx,fs,_,rfl,hp,T.cl_Stairs,T.na_Stairs_rows,l1,_,rfl,r,_,_,_,rfl,rfl,.of xa.2.1,Bi MA,_,rfl,cs,_,_,_,rfl,rfl,hcs,Bi (Ch h1),?_⟩;refine⟨_,rfl,p,Ab,dx,fs,_,rfl,hp,T.cl_Stairs,T.na_Stairs_rows,l1,_,rfl,r,_,_,_,rfl,rfl,.of xa.2.1,Bi AS,_,rfl,ci,_,_,_,rfl,rfl,y9,Bi (Ch h1),?_⟩;refine Ap (fun σ' H'=>σ'=[rS p,iS spot,iS i,some (.int ((t spot:Nat):Int)),some (.int (s.1 spot (t spot))),some (.int (s.1 i (t spot)))]/\H=H') ?_ fun key=>key _ _ ⟨rfl,rfl⟩;refine Hw ?_;refine qp8 (t:=P6 _ _ _) (fun σ' H'=>σ'=[rS p,iS spot,iS i,some (.int ((t spot:Nat):Int)),some (.int (s.1 spot (t spot))),some (.int (s.1 i (t spot)))]/\∃s1,SX Ab H0 H' p q M n W t i s1/\Uc n W t i (spot+1) i s1/\LA W t (spot+1) i s1.1/\Nx (Lat.shrS t i (spot+1) s1 (i-(spot+1)))) (fun key=>?_) ?_
   . refine⟨_,rfl,_,rfl,_,_,rfl,rfl,h2,rfl,_,rfl,?_⟩;refine ite2 (fun h4=>?_) (fun h4=>?_)
     . have h5:s.1 i (t spot)%s.1 spot (t spot)=0:=by simpa using h4
       have h6:s.1 i (t spot)=s.1 i (t spot) / s.1 spot (t spot)*s.1 spot (t spot):=(qo6 (Int.dvd_of_emod_eq_zero h5)).symm;obtain⟨FI,FH⟩:=ok.add _ h6;refine⟨_,rfl,p,dx,fs,rfl,hp,l4 _ (by decide +kernel),_,rfl,_,rfl,_,rfl,_,rfl,_,_,rfl,rfl,Nh.of9 O9m h3,_,rfl,Cp (by simp),?_⟩;rw[qd7 _ (qp7 h2)];have hk:(s.1 i (t spot) / s.1 spot (t spot)).natAbs<L9:=qa7 (qe1 _ _) o2;generalize s.1 i (t spot) / s.1 spot (t spot)=kk at h6 FI FH hk;intro T1 hT1;have s1:Ao H (upd H T1 (.tup [.str "add",.int i,.int spot,.int (-kk)])):=Ao.new hT1;have hT:Rep K (upd H T1 (.tup [.str "add",.int i,.int spot,.int (-kk)])) (.ref T1) (Y7 (.ad i spot (-kk))):=⟨T1,_,rfl,.of Ae,⟨_,_,rfl,rfl,_,_,rfl,rfl,_,_,rfl,rfl,_,_,rfl,rfl,rfl⟩⟩
       generalize upd H T1 (.tup [.str "add",.int i,.int spot,.int (-kk)])=G1 at s1 hT;refine⟨p,.ref T1,Ab,r,b,_,n,W,_,_,.ad i spot (-kk),rfl,.inr rfl,lx.keep s1,hT,⟨hi,O9m,O9m,fun c hc=>Ym (by rw[qb3];exact hk) (ok.bo.1 _ _ O9m hc)⟩,⟨O9m,hi,O9m,fun c hc=>Ym (by rw[qb3,qb3];exact hk) (ok.bo.2 _ _ hi hc)⟩,O9m,O9m,fun r' b' G2 sx n1 n2 z=>?_⟩;refine key _ _ ⟨rfl,_,x.redo s1 sx n1 n2 z,FI,fun j hj1 hj2=>?_,FH⟩;have e:(oK (.ad i spot (-kk)) s).1 j=s.1 j:=Lat.addR_row_ne (show j≠i by omega);rw[e];exact ok.hd j O9m hj2
     . refine Ap (fun σ' H'=>σ'=[rS p,iS spot,iS i,some (.int ((t spot:Nat):Int)),some (.int (s.1 spot (t spot))),some (.int (s.1 i (t spot)))]/\∃g a c,Lat.Shares (s.1 spot (t spot)) (s.1 i (t spot)) g a c/\SX Ab H0 H' p q M n W t i (Re spot i (s.1 spot (t spot)) (s.1 i (t spot)) g a c s)) ?_ fun EI=>?_;rotate_left
       . refine⟨_,rfl,p,dx,fs,rfl,hp,l4 _ (by decide +kernel),_,rfl,_,rfl,_,rfl,_,rfl,?_⟩;refine⟨p,Ab,r,b,_,n,W,spot,i,_,_,s,_,rfl,.inr rfl,lx,O9m,hi,O9m,O9m,O9m,h2,o1,h3,o2,ok.bo,fun L g a c G fr kp _ sh z=>?_⟩;exact EI _ _ ⟨rfl,g,a,c,sh,x.redo2 lx f1 f2 fr kp z⟩
       refine Hv fun G V9=>?_;obtain⟨g,a,c,sh,y⟩:=V9;obtain⟨FI,FH,QV⟩:=ok.ble g a c sh
       have hd1:LA W t (spot+1) i (Re spot i (s.1 spot (t spot)) (s.1 i (t spot)) g a c s).1:=fun j hj1 hj2=>by
        have e:(Re spot i (s.1 spot (t spot)) (s.1 i (t spot)) g a c s).1 j=s.1 j:=Lat.blend_row_ne (show j≠spot by omega) (show j≠i by omega) _ _ _ _;rw[e];exact ok.hd j O9m hj2
       obtain⟨r',b',ly,_⟩:=y.ex;obtain⟨DA,fs',nF,_,_,_,mV,_⟩:=ly.ob;refine⟨_,rfl,p,DA,fs',rfl,nF,mV _ (by decide +kernel),_,rfl,_,rfl,_,_,rfl,rfl,?_⟩;refine⟨H0,p,q,M,n,W,t,i,_,spot,spot+1,rfl,y,O9m,O9m,.inl O9m,hd1,FI,fun G' z=>?_⟩;refine key _ _ ⟨rfl,_,z,FH,fun j hj1 hj2=>?_,QV⟩;rw[Qj _ _ _ _ _ _ (show j≠spot by omega)];exact hd1 j hj1 hj2
   refine Hv fun G V9=>?_;obtain⟨s1,y,FI,hd1,FH⟩:=V9;obtain⟨r',b',ly,_⟩:=y.ex;obtain⟨DA,fs',nF,_,_,_,mV,_⟩:=ly.ob;refine⟨_,rfl,p,DA,fs',rfl,nF,mV _ (by decide +kernel),_,rfl,_,rfl,_,_,rfl,rfl,?_⟩;exact⟨H0,p,q,M,n,W,t,i,s1,i,spot+1,rfl,y,hi,O9m,.inr (qa0 _),hd1,FI,fun G' z=>k _ _ z FH⟩
noncomputable abbrev F1:Stmt:=Ea (top 22) 3
theorem Ic:FnScope ["self","i"] ["self"] (Ar F1):=Bn
theorem N1{f:Addr}{fd:FuncData}(F:Fb K "shrink" "Stairs.shrink" F1 f fd)(T:Ga K mg Ad Ab Ag)(B4:G8 P w K mg base Ab "shrink_row" ["self","i","first"] 4 (Gq K Ad Ab Ag)):By P w K mg base Ex 5 f fd ["self"] (Qe K Ad Ab Ag):=by
 refine F.ok Ic (fun vs H Q E h=>?_) (fun Dp A outer s H vs Q E hr h=>?_)
 . obtain⟨_,_,_,_,_,_,_,_,_,rfl,_⟩:=h;rfl
 . obtain⟨H0,p,q,M,n,W,t,i,s,rfl,x,ok,k⟩:=h;obtain⟨cX,cW,MI⟩:=x.sm;obtain⟨r,b,lx,_⟩:=x.ex;obtain⟨dx,fs,hp,l1,l2,l3,l4,l5⟩:=lx.ob;refine⟨_,(Ak (Dg qc3 rfl (dR (by rfl) T.n_range (Aa (Bg Ho (Bf (Az (K:=K)) T.n_len qf7 (Aa (At (K:=K) (pv 0)) Ai)) An) (Aa (Jo F0 An) (Aa (Jo F0 An) Ai)))) (Ax (i:=1) Ic.nd) (Ak (Bw (C4 (pv 0) T.cl_Stairs B4 hr (Aa (pv 1) (Aa (Bg Do (pv 1) An) Ai))))))),?_⟩;refine⟨_,rfl,p,Ab,dx,fs,_,rfl,hp,T.cl_Stairs,T.na_Stairs_starts,l3,q,_,rfl,.inl (.of x.st),_,_,rfl,rfl,_,rfl,_,rfl,i+1,by rw[Ba],O9m,?_⟩;clear lx hp l1 l2 l3 l4 l5;refine cD (hi:=((i+1:Nat):Int)-1) (n:=i+1) (fun d σ G=>∃o1,σ=[rS p,o1]/\SX Ab H0 G p q M n W t (i+1) (Lat.downS t i s d)) ⟨none,rfl,x⟩ ?_ ?_
   . rintro d σ G hd ⟨o1,rfl,y⟩;obtain⟨r,b,lx,_⟩:=y.ex;obtain⟨dx,fs,hp,l1,l2,l3,l4,l5⟩:=lx.ob;rw[show((i+1:Nat):Int)-1-((d:Nat):Int)=((i-d:Nat):Int) by omega];obtain⟨FI,FH⟩:=ok d O9m;refine⟨_,rfl,p,dx,fs,rfl,hp,l4 _ (by decide +kernel),_,rfl,_,rfl,_,_,rfl,rfl,?_⟩;refine⟨H0,p,q,M,n,W,t,i+1,Lat.downS t i s d,i-d,i-d+1,rfl,y,O9m,O9m,.inl O9m,FI,FH,fun G' z=>?_⟩;rw[show i+1-(i-d+1)=d by omega]at z;exact⟨_,rfl,z⟩
   . rintro σ G ⟨o1,rfl,y⟩;exact k _ y
noncomputable abbrev Ef:Stmt:=Ea (top 27) 3
theorem Cb:FnScope ["self","many","gap","i","j"] ["self"] (Ar Ef):=Bn
theorem Ke{f:Addr}{fd:FuncData}(F:Fb K "put_in_order" "Work.put_in_order" Ef f fd)(T:Ga K mg Ad Ab Ag)(Gf:G8 P w K mg base Ag "share" ["self","i","j"] 4 (Tg K Ad Ab Ag)):By P w K mg base Ex 5 f fd ["self"] (Th K Ad Ab Ag):=by
 refine F.ok Cb (fun vs H Q E h=>?_) (fun Dp A outer s H vs Q E hr h=>?_)
 . obtain⟨_,_,_,_,_,_,_,_,_,_,_,_,rfl,_⟩:=h;rfl
 . obtain⟨H0,p,L,R,nm,n,w,m,l,r,f,Sv,rfl,x,mn,mw,v0,vs,k⟩:=h;obtain⟨Zg,IA,bJ⟩:=T.x_GAPS;obtain⟨cX,cW⟩:=x.sm;obtain⟨lF,Yz,Yx,hpa,lR,LQ,gY,IJ,fN,iJ,LP,_⟩:=x.ob
   refine⟨_,(Af (Au (i:=1) Cb.nd (Bf (Az (K:=K)) T.n_len qf7 (Aa (At (K:=K) (pv 0)) Ai)))
    (Af (Dg qc3 rfl (Z9 (K:=K) (Z2 (v:=.ref Zg) (by rfl) IA rfl)) (Ax (i:=2) Cb.nd) (Ak (Dg qc3 rfl (Dl (by rfl) T.n_range (Aa (Bg Ho (pv 1) (pv 2)) Ai)) (Ax (i:=3) Cb.nd) (Ak (Bw (C4 (pv 0) T.cl_Work Gf hr (Aa (pv 3) (Aa (Bg Do (pv 3) (pv 2)) Ai))))))))
    (Ak (Dg qc3 rfl (Dl (by rfl) T.n_range (Aa (pv 1) Ai)) (Ax (i:=3) Cb.nd) (Ak (Dg qc3 rfl (Nz (by rfl) T.n_range (Aa (Bg Do (pv 3) An) (Aa (pv 1) Ai))) (Ax (i:=4) Cb.nd) (Ak (Bw (C4 (pv 0) T.cl_Work Gf hr (Aa (pv 3) (Aa (pv 4) Ai))))))))))),?_⟩
   refine qp8 (fun σ' H'=>σ'=[rS p,some (.int (m:Int)),none,none,none]/\H=H') (fun key=>?_) ?_
   . exact⟨_,rfl,p,Ag,Yz,Yx,_,rfl,hpa,T.cl_Work,T.na_Work_numbers,fN,nm,_,rfl,.inl (.of x.nu),key _ _ ⟨by rw[qa3,K5];rfl,rfl⟩⟩
   refine Hw ?_;refine qp8 (fun σ' H'=>∃(o2 o3:Option L2.V),σ'=[rS p,some (.int (m:Int)),o2,o3,none]/\∃(d:Nat) (f:Nat->Int) (l r:Lat.Mat × Lat.Mat),d<=5*m/\Sv d f l r/\WX K Ad Ag H0 H' p L R nm n w none l r (G7 m f)) (fun key=>?_) ?_
   . refine⟨Zg,rfl,⟨_,bJ H⟩,?_⟩;refine EN (K:=K) (a:=Zg) (xs:=(([32,16,8,4,2]:List Int).map V.int)) (fun g σ' G=>∃(o2 o3:Option L2.V),σ'=[rS p,some (.int (m:Int)),o2,o3,none]/\∃(d:Nat) (f:Nat->Int) (l r:Lat.Mat × Lat.Mat),d<=g*m/\Sv d f l r/\WX K Ad Ag H0 G p L R nm n w none l r (G7 m f)) ⟨none,none,rfl,0,f,l,r,O9m,v0,x⟩ (fun g σ G _ _=>bJ G) ?_ ?_
     . rintro g y σ G hy ⟨o2,o3,rfl,d,f,l,r,hd,hv,z⟩
       have hg:∃gp:Nat,y=.int (gp:Int)/\1<=gp/\gp<=32/\g<5:=by
        match g,hy with
        | 0,hy=>cases hy;exact⟨32,rfl,by decide,by decide,by decide⟩
        | 1,hy=>cases hy;exact⟨16,rfl,by decide,by decide,by decide⟩
        | 2,hy=>cases hy;exact⟨8,rfl,by decide,by decide,by decide⟩
        | 3,hy=>cases hy;exact⟨4,rfl,by decide,by decide,by decide⟩
        | 4,hy=>cases hy;exact⟨2,rfl,by decide,by decide,by decide⟩
        | g+5,hy=>simp at hy
       obtain⟨gp,rfl,g1,g2,g5⟩:=hg;refine⟨_,rfl,_,rfl,_,_,rfl,rfl,_,rfl,O9m,O9m,?_⟩;refine Dm (lo:=0) (n:=((m:Int)-(gp:Int)).toNat) (fun i σ' G=>∃o3:Option L2.V,σ'=[rS p,some (.int (m:Int)),some (.int (gp:Int)),o3,none]/\∃(d:Nat) (f:Nat->Int) (l r:Lat.Mat × Lat.Mat),d<=g*m+i/\Sv d f l r/\WX K Ad Ag H0 G p L R nm n w none l r (G7 m f)) ⟨o3,rfl,d,f,l,r,hd,hv,z⟩ ?_ ?_
       . rintro i σ G hi ⟨o3,rfl,d,f,l,r,hd,hv,z⟩;rw[qi7];obtain⟨OJ,kR,kM,kH,pB,pA,mW,OZ,oZ,lQ,OY,_⟩:=z.ob
         have uC:g*m+m<=5*m:=by
          have:=qb1 m (show g+1<=5 from g5);rw[qd3,qd1]at this;exact this
         refine⟨_,rfl,p,kR,kM,rfl,kH,lQ _ (by decide +kernel),_,rfl,_,rfl,_,rfl,_,_,rfl,rfl,?_⟩;obtain⟨o1,LL,mP⟩:=vs d i (i+gp) f l r hv O9m O9m O9m;refine⟨H0,p,L,R,nm,n,w,m,i,i+gp,l,r,f,rfl,z,O9m,O9m,mn,mw,o1,fun KI=>?_,fun g' a b G' sh z'=>?_⟩
         . exact⟨_,rfl,d+1,f,l,r,O9m,LL KI,z⟩
         . exact⟨_,rfl,d+1,_,_,_,O9m,mP g' a b sh,z'⟩
       . rintro σ G ⟨o3,rfl,d,f,l,r,hd,hv,z⟩;refine⟨_,_,rfl,d,f,l,r,?_,hv,z⟩;rw[qd3,qd1];omega
     . rintro σ G ⟨o2,o3,rfl,d,f,l,r,hd,hv,z⟩;exact key _ _ ⟨o2,o3,rfl,d,f,l,r,hd,hv,z⟩
   refine fC fun o2 o3 G V9=>?_;obtain⟨d,f,l,r,hd,hv,z⟩:=V9;refine⟨_,rfl,_,rfl,O9m,O9m,?_⟩;refine Dm (lo:=0) (n:=((m:Int)).toNat) (fun i σ' G=>∃o3 o4:Option L2.V,σ'=[rS p,some (.int (m:Int)),o2,o3,o4]/\∃(d:Nat) (f:Nat->Int) (l r:Lat.Mat × Lat.Mat),d<=5*m+i*m/\Sv d f l r/\Lat.ChainTo m i f/\WX K Ad Ag H0 G p L R nm n w none l r (G7 m f)) ⟨o3,none,rfl,d,f,l,r,O9m,hv,fun a b ha=>O9m,z⟩ ?_ ?_
   . rintro i σ G hi ⟨o3,o4,rfl,d,f,l,r,hd,hv,hc,z⟩;rw[qb6]at hi;rw[qi7]
     have UC:i*m+m<=m*m:=by
      have:=qb1 m (show i+1<=m from hi);rw[qd3,qd1]at this;exact this
     refine⟨_,rfl,_,_,rfl,rfl,_,rfl,_,_,rfl,⟨O9m,O9m,O9m,O9m⟩,?_⟩;refine Dm (lo:=(i:Int)+1) (n:=((m:Int)-((i:Int)+1)).toNat) (fun j σ' G=>∃o4:Option L2.V,σ'=[rS p,some (.int (m:Int)),o2,some (.int (i:Int)),o4]/\∃(d:Nat) (f:Nat->Int) (l r:Lat.Mat × Lat.Mat),d<=5*m+i*m+j/\Sv d f l r/\Lat.ChainAt m i (i+1+j) f/\WX K Ad Ag H0 G p L R nm n w none l r (G7 m f)) ⟨o4,rfl,d,f,l,r,O9m,hv,hc.at,z⟩ ?_ ?_
     . rintro j σ G hj ⟨o4,rfl,d,f,l,r,hd,hv,hc,z⟩;rw[show(i:Int)+1+(j:Int)=((i+1+j:Nat):Int) by omega];obtain⟨OJ,kR,kM,kH,pB,pA,mW,OZ,oZ,lQ,OY,_⟩:=z.ob;refine⟨_,rfl,p,kR,kM,rfl,kH,lQ _ (by decide +kernel),_,rfl,_,rfl,?_⟩;obtain⟨o1,LL,mP⟩:=vs d i (i+1+j) f l r hv O9m O9m O9m;refine⟨H0,p,L,R,nm,n,w,m,i,i+1+j,l,r,f,rfl,z,O9m,O9m,mn,mw,o1,fun KI=>?_,fun g' a b G' sh z'=>?_⟩
       . exact⟨_,rfl,d+1,f,l,r,O9m,LL KI,hc.skip KI,z⟩
       . exact⟨_,rfl,d+1,_,_,_,O9m,mP g' a b sh,hc.step O9m O9m sh.pair,z'⟩
     . rintro σ G ⟨o4,rfl,d,f,l,r,hd,hv,hc,z⟩;rw[show i+1+((m:Int)-((i:Int)+1)).toNat=m by omega]at hc;refine⟨_,_,rfl,d,f,l,r,?_,hv,hc.next,z⟩;rw[qd3,qd1];omega
   . rintro σ G ⟨o3,o4,rfl,d,f,l,r,hd,hv,hc,z⟩;rw[qb6]at hc;exact k d f l r _ hv hc z
noncomputable abbrev F2:Stmt:=Ea (top 22) 1
theorem Fg:FnScope ["self","i","spot"] ["self","i"] (Ar F2):=Bn
theorem N2{f:Addr}{fd:FuncData}(F:Fb K "put_in" "Stairs.put_in" F2 f fd)(T:Ga K mg Ad Ab Ag)(Ii:Has P w K mg base "start_of" ["row"] 1 (Mn K))(Cf:G8 P w K mg base Ab "turn" ["self","turn"] 3 (Gr K Ad Ab Ag))(Hr:G8 P w K mg base Ab "meet" ["self","spot","i"] 5 (Wf K Ad Ab Ag)):By P w K mg base Ex 6 f fd ["self","i"] (Qf K Ad Ab Ag):=by
 refine F.ok Fg (fun vs H Q E h=>?_) (fun Dp A outer s H vs Q E hr h=>?_)
 . obtain⟨_,_,_,_,_,_,_,_,_,_,rfl,_⟩:=h;rfl
 . obtain⟨H0,p,q,M,n,W,t,i,s0,I,rfl,x,hi,P,ht,k⟩:=h;obtain⟨cX,cW,MI⟩:=x.sm
   refine⟨_,(Af (Au (i:=2) Fg.nd An)
    (Af (Ms qc3 (PW.pt (gK (Bo Q4 (pv 2) (pv 1) (Bq _)) (DN (Bo jQ (Aw (Av (K:=K)) (At (K:=K) (pv 0)) (pv 2) (fun _ _=>rfl)) (Aq Ii hr (Aa (Aw (Av (K:=K)) (At (K:=K) (pv 0)) (pv 1) (fun _ _=>rfl)) Ai)) (Bq _))))) (Af (Ci (Bo Ec (Aw (Av (K:=K)) (At (K:=K) (pv 0)) (pv 2) (fun _ _=>rfl)) (Aq Ii hr (Aa (Aw (Av (K:=K)) (At (K:=K) (pv 0)) (pv 1) (fun _ _=>rfl)) Ai)) (Bq _)) (Ak (Bw (C4 (pv 0) T.cl_Stairs Hr hr (Aa (pv 2) (Aa (pv 1) Ai))))) Br)
    (Ak (Au (i:=2) Fg.nd (Bg Do (pv 2) An)))))
    (Af (Bw (Hq (K:=K) qd9 qm8 qm7 N7 (At (K:=K) (pv 0)) (Aa (pv 2) (Aa (Hq (K:=K) qd9 PySem.F.slot_list_pop PySem.F.type_list_pop W5 (At (K:=K) (pv 0)) (Aa (pv 1) Ai)) Ai))))
    (Af (Bw (Hq (K:=K) qd9 qm8 qm7 N7 (At (K:=K) (pv 0)) (Aa (pv 2) (Aa (Hq (K:=K) qd9 PySem.F.slot_list_pop PySem.F.type_list_pop W5 (At (K:=K) (pv 0)) (Aa (pv 1) Ai)) Ai))))
    (Af (Bw (Hq (K:=K) qd9 qm8 qm7 N7 (At (K:=K) (pv 0)) (Aa (pv 2) (Aa (Aq Ii hr (Aa (Aw (Av (K:=K)) (At (K:=K) (pv 0)) (pv 2) (fun _ _=>rfl)) Ai)) Ai))))
    (Ak (Ci (Bo Q4 (Aw (Av (K:=K)) (Aw (Av (K:=K)) (At (K:=K) (pv 0)) (pv 2) (fun _ _=>rfl)) (Aw (Av (K:=K)) (At (K:=K) (pv 0)) (pv 2) (fun _ _=>rfl)) (fun _ _=>rfl)) An (Bq _)) (Ak (Bw (C4 (pv 0) T.cl_Stairs Cf hr (Aa (E2 (Aa Eh (Aa (pv 2) Ai))) Ai)))) Br))))))),?_⟩
   refine Fe (fun σ' H'=>σ'=[rS p,iS i,some (.int ((0:Nat):Int))]/\H=H') ?_ fun Oc=>Oc _ _ ⟨rfl,rfl⟩;refine Hw ?_;refine qp8 (fun σ' H'=>∃spot st s,σ'=[rS p,iS i,some (.int ((spot:Nat):Int))]/\SX Ab H0 H' p q M n W t i s/\I spot s/\spot<=i/\Fc W (s.1 i) st/\(spot<i->st<t spot)) (fun key=>?_) ?_
   . refine⟨fun m σ' G=>∃spot s,σ'=[rS p,iS i,some (.int ((spot:Nat):Int))]/\SX Ab H0 G p q M n W t i s/\I spot s/\spot<=i/\m=i-spot,⟨_,0,s0,rfl,x,P.start,qa5 _,rfl⟩,?_⟩;rintro m σ G ⟨spot,s,rfl,y,hI,hs,rfl⟩;obtain⟨st,hb⟩:=Fc.ex (P.ok spot s hs hI);obtain⟨r,b,lx,_⟩:=y.ex;obtain⟨dx,fs,hp,l1,l2,l3,l4,l5⟩:=lx.ob;obtain⟨as,xa,na⟩:=lx.rw;obtain⟨ci,_,AS,_,y9⟩:=xa.row (K:=K) hi;refine⟨_,rfl,_,rfl,_,_,rfl,rfl,_,rfl,?_⟩;refine ite2 (fun h1=>?_) (fun h1=>?_)
     . have hlt:spot<i:=by have:((spot:Nat):Int)<(i:Int):=by simpa using h1
                           omega
       refine⟨_,rfl,p,Ab,dx,fs,_,rfl,hp,T.cl_Stairs,T.na_Stairs_starts,l3,_,rfl,q,_,_,_,rfl,rfl,.of y.st,Bi (Ch hlt),_,rfl,p,Ab,dx,fs,_,rfl,hp,T.cl_Stairs,T.na_Stairs_rows,l1,_,rfl,r,_,_,_,rfl,rfl,.of xa.2.1,Bi AS,ci,W,st,_,rfl,y9,hb,O9m,_,_,rfl,rfl,_,rfl,?_⟩;refine ite2 (fun h2=>?_) (fun h2=>?_)
       . have hle:t spot<=st:=by have:((t spot:Nat):Int)<=(st:Int):=by simpa using h2
                                 omega
         refine⟨fun σ' G'=>∃Zw s',σ'=[rS p,iS i,some (.int ((Zw:Nat):Int))]/\SX Ab H0 G' p q M n W t i s'/\I Zw s'/\Zw=spot+1,?_,?_⟩
         . rintro σ' G' ⟨Zw,s',rfl,z1,z2,rfl⟩;exact⟨i-(spot+1),O9m,spot+1,s',rfl,z1,z2,hlt,rfl⟩
         refine Ap (t:=P6 _ _ _) (fun σ' G'=>σ'=[rS p,iS i,some (.int ((spot:Nat):Int))]/\∃s',SX Ab H0 G' p q M n W t i s'/\I (spot+1) s') ?_ fun EI=>?_;rotate_left
         . refine⟨_,rfl,p,Ab,dx,fs,_,rfl,hp,T.cl_Stairs,T.na_Stairs_starts,l3,_,rfl,q,_,_,_,rfl,rfl,.of y.st,Bi (Ch hlt),_,rfl,p,Ab,dx,fs,_,rfl,hp,T.cl_Stairs,T.na_Stairs_rows,l1,_,rfl,r,_,_,_,rfl,rfl,.of xa.2.1,Bi AS,ci,W,st,_,rfl,y9,hb,O9m,rfl,_,rfl,?_⟩;refine ite2 (fun h3=>?_) (fun h3=>?_)
           . have he:t spot=st:=by
              have:((t spot:Nat):Int)=(st:Int):=by simpa using h3
              omega
             refine⟨_,rfl,p,dx,fs,rfl,hp,l4 _ (by decide +kernel),_,rfl,_,rfl,?_⟩;refine⟨H0,p,q,M,n,W,t,spot,i,s,I (spot+1),rfl,y,hlt,hi,P.meet spot s hlt hI (fun c hc=>hb.1 c O9m) (by rw[he];exact hb.2.1),fun G' s' z1 z2=>?_⟩;exact EI _ _ ⟨rfl,s',z1,z2⟩
           . have he:¬t spot=st:=by
              have:¬((t spot:Nat):Int)=(st:Int):=by simpa using h3
              omega
             exact EI _ _ ⟨rfl,s,y,P.skip spot s hlt hI fun c hc=>hb.1 c O9m⟩
         rintro _ G' ⟨rfl,s',z1,z2⟩;exact⟨_,rfl,_,_,rfl,rfl,spot+1,s',rfl,z1,z2,rfl⟩
       . have hle:¬t spot<=st:=by have:¬((t spot:Nat):Int)<=(st:Int):=by simpa using h2
                                  omega
         exact key _ _ ⟨spot,st,s,rfl,y,hI,hs,hb,fun _=>O9m⟩
     . have hlt:¬spot<i:=by have:¬((spot:Nat):Int)<(i:Int):=by simpa using h1
                            omega
       exact key _ _ ⟨spot,st,s,rfl,y,hI,hs,hb,fun z=>absurd z hlt⟩
   refine IZ fun spot st s G y hI hs hb hex=>?_;obtain⟨r,b,lx,f1,f2⟩:=y.ex;obtain⟨dx,fs,hp,l1,l2,l3,l4,l5⟩:=lx.ob;obtain⟨as,xa,na⟩:=lx.rw;obtain⟨bs,xb,nb⟩:=lx.bk;obtain⟨pr,pb⟩:=lx.refs;have rb:=lx.ne;obtain⟨ci,ML,AS,OW,y9⟩:=xa.row (K:=K) hi;obtain⟨di,LH,kP,mS,hdi⟩:=xb.row (K:=K) hi
   have six:∀l:Nat,i<l->seqIndex? ((i:Nat):Int) l=some i:=fun l hl=>by
    unfold seqIndex?;simp only[show ¬((i:Nat):Int)<0 by omega,if_false,qb6]
    first | (rw[if_neg (by omega)]) | (rw[if_pos (by omega)]) | (simp;omega)
   refine qp8 (fun σ' H'=>σ'=[rS p,iS i,some (.int ((spot:Nat):Int))]/\(∀a,a≠r->H' a=G a)/\H' r=some (.lst (insAt spot (.ref ci) ((as.map V.ref).eraseIdx i)))) (fun key=>?_) ?_
   . refine⟨_,rfl,p,Ab,dx,fs,_,rfl,hp,T.cl_Stairs,T.na_Stairs_rows,l1,.inl ⟨rfl,_,.of xa.2.1⟩,_,rfl,_,rfl,p,Ab,dx,fs,_,rfl,hp,T.cl_Stairs,T.na_Stairs_rows,l1,.inl ⟨rfl,_,.of xa.2.1⟩,_,rfl,r,_,_,i,_,rfl,rfl,xa.2.1,O9m,O9m,six _ (by rw[qa3,xa.1];exact hi),AS,?_⟩;refine⟨r,_,spot,_,rfl,rfl,Ae,?_,small (by rw[qg1 (by rw[qa3,xa.1];exact hi),qa3,xa.1];omega),key _ _ ⟨rfl,fun a ha=>by rw[As ha,As ha],Ae⟩⟩;rw[qg1 (by rw[qa3,xa.1];exact hi),qa3,xa.1];omega
   refine S6 fun G1 e1 r1=>?_;refine qp8 (fun σ' H'=>σ'=[rS p,iS i,some (.int ((spot:Nat):Int))]/\(∀a,a≠b->H' a=G1 a)/\H' b=some (.lst (insAt spot (.ref di) ((bs.map V.ref).eraseIdx i)))) (fun key=>?_) ?_
   . have hp1:G1 p=_:=(e1 _ pr).trans hp;have b1:G1 b=_:=(e1 _ rb.symm).trans xb.2.1;refine⟨_,rfl,p,Ab,dx,fs,_,rfl,hp1,T.cl_Stairs,T.na_Stairs_backs,l2,.inl ⟨rfl,_,.of b1⟩,_,rfl,_,rfl,p,Ab,dx,fs,_,rfl,hp1,T.cl_Stairs,T.na_Stairs_backs,l2,.inl ⟨rfl,_,.of b1⟩,_,rfl,b,_,_,i,_,rfl,rfl,b1,O9m,O9m,six _ (by rw[qa3,xb.1];exact hi),kP,?_⟩;refine⟨b,_,spot,_,rfl,rfl,Ae,?_,small (by rw[qg1 (by rw[qa3,xb.1];exact hi),qa3,xb.1];omega),key _ _ ⟨rfl,fun a ha=>by rw[As ha,As ha],Ae⟩⟩;rw[qg1 (by rw[qa3,xb.1];exact hi),qa3,xb.1];omega
   refine S6 fun G2 e2 b2=>?_;have r2:=(e2 _ rb).trans r1;have IP:∀a,a≠r->a≠b->G2 a=G a:=fun a h1 h2=>(e2 a h2).trans (e1 a h1);have hp2:=(IP _ pr pb).trans hp;have qr:q≠r:=fun z=>lx.nr (z▸y.mq);have qb:q≠b:=fun z=>lx.nb (z▸y.mq);have q2:=(IP _ qr qb).trans y.st;obtain⟨ya,ma⟩:=xa.move hi hs ML r2 fun a ha=>IP a (na a ha).1 (na a ha).2.1;obtain⟨yb,mb⟩:=xb.move hi hs LH b2 fun a ha=>IP a (nb a ha).1 (nb a ha).2.1;obtain⟨cs,_,MA,_,hcs⟩:=ya.row (K:=K) (show spot<n by omega)
   have KO:Lat.moveR s.1 i spot spot=s.1 i:=by
    rw[Lat.move_row];unfold Lat.mvI;rw[if_neg (by omega),if_pos rfl]
   rw[KO]at hcs;refine qp8 (fun σ' H'=>σ'=[rS p,iS i,some (.int ((spot:Nat):Int))]/\SX Ab H0 H' p q M n W (Lat.insT t spot st) (i+1) (Lat.moveS i spot s)) (fun key=>?_) ?_
   . refine⟨_,rfl,p,Ab,dx,fs,_,rfl,hp2,T.cl_Stairs,T.na_Stairs_starts,l3,.inl ⟨rfl,_,.of q2⟩,_,rfl,_,rfl,p,Ab,dx,fs,_,rfl,hp2,T.cl_Stairs,T.na_Stairs_rows,l1,_,rfl,r,_,_,_,rfl,rfl,.of r2,Bi (by rw[Ts,N9]at MA;exact MA),cs,W,st,_,rfl,hcs,hb,O9m,?_⟩;refine⟨q,_,spot,_,rfl,rfl,q2,by rw[Ba];exact hs,small (by rw[Ba];omega),key _ _ ⟨rfl,?_⟩⟩;rw[X3 hs];have qp:p≠q:=Eu hp y.st (by intro z;cases z);refine⟨⟨r,b,⟨⟨dx,fs,by rw[As qp];exact hp2,l1,l2,l3,l4,l5⟩,⟨_,ya.put qr.symm fun a ha z=>(na a (ma a ha)).2.2 (z.symm▸y.mq),fun a ha=>na a (ma a ha)⟩,⟨_,yb.put qb.symm fun a ha z=>(nb a (mb a ha)).2.2 (z.symm▸y.mq),fun a ha=>nb a (mb a ha)⟩,rb,lx.nr,lx.nb,fun a ha z=>?_⟩,f1,f2⟩,Ae,fun a o e=>?_,y.fp,y.fq,y.mq,⟨cX,cW,O9m⟩⟩
     . by_cases haq:a=q
       . rw[haq,Ae]at z;cases z
       . rw[As haq,IP a (fun e=>lx.nr (e▸ha)) (fun e=>lx.nb (e▸ha))]at z;exact lx.nn a ha z
     . rw[As (Bb e y.fq),IP a (Bb e f1) (Bb e f2)];exact y.same _ _ e
   refine Hv fun G3 z=>?_;obtain⟨r3,b3,MV,_⟩:=z.ex;obtain⟨KR,fT,hp3,l1,l2,l3,l4,l5⟩:=MV.ob;obtain⟨tG,OH,tO⟩:=MV.rw;obtain⟨c3,_,sV,_,hc3⟩:=OH.row (K:=K) (show spot<n by omega);have CD:(Lat.moveS i spot s).1 spot=s.1 i:=KO;rw[CD]at hc3
   have NW:Lat.insT t spot st spot=st:=by
    unfold Lat.insT;rw[if_neg (by omega),if_pos rfl]
   refine⟨_,rfl,p,Ab,KR,fT,_,rfl,hp3,T.cl_Stairs,T.na_Stairs_rows,l1,_,rfl,r3,_,_,_,rfl,rfl,.of OH.2.1,Bi sV,_,rfl,p,Ab,KR,fT,_,rfl,hp3,T.cl_Stairs,T.na_Stairs_starts,l3,_,rfl,q,_,_,_,rfl,rfl,.of z.st,Bi (Ch O9m),c3,_,_,_,rfl,rfl,hc3,Bi (by rw[NW];exact Ch hb.2.2),_,_,rfl,rfl,_,rfl,?_⟩;refine ite2 (fun h4=>?_) (fun h4=>?_)
   . have h5:s.1 i st<0:=by simpa using h4
     refine⟨_,rfl,p,KR,fT,rfl,hp3,l4 _ (by decide +kernel),_,rfl,Cp (by simp),fun T1 hT1=>?_⟩;have s1:Ao G3 (upd G3 T1 (.tup [.str "minus",.int ((spot:Nat):Int)])):=Ao.new hT1;have hT:Rep K (upd G3 T1 (.tup [.str "minus",.int ((spot:Nat):Int)])) (.ref T1) (Y7 (.mi spot)):=⟨T1,_,rfl,.of Ae,⟨_,_,rfl,rfl,_,_,rfl,rfl,rfl⟩⟩
     generalize upd G3 T1 (.tup [.str "minus",.int ((spot:Nat):Int)])=G4 at s1 hT;refine⟨p,.ref T1,Ab,r3,b3,_,n,W,_,_,.mi spot,rfl,.inr rfl,MV.keep s1,hT,(show spot<n by omega),(show spot<n by omega),O9m,O9m,fun r' b' G5 sx n1 n2 w=>?_⟩;refine k _ spot st s hs hI hb hex ((z.redo s1 sx n1 n2 w).re ?_);rw[Lat.insS,if_pos (by rw[CD];exact h5)];rfl
   . have h5:¬s.1 i st<0:=by simpa using h4
     refine k _ spot st s hs hI hb hex (z.re ?_);rw[Lat.insS,if_neg (by rw[CD];exact h5)]
noncomputable abbrev Nq:Stmt:=top 21
theorem Iw:FnScope ["table","width","lines","stairs","i","papers"] ["table","width","lines"] (Ar Nq):=Bn
theorem Ye{f:Addr}{fd:FuncData}(F:Fb K "stepped" "stepped" Nq f fd)(T:Ga K mg Ad Ab Ag)(Oe:Zi P w K mg base Ab ["self","rows","backs"] 2 (Wg K Ad Ab Ag))(Gy:Zi P w K mg base Ad ["self","rows","backs"] 1 (Hy K Ad Ab Ag))(F7:G8 P w K mg base Ab "put_in" ["self","i"] 6 (Qf K Ad Ab Ag))(F6:G8 P w K mg base Ab "shrink" ["self"] 5 (Qe K Ad Ab Ag)):By P w K mg base Ex 7 f fd ["table","width","lines"] (Ow K Ad Ab Ag):=by
 refine F.ok Iw (fun vs H Q E h=>?_) (fun Dp A outer s H vs Q E hr h=>?_)
 . obtain⟨_,_,_,_,_,_,_,_,_,_,_,_,rfl,_⟩:=h;rfl
 . obtain⟨v,L,r,b,sv,N,n,w,M,P,PB,J,rfl,hv,lx,hn,hw,TJ,j0,jt,k⟩:=h;obtain⟨ta,us,rfl,Xb,L6,Ge⟩:=E7 hv;obtain⟨dx,fs,hp,l1,l2,l3,l4,l5⟩:=lx.ob;obtain⟨ps,xp,np⟩:=lx.rw;obtain⟨bs,xb,nb⟩:=lx.bk;have nN:∀a,H a=none->¬N a:=fun a e z=>lx.nn a z e
   refine⟨_,(Af (Au (i:=3) Iw.nd (Kb Oe hr (by rfl) T.m_Stairs (Aa (Co (N':=["row","paper"]) (cap:=[none,none]) (by rfl) (by kernel_rfl) (Qz (K:=K) (by rfl) T.n_zip (Aa (pv 0) (Aa (At (K:=K) (pv 2)) Ai))) (fun _ _ _ _=>(Fs (K:=K) (n:=2) (by rfl) (Cc (Ax (i:=0) bS) (Cc (Ax (i:=1) bS) Fq)))) (fun _ _ _ _=>Cn) (fun _ _ _ _=>(Bg (Tr (K:=K)) (pv 0) (pv 1)))) (Aa (D7 (C9 (K:=K)) (by rfl) T.n_list Cv (Aa (At (K:=K) (pv 2)) Ai)) Ai))))
    (Af (Dg qc3 rfl (Dl (by rfl) T.n_range (Aa (Bf (Az (K:=K)) T.n_len qf7 (Aa (pv 0) Ai)) Ai)) (Ax (i:=4) Iw.nd) (Af (Bw (C4 (pv 3) T.cl_Stairs F7 hr (Aa (pv 4) Ai)))
    (Ak (Bw (Ig (pv 3) T.cl_Stairs F6 hr)))))
    (Af (Au (i:=5) Iw.nd (Kb Gy hr (by rfl) T.m_Lines (Aa (Co (N':=["row","width"]) (cap:=[none,some 1]) (by rfl) (by kernel_rfl) (Ct (K:=K) (At (K:=K) (pv 3))) (fun _ _ _ _=>(Ax (i:=0) bQ)) (fun _ _ _ _=>Cn) (fun _ _ _ _=>(Mu (Mz (K:=K)) (pv 0) (Mt (pv 1)) Ut))) (Aa (At (K:=K) (pv 3)) Ai))))
    (Ak (Bh (E2 (Aa (Co (N':=["row","width"]) (cap:=[none,some 1]) (by rfl) (by kernel_rfl) (Ct (K:=K) (At (K:=K) (pv 3))) (fun _ _ _ _=>(Ax (i:=0) bQ)) (fun _ _ _ _=>Cn) (fun _ _ _ _=>(Mu (Mz (K:=K)) (pv 0) Ut (Mt (pv 1))))) (Aa (pv 5) Ai)))))))),?_⟩
   refine qp8 (fun σ' H'=>∃p q,σ'=[rS ta,some (.int (w:Int)),rS L,rS p,none,none]/\SX Ab H H' p q (fun a=>a=q\/N a) n (w+n) (fun _=>0) 0 (Lat.beside w M P,PB)) (fun key=>?_) ?_
   . refine⟨_,rfl,_,rfl,L,Ad,dx,fs,_,rfl,hp,T.cl_Lines,T.na_Lines_rows,l1,ta,r,rfl,⟨_,Xb⟩,⟨_,.of xp.2.1⟩,fun D hD=>?_⟩
     refine Im (K:=K) (a:=ta) (b:=r) (xs:=us) (ys:=ps.map V.ref) (n:=n) (by rw[L6,qa3,xp.1,qm5]) (fun i zs τ H1=>∃cs,zs=cs.map V.ref/\cs.length=i/\Rows H H1 D cs (w+n) (Lat.beside w M P)/\∃o1 o2,τ=[o1,o2])
      ⟨[],rfl,rfl,Rows.nil hD,none,none,rfl⟩ (fun i zs τ H1 _ ⟨cs,_,_,R,_⟩=>⟨R.same.seq Xb,R.same.seq (.of xp.2.1)⟩) ?_ ?_
     . rintro i x y zs τ H1 pr hx hy ⟨cs,rfl,hcl,R,o1,o2,rfl⟩ hpr;obtain⟨hi,bx,rfl,RW⟩:=Ge i x hx;obtain⟨cy,_,ey,_,RV⟩:=xp.row (K:=K) hi;rw[ey]at hy;cases hy;have sp:Ao H1 (upd H1 pr (.tup [.ref bx,.ref cy])):=Ao.new hpr;refine⟨pr,_,rfl,.of Ae,rfl,_,_,rfl,_,_,rfl,rfl,?_⟩;refine⟨_,rfl,_,rfl,bx,cy,_,_,rfl,rfl,sp.seq (R.same.seq RW),sp.seq (R.same.seq RV),Cp (by rw[Ba,Ba];omega),fun E hE=>?_⟩;have sE:Ao (upd H1 pr (.tup [.ref bx,.ref cy])) (upd (upd H1 pr (.tup [.ref bx,.ref cy])) E (.lst (VI w (M i)++VI n (P i)))):=Ao.new hE;refine⟨sE _ _ (sp _ _ R.at),small (by rw[qa3];omega),cs++[E],by rw[qe7];rfl,by rw[qf3,hcl];rfl,?_,_,_,rfl⟩;refine R.push (sp.free hE) (sp.trans sE) ?_;rw[hcl,Ae,V6 (h:=Lat.beside w M P i) (fun c hc=>Lat.beside_lo hc) (fun a _=>Lat.beside_hi w M P i a)]
     rintro zs τ H1 ⟨cs,rfl,hcl,R,_⟩;have hp1:=R.same _ _ hp;refine⟨_,rfl,L,Ad,dx,fs,_,rfl,hp1,T.cl_Lines,T.na_Lines_backs,l2,b,_,rfl,.inl (.of (R.same _ _ xb.2.1)),fun B hB=>?_⟩;intro p DA lN iI JT;have s2:Ao H1 (upd H1 B (.lst (bs.map V.ref))):=Ao.new hB;have hB2:upd H1 B (.lst (bs.map V.ref)) B=some (.lst (bs.map V.ref)):=Ae;generalize upd H1 B (.lst (bs.map V.ref))=H2 at s2 hB2 lN iI;have s3:Ao H2 (upd (upd H2 DA (.own p)) p (.ins Ab DA [])):=(Ao.new iI).turn lN;have jL:=(R.same.trans s2).trans s3;have f2:∀a,H2 a=none->H a=none:=fun a e=>(R.same.trans s2).free e;refine⟨p,DA,_,_,rfl,Ae,fun q H4 fs' hq hfs sx pK O5=>⟨rfl,?_⟩⟩;generalize upd (upd H2 DA (.own p)) p (.ins Ab DA [])=H3 at s3 jL hq sx;have f3:∀a,H3 a=none->H a=none:=fun a e=>jL.free e;have st:∀a o,H2 a=some o->H4 a=some o:=fun a o e=>sx _ _ (Bb e lN) (s3 _ _ e);have xc:=((TA.of R hcl).same s2)
     have dF:TA H2 B bs n n PB:=⟨xb.1,hB2,fun i c e=>s2 _ _ (R.same _ _ (xb.2.2 i c e))⟩
     have nQ:H B=none:=R.same.free hB;have NR:=s2 _ _ R.at
     have q2:H2 q=none:=s3.free hq;have nM:∀a,H2 a≠none->¬N a->¬(a=q\/N a):=fun a h1 h2 h3=>h3.elim (fun z=>h1 (z▸q2)) h2;refine key _ _ ⟨p,q,rfl,⟨⟨D,B,⟨⟨DA,fs',O5,?_,?_,?_,fun m hm=>?_,?_⟩,⟨cs,xc.same st,fun a ha=>?_⟩,⟨bs,dF.same st,fun a ha=>?_⟩,?_,?_,?_,fun a ha z=>?_⟩,R.free,nQ⟩,pK,fun a o e=>st _ _ (s2 _ _ (R.same _ _ e)),f2 _ lN,f3 _ hq,.inl rfl,⟨O9m,O9m,qa5 _⟩⟩⟩
     . rw[hfs];((repeat (first | rw[Al,if_pos rfl] | rw[Al,if_neg (by decide +kernel)]))<;>first | rfl | assumption)
     . rw[hfs];((repeat (first | rw[Al,if_pos rfl] | rw[Al,if_neg (by decide +kernel)]))<;>first | rfl | assumption)
     . rw[hfs];((repeat (first | rw[Al,if_pos rfl] | rw[Al,if_neg (by decide +kernel)]))<;>first | rfl | assumption)
     . rw[hfs,Al,if_neg (fun z=>absurd (z▸hm) (by decide +kernel)),Al,if_neg (fun z=>absurd (z▸hm) (by decide +kernel)),Al,if_neg (fun z=>absurd (z▸hm) (by decide +kernel))];rfl
     . rw[hfs];exact qa1 (Bs _ _ _) (qa1 (qf8 (Bs _ _ _)) (qa1 (qf8 (qf8 (Bs _ _ _))) (by decide)))
     . obtain⟨i,hi,rfl⟩:=qh1 ha;obtain⟨z1,z2,z3⟩:=R.row i _ (qb0 hi);exact⟨z2,Bb z3 hB,nM _ (by rw[s2 _ _ z3];exact fun z=>nomatch z) (nN _ z1)⟩
     . have:=xb.there.2 a ha;refine⟨fun z=>this (z▸R.free),fun z=>this (z▸nQ),nM a (dF.there.2 a ha) (nb a ha).2.2⟩
     . exact Bb R.at hB
     . exact nM D (by rw[NR];exact fun z=>nomatch z) (nN _ R.free)
     . exact nM B (by rw[hB2];exact fun z=>nomatch z) (nN _ nQ)
     . rcases ha with rfl | ha
       . rw[pK]at z;cases z
       . cases e:H a with
         | none=>exact lx.nn a ha e
         | some o=>rw[st _ _ (s2 _ _ (R.same _ _ e))]at z;cases z
   refine fC fun p q H1 x0=>?_;refine qp8 (fun σ' H'=>∃(o4:Option V) (t:Nat->Nat) (s:Lat.Mat × Lat.Mat),σ'=[rS ta,some (.int (w:Int)),rS L,rS p,o4,none]/\SX Ab H H' p q (fun a=>a=q\/N a) n (w+n) t n s/\J n t s) (fun key=>?_) ?_
   . refine⟨_,rfl,ta,us,rfl,.inl (x0.same.seq Xb),_,rfl,O9m,O9m,?_⟩;refine Dm (lo:=0) (n:=((us.length:Nat):Int).toNat) (fun i σ' G=>∃(o4:Option V) (t:Nat->Nat) (s:Lat.Mat × Lat.Mat),σ'=[rS ta,some (.int (w:Int)),rS L,rS p,o4,none]/\SX Ab H G p q (fun a=>a=q\/N a) n (w+n) t i s/\J i t s) ⟨none,_,_,rfl,x0,j0 _⟩ ?_ ?_
     . rintro i σ G hi ⟨o4,t,s,rfl,y,hJ⟩;rw[qb6,L6]at hi;rw[qi7];obtain⟨I,hP,hD⟩:=TJ.step i t s hi hJ;obtain⟨r3,b3,ly,_⟩:=y.ex;obtain⟨KR,fT,hp3,_,_,_,m4,_⟩:=ly.ob;refine⟨_,rfl,p,KR,fT,rfl,hp3,m4 _ (by decide +kernel),_,rfl,H,p,q,_,n,w+n,t,i,s,I,rfl,y,hi,hP,jt i t s hJ,fun G1 spot st s' hs hI hb hex z=>?_⟩;obtain⟨d1,d2⟩:=hD spot st s' hs hI hb hex;obtain⟨r4,b4,lz,_⟩:=z.ex;obtain⟨sY,kN,O5,_,_,_,m5,_⟩:=lz.ob;refine⟨_,rfl,p,sY,kN,rfl,O5,m5 _ (by decide +kernel),H,p,q,_,n,w+n,_,i,_,rfl,z,d1,fun G2 z2=>?_⟩;exact⟨_,_,_,rfl,z2,d2⟩
     . rintro σ G ⟨o4,t,s,rfl,y,hJ⟩;rw[qb6,L6]at y hJ;exact key _ _ ⟨o4,t,s,rfl,y,hJ⟩
   refine aW fun o4 t s G y hJ=>?_;obtain⟨r,b,ly,f1,f2⟩:=y.ex;obtain⟨dx,fs,hp,l1,l2,l3,l4,l5⟩:=ly.ob;obtain⟨as,xa,na⟩:=ly.rw;obtain⟨bs,xb,nb⟩:=ly.bk;have s0:=y.same;refine qp8 (fun σ' H'=>∃(L' E:Addr),σ'=[rS ta,some (.int (w:Int)),rS L,rS p,o4,rS L']/\Ao G H'/\H L'=none/\H E=none/\LX H' Ad L' E b none n n (fun x a=>s.1 x (w+a),s.2) N) (fun key=>?_) ?_
   . refine⟨_,rfl,p,Ab,dx,fs,_,rfl,hp,T.cl_Stairs,T.na_Stairs_rows,l1,r,rfl,⟨_,.of xa.2.1⟩,fun E hE=>?_⟩;have lE:=xa.2.1;refine Da (K:=K) (a:=r) (xs:=as.map V.ref) (fun i zs τ G1=>∃cs,zs=cs.map V.ref/\cs.length=i/\Rows G G1 E cs n (fun x a=>s.1 x (w+a))/\∃o1,τ=[o1,some (.int (w:Int))]) ⟨[],rfl,rfl,Rows.nil hE,none,rfl⟩ (fun i zs τ G1 _ ⟨cs,_,_,R,_⟩=>R.same.seq (.of lE)) ?_ ?_
     . rintro i x zs τ G1 hx ⟨cs,rfl,hcl,R,o1,rfl⟩;have hi:i<n:=by have:=(qb2.mp hx).1;rw[qa3,xa.1]at this;exact this
       obtain⟨c,_,ec,_,hc⟩:=xa.row (K:=K) hi;rw[ec]at hx;cases hx;refine⟨_,rfl,_,rfl,_,rfl,c,_,rfl,R.same.seq hc,fun F hF=>?_⟩;have sF:Ao G1 (upd G1 F (.lst (Md (VI (w+n) (s.1 i)) (some (w:Int)) none))):=Ao.new hF;refine⟨sF _ _ R.at,small (by rw[qa3];omega),cs++[F],by rw[qe7];rfl,by rw[qf3,hcl];rfl,?_,_,rfl⟩;refine R.push hF sF ?_;rw[hcl,Ae,EX]
     rintro zs τ G1 ⟨cs,rfl,hcl,R,_⟩;rw[qa3,xa.1]at hcl;have hp1:=R.same _ _ hp;refine⟨_,rfl,p,Ab,dx,fs,_,rfl,hp1,T.cl_Stairs,T.na_Stairs_backs,l2,?_⟩;intro L' Vo nL iI JT;have s3:Ao G1 (upd (upd G1 Vo (.own L')) L' (.ins Ad Vo [])):=(Ao.new iI).turn nL;refine⟨L',Vo,Ad,_,_,rfl,.inl rfl,Ae,fun H4 fs' hfs NQ=>⟨rfl,?_⟩⟩;have sx:SameX L' (upd (upd G1 Vo (.own L')) L' (.ins Ad Vo [])) H4:=by rw[NQ];exact SameX.upd (SameX.upd (SameX.refl _ _))
     have nP:H4 L'=some (.ins Ad Vo fs'):=by rw[NQ];exact Ae
     clear NQ;generalize upd (upd G1 Vo (.own L')) L' (.ins Ad Vo [])=G3 at s3 sx;have st:∀a o,G1 a=some o->H4 a=some o:=fun a o e=>sx _ _ (Bb e nL) (s3 _ _ e);have oU:∀a,G a=none->¬N a:=fun a e=>nN a (s0.free e);refine key _ _ ⟨L',E,rfl,R.same.trans st,s0.free (R.same.free nL),s0.free R.free,⟨⟨Vo,fs',nP,?_,?_,?_,fun m hm=>?_,?_⟩,⟨cs,(TA.of R hcl).same st,fun a ha=>?_⟩,⟨bs,(xb.same R.same).same st,fun a ha=>?_⟩,?_,oU _ R.free,?_,fun a ha z=>?_⟩⟩
     . rw[hfs];((repeat (first | rw[Al,if_pos rfl] | rw[Al,if_neg (by decide +kernel)]))<;>first | rfl | assumption)
     . rw[hfs];((repeat (first | rw[Al,if_pos rfl] | rw[Al,if_neg (by decide +kernel)]))<;>first | rfl | assumption)
     . rw[hfs];((repeat (first | rw[Al,if_pos rfl] | rw[Al,if_neg (by decide +kernel)]))<;>first | rfl | assumption)
     . rw[hfs,Al,if_neg (fun z=>absurd (z▸hm) (by decide +kernel)),Al,if_neg (fun z=>absurd (z▸hm) (by decide +kernel))];rfl
     . rw[hfs];exact qa1 (Bs _ _ _) (qa1 (qf8 (Bs _ _ _)) (by decide))
     . obtain⟨i,hi,rfl⟩:=qh1 ha;obtain⟨z1,z2,z3⟩:=R.row i _ (qb0 hi);exact⟨z2,fun z=>xb.there.1 (z▸z1),oU _ z1⟩
     . exact⟨fun z=>xb.there.2 a ha (z▸R.free),(nb a ha).2.1,fun z=>(nb a ha).2.2 (.inr z)⟩
     . exact fun z=>xb.there.1 (z▸R.free)
     . exact fun z=>ly.nb (.inr z)
     . cases e:H a with
       | none=>exact lx.nn a ha e
       | some o=>rw[st _ _ (R.same _ _ (s0 _ _ e))]at z;cases z
   refine AW fun L' E G4 s4 fL fE MT=>?_;have O5:=s4 _ _ hp;have lE:=s4 _ _ xa.2.1;refine⟨_,rfl,p,Ab,dx,fs,_,rfl,O5,T.cl_Stairs,T.na_Stairs_rows,l1,r,rfl,⟨_,.of lE⟩,fun D hD=>?_⟩;refine Da (K:=K) (a:=r) (xs:=as.map V.ref) (fun i zs τ G1=>∃cs,zs=cs.map V.ref/\cs.length=i/\Rows G4 G1 D cs w (fun x a=>s.1 x a)/\∃o1,τ=[o1,some (.int (w:Int))]) ⟨[],rfl,rfl,Rows.nil hD,none,rfl⟩ (fun i zs τ G1 _ ⟨cs,_,_,R,_⟩=>R.same.seq (.of lE)) ?_ ?_
   . rintro i x zs τ G1 hx ⟨cs,rfl,hcl,R,o1,rfl⟩;have hi:i<n:=by have:=(qb2.mp hx).1;rw[qa3,xa.1]at this;exact this
     obtain⟨c,_,ec,_,hc⟩:=xa.row (K:=K) hi;rw[ec]at hx;cases hx;refine⟨_,rfl,_,rfl,_,rfl,c,_,rfl,R.same.seq (s4.seq hc),fun F hF=>?_⟩;have sF:Ao G1 (upd G1 F (.lst (Md (VI (w+n) (s.1 i)) none (some (w:Int))))):=Ao.new hF;refine⟨sF _ _ R.at,small (by rw[qa3];omega),cs++[F],by rw[qe7];rfl,by rw[qf3,hcl];rfl,?_,_,rfl⟩;refine R.push hF sF ?_;rw[hcl,Ae,KU]
   rintro zs τ G1 ⟨cs,rfl,hcl,R,_⟩;rw[qa3,xa.1]at hcl;refine⟨_,rfl,Cp (by simp),fun tp htp=>?_⟩;have s5:Ao G1 (upd G1 tp (.tup [.ref D,.ref L'])):=Ao.new htp;have FF:=R.same.trans s5;exact k tp D L' E b cs t s _ ((s0.trans s4).trans FF) hJ (.of Ae) ((TA.of R hcl).same s5) (MT.keep FF) ((s0.trans s4).free R.free) fL fE f2
noncomputable abbrev J6:Stmt:=Ea (top 27) 2
theorem Gc:FnScope ["self","height","by_rows","by_columns"] ["self"] (Ar J6):=Bn
theorem U1{f:Addr}{fd:FuncData}(F:Fb K "step" "Work.step" J6 f fd)(T:Ga K mg Ad Ab Ag)(M4:Has P w K mg base "stepped" ["table","width","lines"] 7 (Ow K Ad Ab Ag))(Dw:Has P w K mg base "flipped" ["table","width"] 2 (Gp K)):By P w K mg base Ex 8 f fd ["self"] (Wi K Ad Ab Ag):=by
 refine F.ok Gc (fun vs H Q E h=>?_) (fun Dp A outer s H vs Q E hr h=>?_)
 . obtain⟨_,_,_,_,_,_,_,_,_,_,_,_,rfl,_⟩:=h;rfl
 . obtain⟨H0,p,L,R,nm,n,w,M,l,r,ns,Nx,rfl,x,ok,k⟩:=h;obtain⟨cX,cW⟩:=x.sm;obtain⟨tv,dx,fs,hp,l1,l2,l3,l4,l5,l6,l7,hrep⟩:=x.ob;obtain⟨r1,b1,r2,b2,lx,ly,f1,f2,f3,f4⟩:=x.li
   replace hrep:=hrep _ rfl
   obtain⟨ta,us,rfl,hq,L6,_⟩:=E7 hrep;obtain⟨J1,T1,rH,rG,RG⟩:=ok.ex;have kG:=Rep.same Fl hrep
   replace hq:=Fl.seq hq
   refine⟨_,(Af (Au (i:=1) Gc.nd (Bf (Az (K:=K)) T.n_len qf7 (Aa (At (K:=K) (pv 0)) Ai)))
    (Af (Au (i:=2) Gc.nd (Aq M4 hr (Aa (At (K:=K) (pv 0)) (Aa (At (K:=K) (pv 0)) (Aa (At (K:=K) (pv 0)) Ai)))))
    (Af (Au (i:=3) Gc.nd (Aq M4 hr (Aa (Aq Dw hr (Aa (Aw (Be (K:=K)) (pv 2) An (fun _ _=>rfl)) (Aa (At (K:=K) (pv 0)) Ai))) (Aa (pv 1) (Aa (At (K:=K) (pv 0)) Ai)))))
    (Af (D9 (K:=K) (pv 0) (Aq Dw hr (Aa (Aw (Be (K:=K)) (pv 3) An (fun _ _=>rfl)) (Aa (pv 1) Ai))))
    (Af (D9 (K:=K) (pv 0) (Aw (Be (K:=K)) (pv 2) An (fun _ _=>rfl)))
    (Ak (D9 (K:=K) (pv 0) (Aw (Be (K:=K)) (pv 3) An (fun _ _=>rfl))))))))),?_⟩
   refine qp8 (fun σ' H'=>σ'=[rS p,some (.int (n:Int)),none,none]/\H=H') (fun key=>?_) ?_
   . refine⟨_,rfl,p,Ag,dx,fs,_,rfl,hp,T.cl_Work,T.na_Work_table,l1,ta,us,rfl,.inl hq,key _ _ ⟨by rw[L6];rfl,rfl⟩⟩
   refine Hw ?_;refine qp8 (fun σ' H'=>∃(tp D L' r1' fX:Addr) (as:List Addr) (t:Nat->Nat) (s:Lat.Mat × Lat.Mat),σ'=[rS p,some (.int (n:Int)),rS tp,none]/\Ao H H'/\J1 n t s/\Du K H' tp [.ref D,.ref L']/\TA H' D as n w s.1/\LX H' Ad L' r1' fX none n n (fun x a=>s.1 x (w+a),s.2) (fun a=>a=nm\/a=r2\/a=b2)/\H L'=none/\H r1'=none/\H fX=none) (fun key=>?_) ?_
   . refine⟨_,rfl,p,Ag,dx,fs,_,rfl,hp,T.cl_Work,T.na_Work_table,l1,_,rfl,p,Ag,dx,fs,_,rfl,hp,T.cl_Work,T.na_Work_width,l2,_,rfl,p,Ag,dx,fs,_,rfl,hp,T.cl_Work,T.na_Work_left,l3,.ref ta,L,r1,b1,none,_,n,w,M,l.1,l.2,J1,rfl,kG,lx,cX,cW,T1,rH,rG,fun tp D L' r' b' as t s H1 s1 hJ hT xD LO _ fL fr fb=>?_⟩;exact key _ _ ⟨tp,D,L',r',b',as,t,s,rfl,s1,hJ,hT,xD,LO,fL,fr,fb⟩
   refine fB fun tp D L' r1' fX as t s H1 s1 hJ hT xD LO fL fr fb=>?_;obtain⟨J2,T2,rF,rE,RE⟩:=RG t s hJ;have hp1:=s1 _ _ hp;refine qp8 (fun σ' H'=>∃(GD D2 R' r2' DB:Addr) (aO:List Addr) (t2:Nat->Nat) (s2:Lat.Mat × Lat.Mat),σ'=[rS p,some (.int (n:Int)),rS tp,rS GD]/\Ao H1 H'/\J2 w t2 s2/\Du K H' GD [.ref D2,.ref R']/\TA H' D2 aO w n s2.1/\LX H' Ad R' r2' DB none w w (fun x a=>s2.1 x (n+a),s2.2) (fun a=>a=nm)/\H1 R'=none/\H1 r2'=none/\H1 DB=none) (fun key=>?_) ?_
   . refine⟨_,rfl,tp,_,_,_,rfl,rfl,hT,rfl,_,rfl,p,Ag,dx,fs,_,rfl,hp1,T.cl_Work,T.na_Work_width,l2,.ref D,n,w,s.1,rfl,xD.rep,O9m,O9m,fun F UD H2 hl2 R2=>?_⟩;have hp2:=R2.same _ _ hp1;refine⟨_,rfl,_,rfl,p,Ag,dx,fs,_,rfl,hp2,T.cl_Work,T.na_Work_right,l4,.ref F,R,r2,b2,none,_,w,n,(fun i j=>s.1 j i),r.1,r.2,J2,rfl,R2.rep hl2,ly.keep (s1.trans R2.same),cW,cX,T2,rF,rE,fun GD D2 R' r' b' aO t2 s2 H3 s3 NP hT2 mF GW _ fR eN lZ=>?_⟩;exact key _ _ ⟨GD,D2,R',r',b',aO,t2,s2,rfl,R2.same.trans s3,NP,hT2,mF,GW,R2.same.free fR,R2.same.free eN,R2.same.free lZ⟩
   refine fB fun GD D2 R' r2' DB aO t2 s2 H3 s3 NP hT2 mF GW fR eN lZ=>?_;have hp3:=s3 _ _ hp1;have KJ:=s3.seqT hT;refine⟨_,rfl,GD,_,_,_,rfl,rfl,hT2,rfl,_,rfl,.ref D2,w,n,s2.1,rfl,mF.rep,O9m,O9m,fun E uG H4 RQ R4=>?_⟩;have dM:=R4.same;have O5:=dM _ _ hp3;have JK:Ao H0 H4:=((x.same.trans s1).trans s3).trans dM;have n4:=(s1.trans (s3.trans dM)) _ _ x.nu;have mL:Rep K (Jr H4 fun a=>a=nm) (.ref E) (dT n w fun i j=>s2.1 j i):=R4.hid RQ fun a ha z=>by cases ha;rw[(s1.trans s3) _ _ x.nu]at z;cases z
   have lV:=dM.seqT KJ;have nO:=dM.seqT hT2
   have ex:∀a,a=nm\/a=r2'\/a=DB->H4 a≠none:=fun a ha=>by
    rcases ha with rfl | rfl | rfl
    . rw[n4];exact fun z=>nomatch z
    . obtain⟨_,z,_⟩:=GW.rw;exact(z.same dM).there.1
    . obtain⟨_,z,_⟩:=GW.bk;exact(z.same dM).there.1
   have z1:LX H4 Ad L' r1' fX none n n (fun x a=>s.1 x (w+a),s.2) (fun a=>a=nm\/a=r2'\/a=DB):=LO.more (s3.trans dM) (fun a ha=>by
    rcases ha with rfl | rfl | rfl
    . exact .inl (.inl rfl)
    . exact .inr eN
    . exact .inr lZ) ex
   have z2:=GW.keep dM;have dZ:p≠L':=Bb hp fL;have fJ:p≠R':=Bb hp1 fR;have LR:L'≠R':=fun z=>by obtain⟨_,_,q,_⟩:=LO.ob;rw[z,fR]at q;cases q
   refine⟨_,rfl,p,Ag,dx,fs,rfl,O5,T.cl_Work,T.na_Work_table,O9m,?_⟩;have gH:SameX p H4 (upd H4 p (.ins Ag dx (putF "table" (.ref E) fs))):=SameX.upd (SameX.refl _ _);have y4:upd H4 p (.ins Ag dx (putF "table" (.ref E) fs)) p=some (.ins Ag dx (putF "table" (.ref E) fs)):=Ae;have IK:Kp H4 (upd H4 p (.ins Ag dx (putF "table" (.ref E) fs))):=Kp.upd;have e1:(putF "table" (V.ref E) fs).length=fs.length:=Ie l1;generalize upd H4 p (.ins Ag dx (putF "table" (.ref E) fs))=H5 at gH y4 IK;have iN:=Zv lV O5 gH;have NN:=Zv nO O5 gH;refine⟨_,rfl,tp,_,_,_,rfl,rfl,iN,rfl,_,rfl,p,Ag,dx,_,rfl,y4,T.cl_Work,T.na_Work_left,O9m,?_⟩;have e2:(putF "left" (V.ref L') (putF "table" (V.ref E) fs)).length=(putF "table" (V.ref E) fs).length:=Ie (x:=.ref L) (by rw[Al,if_neg (by decide +kernel)];exact l3);have GG:SameX p H5 (upd H5 p (.ins Ag dx (putF "left" (.ref L') (putF "table" (.ref E) fs)))):=SameX.upd (SameX.refl _ _);have PL:upd H5 p (.ins Ag dx (putF "left" (.ref L') (putF "table" (.ref E) fs))) p=some (.ins Ag dx (putF "left" (.ref L') (putF "table" (.ref E) fs))):=Ae;have PD:Kp H5 (upd H5 p (.ins Ag dx (putF "left" (.ref L') (putF "table" (.ref E) fs)))):=Kp.upd;generalize upd H5 p (.ins Ag dx (putF "left" (.ref L') (putF "table" (.ref E) fs)))=H6 at GG PL PD;refine⟨_,rfl,GD,_,_,_,rfl,rfl,Zv NN y4 GG,rfl,_,rfl,p,Ag,dx,_,rfl,PL,T.cl_Work,T.na_Work_right,O9m,?_⟩;have e3:(putF "right" (V.ref R') (putF "left" (V.ref L') (putF "table" (V.ref E) fs))).length=(putF "left" (V.ref L') (putF "table" (V.ref E) fs)).length:=Ie (x:=.ref R) (by rw[Al,if_neg (by decide +kernel),Al,if_neg (by decide +kernel)];exact l4);have sx:SameX p H4 (upd H6 p (.ins Ag dx (putF "right" (.ref R') (putF "left" (.ref L') (putF "table" (.ref E) fs))))):=SameX.upd (gH.trans GG);have kp:Kp H4 (upd H6 p (.ins Ag dx (putF "right" (.ref R') (putF "left" (.ref L') (putF "table" (.ref E) fs))))):=(IK.trans PD).trans Kp.upd;have g0:∀a,H a=none->H0 a=none:=fun a e=>x.same.free e;have g1:∀a,H1 a=none->H0 a=none:=fun a e=>(x.same.trans s1).free e;have LM:nm≠p:=Eu x.nu hp (by intro z;cases z)
   refine k L' R' _ _ _ _ (RE t2 s2 NP) ⟨⟨.ref E,dx,_,Ae,?_,?_,?_,?_,?_,fun m hm=>?_,O9m,fun M' e=>by
    cases e
    exact nY (p:=p) (dx:=dx) (C:=Ag) mL (by rw[Rk LM.symm];exact O5) (fun a o ne e=>by
     by_cases z:a=nm
     . rw[y6 z]at e;cases e
     . rw[Rk z]at e ⊢;exact sx _ _ ne e)⟩,⟨r1',fX,r2',DB,z1.x O5 dZ sx kp,z2.x O5 fJ sx kp,g0 _ fr,g0 _ fb,g1 _ eN,g1 _ lZ⟩,sx _ _ LM n4,sx.same JK x.fr.1,⟨x.fr.1,g0 _ fL,g1 _ fR,x.fr.2.2.2⟩,⟨dZ,fJ,LR⟩,⟨cX,cW⟩⟩
   . ((repeat (first | rw[Al,if_pos rfl] | rw[Al,if_neg (by decide +kernel)]))<;>first | rfl | assumption)
   . ((repeat (first | rw[Al,if_pos rfl] | rw[Al,if_neg (by decide +kernel)]))<;>first | rfl | assumption)
   . ((repeat (first | rw[Al,if_pos rfl] | rw[Al,if_neg (by decide +kernel)]))<;>first | rfl | assumption)
   . ((repeat (first | rw[Al,if_pos rfl] | rw[Al,if_neg (by decide +kernel)]))<;>first | rfl | assumption)
   . ((repeat (first | rw[Al,if_pos rfl] | rw[Al,if_neg (by decide +kernel)]))<;>first | rfl | assumption)
   . iterate 3 rw[Al,if_neg (fun z=>absurd (z▸hm) (by decide +kernel))]
     exact l6 m hm
noncomputable abbrev Ez:Stmt:=Ea (top 27) 1
theorem Gv:FnScope ["self","i"] ["self"] (Ar Ez):=Bn
theorem L5{f:Addr}{fd:FuncData}(F:Fb K "straighten" "Work.straighten" Ez f fd)(T:Ga K mg Ad Ab Ag)(Hf:G8 P w K mg base Ag "step" ["self"] 8 (Wi K Ad Ab Ag))(Jg:Has P w K mg base "is_straight" ["table"] 1 (Jn K)):By P w K mg base Ex 9 f fd ["self"] (Jz K Ad Ab Ag):=by
 refine F.ok Gv (fun vs H Q E h=>?_) (fun Dp A outer s H vs Q E hr h=>?_)
 . obtain⟨_,_,_,_,_,_,_,_,_,_,_,rfl,_⟩:=h;rfl
 . obtain⟨H0,p,L,R,nm,n,w,M,l,r,U,rfl,x,ok,nx,k⟩:=h;have sm:=x.sm;obtain⟨_,dx,fs,hp,_,_,_,_,_,l6,_⟩:=x.ob
   refine⟨_,(Af (Bw (Ig (pv 0) T.cl_Work Hf hr))
    (Af (Ms qc3 (Gw (Fk (Aq Jg hr (Aa (At (K:=K) (pv 0)) Ai)))) (Ak (Bw (Ig (pv 0) T.cl_Work Hf hr))))
    (Ak (Dg qc3 rfl (Dl (by rfl) T.n_range (Aa (Bf (aK (by rfl)) T.n_min T4 (Aa (Bf (Az (K:=K)) T.n_len qf7 (Aa (At (K:=K) (pv 0)) Ai)) (Aa (At (K:=K) (pv 0)) Ai))) Ai)) (Ax (i:=1) Gv.nd) (Ak (Ci (Bo Mv (Aw (Av (K:=K)) (Aw (Av (K:=K)) (At (K:=K) (pv 0)) (pv 1) (fun _ _=>rfl)) (pv 1) (fun _ _=>rfl)) An (Bq _)) (Ak (Bw (Hq (K:=K) qd9 qh9 qh8 Gm (At (K:=K) (pv 0)) (Aa (Aw (Av (K:=K)) (Aw (Av (K:=K)) (At (K:=K) (pv 0)) (pv 1) (fun _ _=>rfl)) (pv 1) (fun _ _=>rfl)) Ai)))) Br)))))),?_⟩
   refine qp8 (fun σ' H'=>σ'=[rS p,none]/\∃L R m M l r,U m M l r/\WX K Ad Ag H0 H' p L R nm n w (some M) l r []) (fun key=>?_) ?_
   . exact⟨_,rfl,p,dx,fs,rfl,hp,l6 _ (by decide +kernel),H0,p,L,R,nm,n,w,M,l,r,[],_,rfl,x,ok,fun L' R' M' l' r' H' ⟨m,hu⟩ y=>key _ _ ⟨rfl,L',R',m,M',l',r',hu,y⟩⟩
   refine Hv fun H1 V9=>?_;obtain⟨L,R,m,M,l,r,hU,x⟩:=V9;clear ok hp l6;refine qp8 (fun σ' H'=>σ'=[rS p,none]/\∃L R m M l r,U m M l r/\Lat.Straight n w M/\WX K Ad Ag H0 H' p L R nm n w (some M) l r []) (fun key=>?_) ?_
   . refine⟨fun m σ' G=>σ'=[rS p,none]/\∃L R M l r,U m M l r/\WX K Ad Ag H0 G p L R nm n w (some M) l r [],⟨m,rfl,L,R,M,l,r,hU,x⟩,?_⟩;rintro m σ G ⟨rfl,L,R,M,l,r,hU,x⟩;obtain⟨tv,dx,fs,hp,l1,l2,l3,l4,l5,l6,l7,hrep⟩:=x.ob
     replace hrep:=hrep _ rfl
     refine⟨_,rfl,p,Ag,dx,fs,_,rfl,hp,T.cl_Work,T.na_Work_table,l1,tv,n,w,M,rfl,Rep.same Fl hrep,O9m,O9m,fun hS G1 s1=>⟨_,rfl,?_⟩,fun hS G1 s1=>⟨_,rfl,?_⟩⟩
     . refine M1 (by simp) ?_;exact key _ _ ⟨rfl,L,R,m,M,l,r,hU,hS,x.keep s1⟩
     . refine Yu (by simp) ?_;refine⟨fun σ' G'=>σ'=[rS p,none]/\∃L R m' M l r,m'<m/\U m' M l r/\WX K Ad Ag H0 G' p L R nm n w (some M) l r [],?_,?_⟩
       . rintro σ' G' ⟨rfl,L,R,m',M,l,r,hm,hU,y⟩;exact⟨m',hm,rfl,L,R,M,l,r,hU,y⟩
       . exact⟨_,rfl,p,dx,fs,rfl,s1 _ _ hp,l6 _ (by decide +kernel),H0,p,L,R,nm,n,w,M,l,r,[],_,rfl,x.keep s1,nx m M l r hU hS,fun L' R' M' l' r' H' ⟨m',hm,hu⟩ y=>⟨rfl,L',R',m',M',l',r',hm,hu,y⟩⟩
   refine Hv fun H2 V9=>?_;obtain⟨L,R,m,M,l,r,hU,hS,x⟩:=V9;obtain⟨tv,dx,fs,hp,l1,l2,l3,l4,l5,l6,l7,hrep⟩:=x.ob
   replace hrep:=hrep _ rfl
   obtain⟨ta,us,rfl,hq,L6,Ge⟩:=E7 hrep
   replace hq:=Fl.seq hq
   have emin:(if (w:Int)<((us.length:Nat):Int) then(w:Int) else((us.length:Nat):Int)).toNat=min n w:=by split<;>omega
   refine⟨_,rfl,p,Ag,dx,fs,_,rfl,hp,T.cl_Work,T.na_Work_table,l1,ta,us,rfl,.inl hq,_,rfl,p,Ag,dx,fs,_,rfl,hp,T.cl_Work,T.na_Work_width,l2,_,_,rfl,_,rfl,by split<;>omega,by split<;>omega,?_⟩;refine Dm (lo:=0) (n:=(if (w:Int)<((us.length:Nat):Int) then(w:Int) else((us.length:Nat):Int)).toNat) (fun i σ' G=>∃o1,σ'=[rS p,o1]/\WX K Ad Ag H0 G p L R nm n w (some M) l r (aR i M)) ⟨none,rfl,x⟩ ?_ ?_
   . clear hp hrep hq Ge l1 l2 l3 l4 l5 l6 l7;rintro i σ G hi ⟨o1,rfl,y⟩;rw[emin]at hi;rw[qi7];obtain⟨tv,dx,fs,hp,l1,l2,l3,l4,l5,l6,l7,hrep⟩:=y.ob
     replace hrep:=hrep _ rfl
     obtain⟨ta,us,rfl,hq,L6,Ge⟩:=E7 (Rep.same Fl hrep);have e:=qb0 (l:=us) (i:=i) O9m;obtain⟨_,b,eb,hb⟩:=Ge i _ e;rw[eb]at e;refine⟨_,rfl,p,Ag,dx,fs,_,rfl,hp,T.cl_Work,T.na_Work_table,l1,_,rfl,ta,_,_,_,rfl,rfl,hq,Bi e,_,rfl,b,_,_,_,rfl,rfl,hb,Bi (Ch O9m),rfl,_,rfl,?_⟩;refine ite2 (fun h1=>?_) (fun h1=>?_)
     . have h0:¬M i i=0:=by simpa using h1
       refine⟨_,rfl,p,Ag,dx,fs,_,rfl,hp,T.cl_Work,T.na_Work_numbers,l5,.inl ⟨rfl,_,.of y.nu⟩,_,rfl,p,Ag,dx,fs,_,rfl,hp,T.cl_Work,T.na_Work_table,l1,_,rfl,ta,_,_,_,rfl,rfl,hq,Bi e,_,rfl,b,_,_,_,rfl,rfl,hb,Bi (Ch O9m),nm,_,_,rfl,rfl,y.nu,?_,?_⟩
       . have:=DY i M;exact small (by rw[qa3];omega)
       . have z:=y.num (ns':=aR (i+1) M);rw[Kh,if_neg h0,qe7]at z;exact⟨_,rfl,by rw[Kh,if_neg h0];exact z⟩
     . have h0:M i i=0:=by simpa using h1
       exact⟨_,rfl,by rw[Kh,if_pos h0];exact y⟩
   . rintro σ G ⟨o1,rfl,y⟩;rw[emin]at y;exact k L R m M l r _ hU hS y
noncomputable abbrev Lw:Stmt:=top 26
theorem Ha:FnScope ["table","width","work","left_back","right"] ["table","width"] (Ar Lw):=Bn
theorem Wz{f:Addr}{fd:FuncData}(F:Fb K "diagonal" "diagonal" Lw f fd)(T:Ga K mg Ad Ab Ag)(Vf:Zi P w K mg base Ag ["self","table","width"] 3 (Wj K Ad Ab Ag))(E3:G8 P w K mg base Ag "straighten" ["self"] 9 (Jz K Ad Ab Ag))(Ei:G8 P w K mg base Ag "put_in_order" ["self"] 5 (Th K Ad Ab Ag))(Dw:Has P w K mg base "flipped" ["table","width"] 2 (Gp K))(Og:Has P w K mg base "is_table" ["thing","width"] 3 (Ot K)):By P w K mg base Ex 10 f fd ["table","width"] (Iv K):=by
 refine F.ok Ha (fun vs H Q E h=>?_) (fun Dp A outer s H vs Q E hr h=>?_)
 . obtain⟨_,_,_,_,_,rfl,_⟩:=h;rfl
 . obtain⟨v,n,w,A,Fin,rfl,hv,hn,hw,hP,k⟩:=h;obtain⟨ta,us,rfl,hq,L6,_⟩:=E7 hv;obtain⟨U,Y,a1,a2,a3,a4,a5⟩:=hP.ex
   refine⟨_,(Af (Ci (Gw (Fk (Aq Og hr (Aa (pv 0) (Aa (pv 1) Ai))))) (Ak Ws) Br)
    (Af (Au (i:=2) Ha.nd (Kb Vf hr (by rfl) T.m_Work (Aa (pv 0) (Aa (pv 1) Ai))))
    (Af (Bw (Ig (pv 2) T.cl_Work E3 hr))
    (Af (Bw (Ig (pv 2) T.cl_Work Ei hr))
    (Af (Au (i:=3) Ha.nd (Aq Dw hr (Aa (At (K:=K) (At (K:=K) (pv 2))) (Aa (Bf (Az (K:=K)) T.n_len qf7 (Aa (pv 0) Ai)) Ai))))
    (Af (Au (i:=4) Ha.nd (Aq Dw hr (Aa (At (K:=K) (At (K:=K) (pv 2))) (Aa (pv 1) Ai))))
    (Ak (Bh (E2 (Aa (At (K:=K) (pv 2)) (Aa (At (K:=K) (At (K:=K) (pv 2))) (Aa (pv 3) (Aa (pv 4) (Aa (At (K:=K) (At (K:=K) (pv 2))) Ai)))))))))))))),?_⟩
   refine qp8 (t:=P6 _ _ _) (fun σ' H'=>σ'=[rS ta,some (.int (w:Int)),none,none,none]/\Ao H H') (fun key=>?_) ?_
   . refine⟨_,rfl,_,rfl,.ref ta,n,w,A,rfl,hv,hn,O9m,fun H1 s1=>⟨_,rfl,?_⟩⟩;refine M1 (by simp) ?_;exact key _ _ ⟨rfl,s1⟩
   refine Hv fun H1 s1=>?_;refine qp8 (fun σ' H'=>∃p L R nm,σ'=[rS ta,some (.int (w:Int)),rS p,none,none]/\WX K Ad Ag H1 H' p L R nm n w (some A) (Lat.one,Lat.one) (Lat.one,Lat.one) []) (fun key=>?_) ?_
   . refine⟨_,rfl,_,rfl,?_⟩;intro p dx np iI JT;have sN:Ao H1 (upd (upd H1 dx (.own p)) p (.ins Ag dx [])):=(Ao.new iI).turn np;exact⟨H1,p,dx,.ref ta,n,w,A,rfl,sN,np,Ae,Rep.same s1 hv,O9m,hw,fun L R nm H' y=>⟨rfl,key _ _ ⟨p,L,R,nm,rfl,y⟩⟩⟩
   refine iZ fun p L R nm H2 x=>?_;refine qp8 (fun σ' H'=>∃L R k f l r,σ'=[rS ta,some (.int (w:Int)),rS p,none,none]/\k<=n/\k<=w/\Y k 0 f l r/\WX K Ad Ag H1 H' p L R nm n w none l r (G7 k f)) (fun key=>?_) ?_
   . obtain⟨lF,Yz,Yx,hpa,lR,LQ,gY,IJ,fN,iJ,LP,_⟩:=x.ob;refine⟨_,rfl,p,Yz,Yx,rfl,hpa,iJ _ (by decide +kernel),H1,p,L,R,nm,n,w,A,_,_,U,rfl,x,a1,a2,fun L' R' m M l r H' hU hS y=>?_⟩;obtain⟨k,f,e,k1,k2,hY⟩:=a3 m M l r hU hS;rw[e]at y;exact key _ _ ⟨L',R',k,f,l,r,rfl,k1,k2,hY,y.drop⟩
   refine IW fun L R kk f l r H3 k1 k2 hY x=>?_;refine qp8 (fun σ' H'=>∃f l r,σ'=[rS ta,some (.int (w:Int)),rS p,none,none]/\Fin kk f l r/\Lat.ChainTo kk kk f/\WX K Ad Ag H1 H' p L R nm n w none l r (G7 kk f)) (fun key=>?_) ?_
   . obtain⟨lF,Yz,Yx,hpa,lR,LQ,gY,IJ,fN,iJ,LP,_⟩:=x.ob;refine⟨_,rfl,p,Yz,Yx,rfl,hpa,iJ _ (by decide +kernel),H1,p,L,R,nm,n,w,kk,l,r,f,Y kk,rfl,x,k1,k2,hY,a4 kk,fun d f' l' r' H' RY hC y=>?_⟩;exact key _ _ ⟨f',l',r',rfl,a5 _ _ _ _ _ RY,hC,y⟩
   refine jA fun f l r H4 hF hC x=>?_;obtain⟨lF,Yz,Yx,hpa,lR,LQ,gY,IJ,fN,iJ,LP,_⟩:=x.ob;obtain⟨r1,b1,r2,b2,lx,ly,f1,f2,f3,f4⟩:=x.li;obtain⟨dl,fl,hL,e1,e2,_⟩:=lx.ob;obtain⟨dr,fr,hR,e3,e4,_⟩:=ly.ob;obtain⟨EU,ME,_⟩:=lx.rw;obtain⟨nZ,qG,_⟩:=lx.bk;obtain⟨aO,QG,_⟩:=ly.rw;obtain⟨kT,dF,_⟩:=ly.bk;have lH:=x.same;refine⟨_,rfl,p,Ag,Yz,Yx,_,rfl,hpa,T.cl_Work,T.na_Work_left,gY,L,Ad,dl,fl,_,rfl,hL,T.cl_Lines,T.na_Lines_backs,e2,_,rfl,ta,us,rfl,.inl ((s1.trans lH).seq hq),.ref b1,n,n,l.2,(by rw[L6]<;>rfl),qG.rep,O9m,O9m,fun D1 c1 H5 hc1 R1=>?_⟩;have FF:=R1.same;refine⟨_,rfl,p,Ag,Yz,Yx,_,rfl,(FF _ _ hpa),T.cl_Work,T.na_Work_right,IJ,R,Ad,dr,fr,_,rfl,(FF _ _ hR),T.cl_Lines,T.na_Lines_rows,e3,_,rfl,.ref r2,w,w,r.1,rfl,(QG.same FF).rep,O9m,O9m,fun D2 c2 H6 hc2 R2=>?_⟩;have DL:=FF.trans R2.same;refine⟨_,rfl,p,Ag,Yz,Yx,_,rfl,(DL _ _ hpa),T.cl_Work,T.na_Work_numbers,fN,_,rfl,p,Ag,Yz,Yx,_,rfl,(DL _ _ hpa),T.cl_Work,T.na_Work_left,gY,L,Ad,dl,fl,_,rfl,(DL _ _ hL),T.cl_Lines,T.na_Lines_rows,e1,_,rfl,_,rfl,_,rfl,p,Ag,Yz,Yx,_,rfl,(DL _ _ hpa),T.cl_Work,T.na_Work_right,IJ,R,Ad,dr,fr,_,rfl,(DL _ _ hR),T.cl_Lines,T.na_Lines_backs,e4,Cp (by simp),fun tp htp=>?_⟩;have jK:Ao H6 (upd H6 tp (.tup [.ref nm,.ref r1,.ref D1,.ref D2,.ref b2])):=Ao.new htp;have cY:=DL.trans jK;have mJ:=(s1.trans lH).trans cY;have g1:∀a,H1 a=none->H a=none:=fun a e=>s1.free e;refine k tp nm r1 D1 D2 b2 kk f l r _ hF hC k1 k2 ⟨mJ,.of Ae,cY _ _ x.nu,(ME.same cY).rep,(R1.later (R2.same.trans jK)).rep hc1,(R2.later jK).rep hc2,(dF.same cY).rep,fun a ha=>?_⟩;rcases ha with rfl | rfl | rfl | rfl | rfl
   . exact⟨g1 _ x.fr.2.2.2,_,cY _ _ x.nu,by rw[Ba];omega⟩
   . exact⟨g1 _ f1,_,cY _ _ ME.2.1,by rw[qa3,ME.1];omega⟩
   . exact⟨g1 _ (lH.free R1.free),_,(R2.same.trans jK) _ _ R1.at,by rw[qa3,hc1];omega⟩
   . exact⟨g1 _ (lH.free (FF.free R2.free)),_,jK _ _ R2.at,by rw[qa3,hc2];omega⟩
   . exact⟨g1 _ f4,_,cY _ _ dF.2.1,by rw[qa3,dF.1];omega⟩
noncomputable abbrev Up:Stmt:=top 31
theorem Wm:FnScope ["table","width","papers"] ["table","width"] (Ar Up):=Bn
theorem bN{f:Addr}{fd:FuncData}(F:Fb K "spare" "spare" Up f fd)(T:Ga K mg Ad Ab Ag)(Gn:Has P w K mg base "diagonal" ["table","width"] 10 (Iv K))(Dw:Has P w K mg base "flipped" ["table","width"] 2 (Gp K)):By P w K mg base Ex 11 f fd ["table","width"] (Te K):=by
 refine F.ok Wm (fun vs H Q E h=>?_) (fun Dp A outer s H vs Q E hr h=>?_)
 . obtain⟨_,_,_,_,_,rfl,_⟩:=h;rfl
 . obtain⟨v,n,w,A,Fin,rfl,hv,hn,hw,hP,k⟩:=h
   refine⟨_,(Af (Au (i:=2) Wm.nd (Aq Gn hr (Aa (pv 0) (Aa (pv 1) Ai))))
    (Ak (Bh (Mu (Mz (K:=K)) (Aq Dw hr (Aa (Aw (Be (K:=K)) (pv 2) An (fun _ _=>rfl)) (Aa (pv 1) Ai))) (Mt (Bf (Az (K:=K)) T.n_len qf7 (Aa (Aw (Be (K:=K)) (pv 2) An (fun _ _=>rfl)) Ai))) Ut)))),?_⟩
   refine qp8 (fun σ' H'=>∃(tp nm r1 D1 D2 b2:Addr) (k0:Nat) (f:Nat->Int) (l r:Lat.Mat × Lat.Mat),σ'=[some v,some (.int (w:Int)),rS tp]/\Fin k0 f l r/\k0<=w/\Pe K H' tp nm r1 D1 D2 b2 n w k0 f l r/\Ao H H') (fun key=>?_) ?_
   . exact⟨_,rfl,_,rfl,v,n,w,A,Fin,rfl,hv,hn,hw,hP,fun tp nm r1 D1 D2 b2 k0 f l r H' hF hC k1 k2 x=>key _ _ ⟨tp,nm,r1,D1,D2,b2,k0,f,l,r,rfl,hF,k2,x.r,x.same⟩⟩
   refine GB fun tp nm r1 D1 D2 b2 k0 f l r H1 hF kw x s1=>?_;refine⟨_,rfl,tp,_,_,_,rfl,rfl,x.tup,rfl,_,rfl,.ref D2,w,w,_,rfl,x.right,O9m,O9m,fun D as H2 hal R2=>?_⟩;have x2:=x.same R2.same;refine⟨_,rfl,tp,_,_,_,rfl,rfl,x2.tup,rfl,nm,_,rfl,.inl x2.num,_,rfl,D,_,rfl,.of R2.at,fun C hC=>?_⟩;have ec:Md (as.map V.ref) (some (((VI k0 f).length:Nat):Int)) none=(as.drop k0).map V.ref:=by rw[Ba,cK,List.map_drop]
   rw[ec];exact k k0 f l r C (as.drop k0) _ hF kw (by rw[qi3];omega) (Rows.earlier s1 (R2.drop hC rfl))
noncomputable abbrev I0:Stmt:=top 32
theorem Lk:FnScope ["table","width","wanted","papers"] ["table","width","wanted"] (Ar I0):=Bn
theorem Se{f:Addr}{fd:FuncData}(F:Fb K "papers_for" "papers_for" I0 f fd)(T:Ga K mg Ad Ab Ag)(Gn:Has P w K mg base "diagonal" ["table","width"] 10 (Iv K))(Cj:Has P w K mg base "is_list_of_wholes" ["thing","many"] 2 (Dv K)):By P w K mg base Ex 11 f fd ["table","width","wanted"] (Jy K):=by
 refine F.ok Lk (fun vs H Q E h=>?_) (fun Dp A outer s H vs Q E hr h=>?_)
 . obtain⟨_,_,_,_,_,_,rfl,_⟩:=h;rfl
 . obtain⟨v,wn,n,w,A,u,rfl,hv,hu,hn,hw,hP,k⟩:=h;obtain⟨ta,us,rfl,hq,L6,_⟩:=E7 hv
   refine⟨_,(Af (Au (i:=3) Lk.nd (Aq Gn hr (Aa (pv 0) (Aa (pv 1) Ai))))
    (Af (Ci (Gw (Fk (Aq Cj hr (Aa (pv 2) (Aa (Bf (Az (K:=K)) T.n_len qf7 (Aa (pv 0) Ai)) Ai))))) (Ak Ws) Br)
    (Ak (Bh (pv 3))))),?_⟩
   refine qp8 (fun σ' H'=>∃(tp nm r1 D1 D2 b2:Addr) (k0:Nat) (f:Nat->Int) (l r:Lat.Mat × Lat.Mat),σ'=[rS ta,some (.int (w:Int)),rS wn,rS tp]/\Xy n w A k0 f l r/\k0<=n/\k0<=w/\Pe K H' tp nm r1 D1 D2 b2 n w k0 f l r/\Ao H H') (fun key=>?_) ?_
   . exact⟨_,rfl,_,rfl,.ref ta,n,w,A,Xy n w A,rfl,hv,hn,hw,hP,fun tp nm r1 D1 D2 b2 k0 f l r H' hF hC k1 k2 x=>key _ _ ⟨tp,nm,r1,D1,D2,b2,k0,f,l,r,rfl,hF,k1,k2,x.r,x.same⟩⟩
   refine aZ fun tp nm r1 D1 D2 b2 k0 f l r H1 hF k1 k2 x s1=>?_;refine qp8 (t:=P6 _ _ _) (fun σ' H'=>σ'=[rS ta,some (.int (w:Int)),rS wn,rS tp]/\Ao H1 H') (fun key=>?_) ?_
   . refine⟨_,rfl,_,rfl,ta,us,rfl,.inl (s1.seq hq),wn,n,u,(by rw[L6]<;>rfl),s1.seq hu,O9m,fun H2 s2=>⟨_,rfl,?_⟩⟩;refine M1 (by simp) ?_;exact key _ _ ⟨rfl,s2⟩
   refine Hv fun H2 s2=>?_;exact⟨_,rfl,k tp nm r1 D1 D2 b2 k0 f l r _ hF k1 k2 (x.same s2) (s1.trans s2)⟩
noncomputable abbrev Qo:Stmt:=top 30
theorem Ib:FnScope ["table","width","wanted","papers","numbers","seen","parts"] ["table","width","wanted"] (Ar Qo):=Bn
theorem t3{f:Addr}{fd:FuncData}(F:Fb K "solved" "solved" Qo f fd)(T:Ga K mg Ad Ab Ag)(Kl:Has P w K mg base "papers_for" ["table","width","wanted"] 11 (Jy K))(Hh:Has P w K mg base "times_list" ["table","numbers"] 1 (Lh K))(L8:Has P w K mg base "first_bar" ["numbers","seen"] 2 (Lj K)):By P w K mg base Ex 12 f fd ["table","width","wanted"] (Qd K):=by
 refine F.ok Ib (fun vs H Q E h=>?_) (fun Dp A outer s H vs Q E hr h=>?_)
 . obtain⟨_,_,_,_,_,_,rfl,_⟩:=h;rfl
 . obtain⟨v,wn,n,w,A,u,rfl,hv,hu,hn,hw,hP,bu,k1,k2⟩:=h
   refine⟨_,(Af (Au (i:=3) Ib.nd (Aq Kl hr (Aa (pv 0) (Aa (pv 1) (Aa (pv 2) Ai)))))
    (Af (Au (i:=4) Ib.nd (Aw (Be (K:=K)) (pv 3) An (fun _ _=>rfl)))
    (Af (Au (i:=5) Ib.nd (Aq Hh hr (Aa (Aw (Be (K:=K)) (pv 3) An (fun _ _=>rfl)) (Aa (pv 2) Ai))))
    (Af (Ci (Bo Z4 (Aq L8 hr (Aa (pv 4) (Aa (pv 5) Ai))) Q0 (Bq _)) (Ak (Bh Q0)) Br)
    (Af (dP (N':=["value","number"]) (cap:=[none,none]) (i:=6) Ib.nd (by rfl) (by first | exact Or.inl rfl | exact Or.inr rfl) (by rfl) (by kernel_rfl) (Qz (K:=K) (by rfl) T.n_zip (Aa (pv 5) (Aa (pv 4) Ai))) (fun _ _ _ _=>(Fs (K:=K) (n:=2) (by rfl) (Cc (Ax (i:=0) bR) (Cc (Ax (i:=1) bR) Fq)))) (fun _ _ _ _=>Cn) (fun _ _ _ _=>(Bg Fx (pv 0) (pv 1))))
    (Ak (Bh (Aq Hh hr (Aa (Aw (Be (K:=K)) (pv 3) An (fun _ _=>rfl)) (Aa (Bg (Tr (K:=K)) (pv 6) (Bg Uy (Jb (Aa An Ai)) (Bg Ho (pv 1) (Bf (Az (K:=K)) T.n_len qf7 (Aa (pv 4) Ai))))) Ai)))))))))),?_⟩
   refine qp8 (fun σ' H'=>∃(tp nm r1 D1 D2 b2:Addr) (k0:Nat) (f:Nat->Int) (l r:Lat.Mat × Lat.Mat),σ'=[some v,some (.int (w:Int)),rS wn,rS tp,none,none,none]/\Xy n w A k0 f l r/\k0<=n/\k0<=w/\Pe K H' tp nm r1 D1 D2 b2 n w k0 f l r/\Ao H H') (fun key=>?_) ?_
   . exact⟨_,rfl,_,rfl,_,rfl,v,wn,n,w,A,u,rfl,hv,hu,hn,hw,hP,fun tp nm r1 D1 D2 b2 k0 f l r H' hF h1 h2 x s=>key _ _ ⟨tp,nm,r1,D1,D2,b2,k0,f,l,r,rfl,hF,h1,h2,x,s⟩⟩
   refine aZ fun tp nm r1 D1 D2 b2 k0 f l r H1 hF kn kw x s1=>?_;obtain⟨E,hE,dg,i1,i2,⟨q1,q2⟩,⟨q3,q4⟩⟩:=hF;have hu1:=s1.seq hu;refine⟨_,rfl,tp,_,_,_,rfl,rfl,x.tup,rfl,?_⟩;refine Fe (fun σ' H'=>σ'=[some v,some (.int (w:Int)),rS wn,rS tp,rS nm,none,none]/\H1=H') ?_ fun Oc=>Oc _ _ ⟨rfl,rfl⟩;refine Hw ?_;have bs:∀i,i<n->(Ah (fun a=>l.1 i a*u a) n).natAbs<2 ^ (Pr+200+n):=fun i hi=>Ze fun a ha=>Zf (q1 _ _ hi ha) (bu a ha);refine qp8 (fun σ' H'=>∃S,σ'=[some v,some (.int (w:Int)),rS wn,rS tp,rS nm,rS S,none]/\Ao H1 H'/\H' S=some (.lst (VI n fun i=>Ah (fun a=>l.1 i a*u a) n))) (fun key=>?_) ?_
   . exact⟨_,rfl,tp,_,_,_,rfl,rfl,x.tup,rfl,_,rfl,.ref r1,wn,n,n,l.1,u,rfl,x.left,hu1,O9m,O9m,fun i a hi ha=>Ih (q1 _ _ hi ha) (bu a ha) (by have:Pr=67000000:=rfl;omega),fun S H2 hS s2 h2=>key _ _ ⟨S,rfl,s2,h2⟩⟩
   refine aY fun S H2 s2 pQ=>?_;have x2:=x.same s2;refine qp8 (t:=P6 _ _ _) (fun σ' H'=>σ'=[some v,some (.int (w:Int)),rS wn,rS tp,rS nm,rS S,none]/\Ao H2 H'/\∀i,i<n->¬Lat.Bar f k0 (fun i=>Ah (fun a=>l.1 i a*u a) n) i) (fun key=>?_) ?_
   . refine⟨_,rfl,_,rfl,nm,S,k0,n,f,_,rfl,x2.num,.of pQ,O9m,dg.pos,fun hno H3 s3=>⟨rfl,_,rfl,?_⟩,fun i hi hb H3 s3=>⟨rfl,_,rfl,?_⟩⟩
     . refine M1 (by simp) ?_;exact key _ _ ⟨rfl,s3,hno⟩
     . refine Yu (by simp) ?_;exact k1 (fun⟨y,hy⟩=>dg.noBar i2 hy hi hb) _ ((s1.trans s2).trans s3)
   refine S6 fun H3 s3 hno=>?_;have x3:=x2.same s3;have pP:=s3 _ _ pQ;refine qp8 (fun σ' H'=>∃Pt,σ'=[some v,some (.int (w:Int)),rS wn,rS tp,rS nm,rS S,rS Pt]/\Ao H3 H'/\H' Pt=some (.lst (VI k0 fun y=>Ah (fun a=>l.1 y a*u a) n / f y))) (fun key=>?_) ?_
   . refine⟨_,rfl,_,rfl,S,nm,rfl,⟨_,.of pP⟩,⟨_,x3.num⟩,fun D hD=>?_⟩
     refine Im (K:=K) (a:=S) (b:=nm) (xs:=VI n fun i=>Ah (fun a=>l.1 i a*u a) n) (ys:=VI k0 f) (n:=k0) (by rw[Ba,Ba];omega) (fun i zs τ G=>Ao H3 G/\G D=some (.lst zs)/\zs=VI i (fun y=>Ah (fun a=>l.1 y a*u a) n / f y)/\i<=k0/\∃o1 o2,τ=[o1,o2])
      ⟨Ao.new hD,Ae,rfl,qa5 _,none,none,rfl⟩ (fun i zs τ G _ ⟨g,_⟩=>⟨.of (g _ _ pP),g.seq x3.num⟩) ?_ ?_
     . rintro i y z zs τ G pr hy hz ⟨g,FQ,rfl,_,o1,o2,rfl⟩ hpr;obtain⟨hi,rfl⟩:=E9 hy;obtain⟨hik,rfl⟩:=E9 hz;have gp:Ao G (upd G pr (.tup [.int (Ah (fun a=>l.1 i a*u a) n),.int (f i)])):=Ao.new hpr;have p0:=dg.pos i hik;have p9:(f i).natAbs<L9:=tE dg hE hik;refine⟨pr,_,rfl,.of Ae,rfl,_,_,rfl,_,_,rfl,rfl,?_⟩;have ef:(Ah (fun a=>l.1 i a*u a) n).fdiv (f i)=Ah (fun a=>l.1 i a*u a) n / f i:=qd7 _ (qp7 p0);refine⟨_,rfl,_,rfl,_,_,rfl,rfl,Nh.of9 O9m p9,?_⟩;refine⟨gp _ _ FQ,small (by rw[Ba];omega),(g.trans gp).turn hD,Ae,?_,hik,_,_,rfl⟩;rw[Er,←ef]
     . rintro zs τ G ⟨g,FQ,rfl,_⟩;exact key _ _ ⟨D,rfl,g,FQ⟩
   refine aY fun Pt H4 s4 RZ=>?_;have x4:=x3.same s4;refine⟨_,rfl,tp,_,_,_,rfl,rfl,x4.tup,rfl,_,rfl,Cp (by simp),fun Bz hB=>?_⟩;have sB:Ao H4 (upd H4 Bz (.lst [V.int 0])):=Ao.new hB;have eB:upd H4 Bz (.lst [V.int 0]) Bz=some (.lst [V.int 0]):=Ae;generalize upd H4 Bz (.lst [V.int 0])=H5 at sB eB;refine⟨_,rfl,_,rfl,nm,_,rfl,.inl (sB.seq x4.num),_,_,rfl,rfl,Bz,_,_,rfl,rfl,eB,by rw[Ba];omega,by rw[Ba];omega,?_,fun C hC=>?_⟩
   . rw[Ba];exact Cp (by simp;omega)
   rw[Ba]
   have eC:(List.replicate (((w:Int))-((k0:Nat):Int)).toNat [V.int 0]).flatten=VI (w-k0) fun _=>0:=by
    rw[show(((w:Int))-((k0:Nat):Int)).toNat=w-k0 by omega];exact V5 _
   rw[eC];have sC:Ao H5 (upd H5 C (.lst (VI (w-k0) fun _=>0))):=Ao.new hC;have pW:upd H5 C (.lst (VI (w-k0) fun _=>0)) C=some (.lst (VI (w-k0) fun _=>0)):=Ae;generalize upd H5 C (.lst (VI (w-k0) fun _=>0))=H6 at sC pW;have DL:=sB.trans sC;refine⟨Pt,C,_,_,rfl,rfl,.of (DL _ _ RZ),.of pW,Cp (by rw[Ba,Ba];omega),fun Z hZ=>?_⟩
   have eZ:VI k0 (fun y=>Ah (fun a=>l.1 y a*u a) n / f y)++VI (w-k0) (fun _=>0)=VI w fun y=>if y<k0 then Ah (fun a=>l.1 y a*u a) n / f y else 0:=by
    rw[V6 (h:=fun y=>if y<k0 then Ah (fun a=>l.1 y a*u a) n / f y else 0) (fun c hc=>if_pos hc) (fun a ha=>if_neg (by omega)),show k0+(w-k0)=w by omega]
   rw[eZ];have sZ:Ao H6 (upd H6 Z (.lst (VI w fun y=>if y<k0 then Ah (fun a=>l.1 y a*u a) n / f y else 0))):=Ao.new hZ;have PN:upd H6 Z (.lst (VI w fun y=>if y<k0 then Ah (fun a=>l.1 y a*u a) n / f y else 0)) Z=_:=Ae;generalize upd H6 Z (.lst (VI w fun y=>if y<k0 then Ah (fun a=>l.1 y a*u a) n / f y else 0))=H7 at sZ PN;have cY:=DL.trans sZ
   have bp:∀y,y<w->(if y<k0 then Ah (fun a=>l.1 y a*u a) n / f y else 0).natAbs<2 ^ (Pr+200+n):=fun y hy=>by
    split
    . exact qa7 (qe1 _ _) (bs y O9m)
    . exact Nat.two_pow_pos _
   refine⟨.ref D2,Z,w,w,(fun i j=>r.1 j i),_,rfl,Rep.same cY x4.right,.of PN,O9m,O9m,fun i y hi hy=>Ih (q3 _ _ hy hi) (bp y hy) (by have:Pr=67000000:=rfl;omega),fun L H8 hL s8 h8=>?_⟩;refine k2 _ L H8 (dg.made i1 hno) (fun j hj=>?_) ((((s1.trans s2).trans s3).trans s4).trans (cY.trans s8)) h8;exact Fv (Ze fun y hy=>Zf (q3 _ _ hy hj) (bp y hy)) (by have:Pr=67000000:=rfl;have:CP=134000700:=rfl;omega)
noncomputable abbrev Mr:Stmt:=top 50
theorem Gs:FnScope ["_law_script","_law_height","_law_width","_law_many","_law_table","_law_numbers","_law_handed","_law_told","_law_columns","_law_parts","_law_one"] ["_law_script"] (Ar Mr):=Bn
theorem GR{f:Addr}{fd:FuncData}(F:Fb K "law" "law" Mr f fd)(T:Ga K mg Ad Ab Ag)(Ro:Has P w K mg base "_law_built" ["_law_script","_law_height","_law_width","_law_many"] 4 (Tf K))(K7:Has P w K mg base "_law_copy" ["_law_table"] 1 (Nl K))(Vi:Has P w K mg base "spare" ["table","width"] 11 (Te K))(Ji:Has P w K mg base "_law_flip" ["_law_table","_law_width"] 1 (Nk K))(Vj:Has P w K mg base "solved" ["table","width","wanted"] 12 (Qd K))(Dx:Has P w K mg base "_law_cell_at" ["_law_script","_law_k"] 1 (Iu K))(K6:Has P w K mg base "_law_spares" ["_law_told","_law_table","_law_width","_law_many"] 3 (Qg K))(Fm:Has P w K mg base "_law_is_list" ["_law_found","_law_size"] 2 (Is K))(Ij:Has P w K mg base "_law_taken" ["_law_table","_law_numbers"] 1 (Nm K)):By P w K mg base Ex 13 f fd ["_law_script"] (Px K):=by
 refine F.ok Gs (fun vs H Q E h=>?_) (fun Dp A outer s H vs Q E hr h=>?_)
 . obtain⟨_,_,rfl,_⟩:=h;rfl
 . obtain⟨a,ns,rfl,hS,hl,Vg,k⟩:=h;have lU:=hr.u8;obtain⟨h,eh⟩:=qf2 (qi0 (Kv ns 0) (by decide:(5:Int)≠0));obtain⟨w,ew⟩:=qf2 (qi0 (Kv ns 1) (by decide:(6:Int)≠0));have hh:h<=4:=O9m
   have hw:w<=5:=O9m
   refine⟨_,(Af (Au (i:=1) Gs.nd (Bg Di (Aq Dx hr (Aa (pv 0) (Aa An Ai))) An))
    (Af (Au (i:=2) Gs.nd (Bg Di (Aq Dx hr (Aa (pv 0) (Aa An Ai))) An))
    (Af (Au (i:=3) Gs.nd (Bf (AJ (by rfl)) T.n_min T4 (Aa (pv 1) (Aa (pv 2) (Aa (Bg Di (Aq Dx hr (Aa (pv 0) (Aa An Ai))) An) Ai)))))
    (Af (C8 (Aq Ro hr (Aa (pv 0) (Aa (pv 1) (Aa (pv 2) (Aa (pv 3) Ai))))) (Fs (K:=K) (n:=2) (by rfl) (Cc (Ax (i:=4) Gs.nd) (Cc (Ax (i:=5) Gs.nd) Fq))))
    (Af (Au (i:=6) Gs.nd (Aq K7 hr (Aa (pv 4) Ai)))
    (Af (Au (i:=7) Gs.nd (Aq Vi hr (Aa (pv 6) (Aa (pv 2) Ai))))
    (Af (Ci (Gw (Fk (Aq K6 hr (Aa (pv 7) (Aa (pv 4) (Aa (pv 2) (Aa (pv 3) Ai))))))) (Ak (Bh Kc)) Br)
    (Af (Au (i:=8) Gs.nd (Aq Ji hr (Aa (pv 7) (Aa (pv 2) Ai))))
    (Af (Au (i:=9) Gs.nd (Aq Vj hr (Aa (pv 8) (Aa (Bf (Az (K:=K)) T.n_len qf7 (Aa (pv 7) Ai)) (Aa (D7 (C9 (K:=K)) (by rfl) T.n_list Cv (Aa (pv 5) Ai)) Ai)))))
    (Af (Ci (PW.pt (Tj (Gw (Fk (Aq Fm hr (Aa (pv 9) (Aa (Bf (Az (K:=K)) T.n_len qf7 (Aa (pv 7) Ai)) Ai))))) (Ny (Bo (a8 (K:=K) lU) (Aq Ij hr (Aa (pv 8) (Aa (pv 9) Ai))) (pv 5) (Bq _))))) (Ak (Bh Kc)) Br)
    (Af (Dg qc3 rfl (Ct (K:=K) (pv 7)) (Ax (i:=10) Gs.nd) (Ak (Bw (Hq (K:=K) qd9 qh9 qh8 Gm (pv 10) (Aa An Ai)))))
    (Ak (Bh (Q2 (Aq K6 hr (Aa (Aq Vi hr (Aa (pv 6) (Aa (pv 2) Ai))) (Aa (pv 4) (Aa (pv 2) (Aa (pv 3) Ai))))) (Uw (K3 (EH (K:=K) lU) (pv 6) (pv 4) (Bq _))))))))))))))))),?_⟩
   refine qp8 (fun σ' H'=>σ'=[rS a,some (.int (h:Int)),none,none,none,none,none,none,none,none,none]/\H=H') (fun key=>?_) ?_
   . refine⟨_,rfl,a,ns,0,rfl,hS,by decide,hl,_,_,rfl,rfl,(by show(0:Int)<5;decide),key _ _ ⟨?_,rfl⟩⟩;rw[←eh];rfl
   refine Hw ?_;refine qp8 (fun σ' H'=>σ'=[rS a,some (.int (h:Int)),some (.int (w:Int)),none,none,none,none,none,none,none,none]/\H=H') (fun key=>?_) ?_
   . refine⟨_,rfl,a,ns,1,rfl,hS,by decide,hl,_,_,rfl,rfl,(by show(0:Int)<6;decide),key _ _ ⟨?_,rfl⟩⟩;rw[←ew];rfl
   refine Hw ?_;refine qp8 (fun σ' H'=>∃m:Nat,σ'=[rS a,some (.int (h:Int)),some (.int (w:Int)),some (.int (m:Int)),none,none,none,none,none,none,none]/\H=H'/\m<=h/\m<=w/\m<=3) (fun key=>?_) ?_
   . refine⟨_,rfl,_,rfl,_,rfl,a,ns,2,rfl,hS,by decide,hl,_,_,rfl,rfl,(by show(0:Int)<4;decide),_,_,_,rfl,fun q q1 q2 q3 q4=>?_⟩;have q0:0<=q:=O9m
     obtain⟨m,rfl⟩:=qf2 q0;exact key _ _ ⟨m,rfl,rfl,O9m,O9m,O9m⟩
   refine JA fun m mh mw m3=>?_;refine qp8 (fun σ' H'=>∃(tv:V) (N:Addr) (Am:Lat.Mat) (v d:Nat->Int),σ'=[rS a,some (.int (h:Int)),some (.int (w:Int)),some (.int (m:Int)),some tv,rS N,none,none,none,none,none]/\Ao H H'/\Rep K H' tv (dT h w Am)/\SqL K H' N (VI w v)/\Lat.Bent h w m d 12 Am v/\∀x,x<m->0<d x) (fun key=>?_) ?_
   . refine⟨_,rfl,_,rfl,_,rfl,_,rfl,a,ns,h,w,m,rfl,hS,hl,Vg,mh,mw,m3,hh,hw,fun tp L rv Am v d H' s hT rr rl bt dp=>?_⟩;exact⟨tp,_,rfl,hT,rfl,_,_,rfl,_,_,rfl,rfl,key _ _ ⟨rv,L,Am,v,d,rfl,s,rr,rl,bt,dp⟩⟩
   refine iX fun tv N Am v d H1 s1 rt rn bt dp=>?_;have plan:=X4 bt (qa0 _) hh hw;refine qp8 (fun σ' H'=>∃(B:Addr) (bs:List Addr),σ'=[rS a,some (.int (h:Int)),some (.int (w:Int)),some (.int (m:Int)),some tv,rS N,rS B,none,none,none,none]/\bs.length=h/\Rows H1 H' B bs w Am) (fun key=>?_) ?_
   . exact⟨_,rfl,tv,h,w,Am,rfl,rt,O9m,fun B bs H' LU R=>key _ _ ⟨B,bs,rfl,LU,R⟩⟩
   refine aX fun B bs H2 LU R2=>?_;have rB:Rep K H2 (.ref B) (dT h w Am):=R2.rep LU;have s2:=R2.same;have MK:=Rep.same s2 rt;refine qp8 (fun σ' H'=>∃(T0:Addr) (as:List Addr) (f:Nat->Int) (l r:Lat.Mat × Lat.Mat),σ'=[rS a,some (.int (h:Int)),some (.int (w:Int)),some (.int (m:Int)),some tv,rS N,rS B,rS T0,none,none,none]/\Zk h w (2 ^ 42) 1000000 188 Am m f l r/\as.length=w-m/\Rows H2 H' T0 as w (fun i=>r.1 (m+i))) (fun key=>?_) ?_
   . refine⟨_,rfl,_,rfl,.ref B,h,w,Am,_,rfl,rB,O9m,O9m,plan,fun k0 f l r D as H' hF kw hal R=>?_⟩;have e:=bt.rank mh mw dp hF.dg hF.il hF.ir;subst e;exact key _ _ ⟨D,as,f,l,r,rfl,hF,hal,R⟩
   refine IX fun T0 as f l r H3 hF hal R3=>?_;have s3:=R3.same;have rT:Rep K H3 (.ref T0) (dT (w-m) w fun i=>r.1 (m+i)):=R3.rep hal;have QM:∀j,j<w-m->∀i,i<h->Lat.mulV w Am (r.1 (m+j)) i=0:=fun j hj i hi=>hF.dg.spare hF.il O9m O9m i hi;have ON:∀{r':Lat.Mat × Lat.Mat}{f':Nat->Int}{l':Lat.Mat × Lat.Mat},Zk h w (2 ^ 42) 1000000 188 Am m f' l' r'->∀i j c,i<h->j<w-m->c<w->IntMulOk (Am i c) (r'.1 (m+j) c):=fun {r' f' l'} hF' i j c _ hj hc=>Ih (m:=60) (n:=189) (Fv (bt.bt i c) (by decide)) (qa7 (hF'.sp (m+j) c O9m O9m hc) (qd6 (by decide) (by decide))) (by decide);refine qp8 (t:=P6 _ _ _) (fun σ' H'=>σ'=[rS a,some (.int (h:Int)),some (.int (w:Int)),some (.int (m:Int)),some tv,rS N,rS B,rS T0,none,none,none]/\Ao H3 H') (fun key=>?_) ?_
   . refine⟨_,rfl,_,rfl,_,rfl,_,rfl,.ref T0,tv,h,w,m,Am,_,rfl,rT,Rep.same s3 MK,O9m,O9m,mw,fun i j c h1 h2 h3=>ON hF i j c h1 h2 h3,QM,fun H' s=>?_⟩;refine⟨_,rfl,?_⟩;refine M1 (by simp) ?_;exact key _ _ ⟨rfl,s⟩
   refine Hv fun H4 s4=>?_;have qT:=Rep.same s4 rT;refine qp8 (fun σ' H'=>∃(C:Addr),σ'=[rS a,some (.int (h:Int)),some (.int (w:Int)),some (.int (m:Int)),some tv,rS N,rS B,rS T0,rS C,none,none]/\Ao H4 H'/\Rep K H' (.ref C) (dT w (w-m) fun c j=>r.1 (m+j) c)) (fun key=>?_) ?_
   . exact⟨_,rfl,_,rfl,.ref T0,w-m,w,_,rfl,qT,O9m,O9m,fun C cs H' hcl R=>key _ _ ⟨C,rfl,R.same,R.rep hcl⟩⟩
   refine aY fun C H5 s5 rC=>?_;have mK:=s4.trans s5;have oO:=(s2.trans s3).trans mK;have iN:H5 T0=some (.lst (as.map V.ref)):=mK _ _ R3.at
   have vb:∀i,i<w->(v i).natAbs<2 ^ 200:=fun i _=>qa7 (bt.bits i) (by decide +kernel)
   have made:kY w (w-m) (fun c j=>r.1 (m+j) c) v:=⟨fun i=>Ah (fun x=>v x*r.2 (m+i) x) w,fun c hc=>by
    rw[hF.dg.madeS hF.ir bt.zero c hc];exact Aj fun j _=>qd4 ..⟩
   refine qp8 (fun σ' H'=>∃(X:Addr) (x:Nat->Int),σ'=[rS a,some (.int (h:Int)),some (.int (w:Int)),some (.int (m:Int)),some tv,rS N,rS B,rS T0,rS C,rS X,none]/\Ao H5 H'/\SqL K H' X (VI (w-m) x)/\(∀c,c<w->Lat.mulV (w-m) (fun c j=>r.1 (m+j) c) x c=v c)/\∀j,j<w-m->(x j).natAbs<2 ^ CP) (fun key=>?_) ?_
   . refine⟨_,rfl,_,rfl,T0,_,rfl,.inl (.of iN),_,rfl,N,_,rfl,.inl (oO.seq rn),fun W hW=>?_⟩;have sW:Ao H5 (upd H5 W (.lst (VI w v))):=Ao.new hW;refine⟨.ref C,W,w,w-m,_,v,(by rw[qa3,hal]<;>rfl),Rep.same sW rC,.of Ae,O9m,O9m,AH hF hw mw,vb,fun z=>absurd made z,fun x L H' hx bx s hL=>key _ _ ⟨L,x,rfl,sW.trans s,.of hL,hx,bx⟩⟩
   refine AW fun X x H6 s6 rX hx bx=>?_;have QN:=mK.trans s6;have QO:=oO.trans s6;have NL:H6 T0=some (.lst (as.map V.ref)):=s6 _ _ iN;refine qp8 (t:=P6 _ _ _) (fun σ' H'=>σ'=[rS a,some (.int (h:Int)),some (.int (w:Int)),some (.int (m:Int)),some tv,rS N,rS B,rS T0,rS C,rS X,none]/\Ao H6 H') (fun key=>?_) ?_
   . refine⟨_,rfl,_,rfl,T0,_,rfl,.inl (.of NL),.ref X,w-m,x,(by rw[qa3,hal]<;>rfl),Na rX,_,rfl,?_⟩;refine M1 (by simp) ?_;refine⟨_,rfl,_,rfl,.ref C,X,w,w-m,_,x,rfl,Rep.same s6 rC,rX,O9m,O9m,fun c j hc hj=>GV (m:=189) (qa7 (hF.sp (m+j) c O9m O9m hc) (qd6 (by decide) (by decide))) (bx j hj) (by decide),fun L H' s hL=>?_⟩
     have e0:dL w (Lat.mulV (w-m) (fun c j=>r.1 (m+j) c) x)=dL w v:=by
      unfold dL;rw[Oa fun c hc=>hx c hc]
     refine⟨_,rfl,dL w v,dL w v,e0▸Na (.of hL),Na ((QO.trans s).seq rn),ER _ _,?_⟩;rw[Ik];refine⟨_,rfl,?_⟩;refine M1 (by simp) ?_;exact key _ _ ⟨rfl,s⟩
   refine Hv fun H7 s7=>?_;have MJ:=QN.trans s7;have qO:=s3.trans MJ;refine qp8 (t:=Wc _ _ _) (fun σ' H'=>∃Yk:Option V,σ'=[rS a,some (.int (h:Int)),some (.int (w:Int)),some (.int (m:Int)),some tv,rS N,rS B,rS T0,rS C,rS X,Yk]/\Ao H2 H') (fun key=>?_) ?_
   . have pO:H7 T0=some (.lst (as.map V.ref)):=MJ _ _ R3.at
     refine⟨_,rfl,T0,rfl,⟨_,.of pO⟩,?_⟩
     refine for_list (K:=K) (a:=T0) (xs:=as.map V.ref) (fun i σ' H'=>∃Yk:Option V,σ'=[rS a,some (.int (h:Int)),some (.int (w:Int)),some (.int (m:Int)),some tv,rS N,rS B,rS T0,rS C,rS X,Yk]/\Ao H2 H'/\H' T0=some (.lst (as.map V.ref))/\∀y∈as,∃ys,H' y=some (.lst ys)/\ys.length<=60+i)
      ⟨none,rfl,qO,pO,fun y hy=>?_⟩ (fun i σ G _ ⟨_,_,_,h,_⟩=>.of h) ?_ ?_
     . obtain⟨j,hj,e⟩:=qh1 hy;obtain⟨_,_,h3⟩:=R3.row j y (by rw[qb0 hj,e]);exact⟨_,MJ _ _ h3,by rw[Ba];omega⟩
     . rintro i u σ G hu ⟨Yk,rfl,sG,rZ,rows⟩;have hi:i<as.length:=by have:=(qb2.mp hu).1;simpa using this
       rw[qc1,qb0 hi]at hu;cases hu;obtain⟨n1,n2,_⟩:=R3.row i as[i] (qb0 hi);obtain⟨ys,hy,hyl⟩:=rows as[i] (qj4 hi);refine⟨_,rfl,.inl ⟨rfl,_,.of hy⟩,as[i],_,_,rfl,rfl,hy,small O9m,_,rfl,sG.turn n1,by rw[As (Ne.symm n2)];exact rZ,fun y RK=>?_⟩;by_cases z:y=as[i]
       . subst z;exact⟨_,Ae,by rw[qf3];show _+1<=_;omega⟩
       . obtain⟨zs,h1,h2⟩:=rows y RK;exact⟨zs,by rw[As z];exact h1,O9m⟩
     . rintro σ G ⟨Yk,rfl,sG,_,_⟩;exact key _ _ ⟨Yk,rfl,sG⟩
   refine AY fun Yk H8 s8=>?_;have OQ:=Rep.same s8 rB;refine⟨_,rfl,_,rfl,.ref B,h,w,Am,_,rfl,OQ,O9m,O9m,plan,fun k0 f2 l2 r2 D aO H9 iO kw NK R9=>?_⟩;have e:=bt.rank mh mw dp iO.dg iO.il iO.ir;subst e;refine⟨_,rfl,_,rfl,_,rfl,.ref D,tv,h,w,k0,Am,_,rfl,R9.rep NK,Rep.same (s8.trans R9.same) MK,O9m,O9m,mw,fun i j c h1 h2 h3=>ON iO i j c h1 h2 h3,(fun j hj i hi=>iO.dg.spare iO.il O9m O9m i hi),fun UH qP=>?_⟩;refine⟨_,rfl,?_⟩;refine Yu rfl ?_;have JJ:=R9.same.trans qP;refine⟨_,rfl,_,rfl,dT h w Am,dT h w Am,Rep.same JJ OQ,Rep.same (s8.trans JJ) MK,HY _ _ _,?_⟩;rw[Ik];exact k _
end
theorem Kq{α:Type}{P:List α->Prop}(h:∀a0,P [a0])(us:List α)(hl:us.length=1):P us:=by
 cases us with
 | nil=>exact nomatch hl
 | cons a0 u0 =>
   cases u0 with
   | nil=>exact h a0
   | cons _ _=>simp at hl
theorem Dy{α:Type}{P:List α->Prop}(h:∀a0 a1,P [a0,a1])(us:List α)(hl:us.length=2):P us:=by
 cases us with
 | nil=>exact nomatch hl
 | cons a0 u0 =>
   cases u0 with
   | nil=>exact nomatch hl
   | cons a1 u1 =>
     cases u1 with
     | nil=>exact h a0 a1
     | cons _ _=>simp at hl
theorem Ko{α:Type}{P:List α->Prop}(h:∀a0 a1 a2,P [a0,a1,a2])(us:List α)(hl:us.length=3):P us:=by
 cases us with
 | nil=>exact nomatch hl
 | cons a0 u0 =>
   cases u0 with
   | nil=>exact nomatch hl
   | cons a1 u1 =>
     cases u1 with
     | nil=>exact nomatch hl
     | cons a2 u2 =>
       cases u2 with
       | nil=>exact h a0 a1 a2
       | cons _ _=>simp at hl
theorem c5{α:Type}{P:List α->Prop}(h:∀a0 a1 a2 a3,P [a0,a1,a2,a3])(us:List α)(hl:us.length=4):P us:=by
 cases us with
 | nil=>exact nomatch hl
 | cons a0 u0 =>
   cases u0 with
   | nil=>exact nomatch hl
   | cons a1 u1 =>
     cases u1 with
     | nil=>exact nomatch hl
     | cons a2 u2 =>
       cases u2 with
       | nil=>exact nomatch hl
       | cons a3 u3 =>
         cases u3 with
         | nil=>exact h a0 a1 a2 a3
         | cons _ _=>simp at hl
theorem fU{α:Type}{P:List α->Prop}(h:∀a0 a1 a2 a3 a4,P [a0,a1,a2,a3,a4])(us:List α)(hl:us.length=5):P us:=by
 cases us with
 | nil=>exact nomatch hl
 | cons a0 u0 =>
   cases u0 with
   | nil=>exact nomatch hl
   | cons a1 u1 =>
     cases u1 with
     | nil=>exact nomatch hl
     | cons a2 u2 =>
       cases u2 with
       | nil=>exact nomatch hl
       | cons a3 u3 =>
         cases u3 with
         | nil=>exact nomatch hl
         | cons a4 u4 =>
           cases u4 with
           | nil=>exact h a0 a1 a2 a3 a4
           | cons _ _=>simp at hl
set_option maxHeartbeats 4000000 in
noncomputable abbrev nS(K:W.Frag)(s:Str)(a:Addr):Prop:=W.nsIn K mainGlobals s=some (some (.ref a))
noncomputable abbrev nN9(K:W.Frag)(s:Str):Prop:=W.nsIn K mainGlobals s=some none
noncomputable abbrev kO(K:W.Frag)(a b:Addr)(v:Bool):Prop:=PySem.W.kitOne K (.ref a) (.ref b)=some v
theorem all_mk{l:PySem.W.OpenLaw}{w:World}{K:W.Frag}{h:Heap}{mg:Str->Option Value}{fa:Addr}{Ad:Addr}
 {Ab:Addr}
 {Ag:Addr}
 {Ej:Addr}{Q9 Ry:OAddr}{Qi:Pg}{Ra Rg Rs Qw Kw Rt:Value}
 {E5:Addr}{Sg Sy:OAddr}{R8:Pg}{Sh Sk Sm Sc Lp Ss:Value}
 {Fy:Addr}{U5 V3:OAddr}{Uj:Pg}{U6 Vc Vr Uu Nb Vv:Value}
 {HX:Addr}{JR fY:OAddr}{JI:Pg}{jS fO FU fG cP fW:Value}
 {Os:Tok}
 {Vn:Addr}{EC:Nat}{bD:Pg}{j8 j7 j6 j5 j4:Tok}
 (X:K.In h) (G:h.Ns mainGlobals mg) (RT:mg "law"=some (.ref fa))
 (cR:nS K "Lines" Ad)
 (AO:nS K "Stairs" Ab)
 (eW:nS K "Work" Ag)
 (Y1:Dt K "is_whole" Lu)
 (Om:Dt K "shared_divisor" Fj)
 (cI:Dt K "column" Qp)
 (AB:Dt K "one_row" Nr)
 (Vs:Dt K "times_list" Iz)
 (ES:Dt K "mixed" Uq)
 (CI:Dt K "across" Qq)
 (S0:W.findIn K (.ref Ad) "__init__"=some (some (.ref Ej)))
 (Ri:W.isFn K (.ref Ej)=true)
 (Sj:K.lookup Ej=some ⟨Ra,Q9,.func (W.fnOf "__init__" "Lines.__init__" (Ft Dd) (E6 Dd) (Ar Dd) .none Rg Rs Qw Ry Kw Rt),Qi⟩)
 (Sx:W.codeIn K Kw "Lines.__init__"=true)
 (Lm:W.keepIn K (.ref Ej)=true)
 (Y0:Dt K "start_of" Ls)
 (Sn:Dt K "is_straight" Hk)
 (Xh:Dt K "number_at" J4)
 (So:Dt K "is_multiple" Hl)
 (aD:Dt K "_law_whole" Nu)
 (Xm:Dt K "_law_cell_at" J9)
 (Y5:Dt K "_law_spread" Ly)
 (CJ:Dt K "_law_copy" Qs)
 (Xk:Dt K "_law_turn_by" J7)
 (cJ:Dt K "_law_flip" Qr)
 (Pp:Dt K "_law_list_turned" F5)
 (AD:Dt K "_law_taken" Nv)
 (Lb:Dt K "is_list_of_wholes" Ee)
 (aC:Dt K "flipped" Nt)
 (HZ:Dt K "ones" Yb)
 (cH:Dt K "turned" Qn)
 (V4:W.findIn K (.ref Ad) "blend"=some (some (.ref E5)))
 (Ln:W.isFn K (.ref E5)=true)
 (Vb:K.lookup E5=some ⟨Sh,Sg,.func (W.fnOf "blend" "Lines.blend" (Ft Dk) (E6 Dk) (Ar Dk) .none Sk Sm Sc Sy Lp Ss),R8⟩)
 (V0:W.codeIn K Lp "Lines.blend"=true)
 (Jf:W.keepIn K (.ref E5)=true)
 (Pn:Pj K Ab "__init__" "Stairs.__init__" F3)
 (Xi:Dt K "first_bar" J5)
 (Xl:Dt K "_law_is_list" J8)
 (Po:Dt K "_law_rows_turned" F4)
 (Y2:Dt K "is_table" Lv)
 (Xw:W.findIn K (.ref Ad) "turn"=some (some (.ref Fy)))
 (M0:W.isFn K (.ref Fy)=true)
 (W9:K.lookup Fy=some ⟨U6,U5,.func (W.fnOf "turn" "Lines.turn" (Ft D6) (E6 D6) (Ar D6) .none Vc Vr Uu V3 Nb Vv),Uj⟩)
 (Xt:W.codeIn K Nb "Lines.turn"=true)
 (Kj:W.keepIn K (.ref Fy)=true)
 (Sq:Pj K Ag "__init__" "Work.__init__" Hm)
 (Y4:Dt K "_law_turned" Lx)
 (Y6:Dt K "_law_spares" Lz)
 (Ld:Pj K Ab "shrink_row" "Stairs.shrink_row" Eg)
 (Vu:Pj K Ag "share" "Work.share" Ja)
 (aE:Dt K "_law_built" Nw)
 (Sr:Pj K Ab "meet" "Stairs.meet" Hn)
 (Pl:Pj K Ab "shrink" "Stairs.shrink" F1)
 (Lc:Pj K Ag "put_in_order" "Work.put_in_order" Ef)
 (Pm:Pj K Ab "put_in" "Stairs.put_in" F2)
 (aB:Dt K "stepped" Nq)
 (Xj:Pj K Ag "step" "Work.step" J6)
 (M9:Pj K Ag "straighten" "Work.straighten" Ez)
 (Y3:Dt K "diagonal" Lw)
 (eS:Dt K "spare" Up)
 (Vt:Dt K "papers_for" I0)
 (CH:Dt K "solved" Qo)
 (oA:nS K "law" HX)
 (MU:K.lookup HX=some ⟨jS,JR,.func (W.fnOf "law" "law" (Ft Mr) (E6 Mr) (Ar Mr) .none fO FU fG fY cP fW),JI⟩)
 (NY:W.codeIn K cP "law"=true)
 (MX:W.keepIn K (.ref HX)=true)
 (Rz:W.findIn K (.ref Ab) "blend"=some (some (.ref E5)))
 (Sz:W.findIn K (.ref Ab) "turn"=some (some (.ref Fy)))
 (v7:PySem.W.readsIn K Ad (.type "type")=true)
 (w9:PySem.W.findCls K (.ref Ad) (.type "type") "__init__"=some (.val (.ref Ej)))
 (w6:PySem.W.specialIn K (.ref Ad) "__getattribute__"=some (some (.builtin "type.__getattribute__")))
 (bV:PySem.W.makesIn K Ad=true)
 (cA:W.keepIn K (.ref Ad)=true)
 (u9:PySem.W.makesIn K Ab=true)
 (v6:W.keepIn K (.ref Ab)=true)
 (eE:PySem.W.makesIn K Ag=true)
 (EJ:W.keepIn K (.ref Ag)=true)
 (bK:PySem.W.plainGet K Ad Str.empty=true)
 (cC:PySem.W.hasDictIn K Ad=true)
 (BJ:PySem.W.plainOver K Ad=true)
 (BG:W.findIn K (.ref Ad) "__setattr__"=some (some (.builtin "object.__setattr__")))
 (qp9:W.findIn K (.ref Ad) "rows"=some none)
 (qq0:W.findIn K (.ref Ad) "backs"=some none)
 (r6:PySem.W.plainGet K Ab Str.empty=true)
 (y8:PySem.W.hasDictIn K Ab=true)
 (q9:PySem.W.plainOver K Ab=true)
 (o7:W.findIn K (.ref Ab) "__setattr__"=some (some (.builtin "object.__setattr__")))
 (qq1:W.findIn K (.ref Ab) "rows"=some none)
 (qq2:W.findIn K (.ref Ab) "backs"=some none)
 (qq3:W.findIn K (.ref Ab) "starts"=some none)
 (dS:PySem.W.plainGet K Ag Str.empty=true)
 (EL:PySem.W.hasDictIn K Ag=true)
 (DP:PySem.W.plainOver K Ag=true)
 (DK:W.findIn K (.ref Ag) "__setattr__"=some (some (.builtin "object.__setattr__")))
 (qq4:W.findIn K (.ref Ag) "table"=some none)
 (qq5:W.findIn K (.ref Ag) "width"=some none)
 (qq6:W.findIn K (.ref Ag) "left"=some none)
 (qq7:W.findIn K (.ref Ag) "right"=some none)
 (qq8:W.findIn K (.ref Ag) "numbers"=some none)
 (EW:nS K "GAPS" Vn)
 (eH:K.lookup Vn=some ⟨.type "tuple",none,.seq #[.int 32 j8,.int 16 j7,.int 8 j6,.int 4 j5,.int 2 j4] EC,bD⟩)
 (V2:W.nsIn K mainGlobals "MOST_ROWS"=some (some (.int 40 Os)))
 (Uf:nN9 K "isinstance")
 (IU:nN9 K "int")
 (gB:nN9 K "bool")
 (dD:nN9 K "tuple")
 (IS:nN9 K "zip")
 (IV:nN9 K "all")
 (GA:nN9 K "list")
 (iU:nN9 K "len")
 (DE:nN9 K "range")
 (iT:nN9 K "sum")
 (IT:nN9 K "min")
 (Wa:nN9 K "enumerate")
 (iV:nN9 K "any") :
 ∃fd:FuncData,(∀(s:Shared) (v:Value),BindsTo s fd ⟨[v],[]⟩ [("_law_script",v)])/\∀base:Heap,K.In base->base.Ns mainGlobals mg->By l.prog w K mg base Ex 13 fa fd ["_law_script"] (Px K):=by
 have M:∀{s:Str}{a:Addr},nS K s a->mg s=some (.ref a):=fun h=>W.mg_of X G h;have e:=RT.symm.trans (M oA);cases e;have T:Ga K mg Ad Ab Ag:=⟨M cR,⟨bK,cC,BJ,BG⟩,qp9,qq0,M AO,⟨r6,y8,q9,o7⟩,qq1,qq2,qq3,M eW,⟨dS,EL,DP,DK⟩,qq4,qq5,qq6,qq7,qq8,⟨Vn,M EW,fun H=>.inr ⟨_,_,_,eH,rfl,rfl,rfl,(by show(5:Nat)<=sizeLine;decide),.cons ⟨_,rfl⟩ (.cons ⟨_,rfl⟩ (.cons ⟨_,rfl⟩ (.cons ⟨_,rfl⟩ (.cons ⟨_,rfl⟩ (.nil)))))⟩⟩,⟨_,W.mg_of X G V2⟩,qg9 X G Uf,qg9 X G IU,qg9 X G gB,qg9 X G dD,qg9 X G IS,qg9 X G IV,qg9 X G GA,qg9 X G iU,qg9 X G DE,qg9 X G iT,qg9 X G IT,qg9 X G Wa,qg9 X G iV⟩
 have Fw:=Vm (st:=Dd) Sj Sx Lm;have Gj:=Vm (st:=Dk) Vb V0 Jf;have Hi:=Vm (st:=D6) W9 Xt Kj;have OF:=Vm (st:=Mr) MU NY MX;refine⟨W.fnOf "law" "law" (Ft Mr) (E6 Mr) (Ar Mr) .none fO FU fG fY cP fW,fun s v=>.of_eq rfl,fun base _ _=>?_⟩;have uu:=@Bv l.prog w K mg base h X G;have uv:=@Hg l.prog w K mg base;have Of:=uu Y1 (fun F=>Wx F T) (fun _ _ _ _ _ _=>Kq (fun _=>rfl));have En:=uu Om (fun F=>Mw F T) (fun _ _ _ _ _ _=>Dy (fun _ _=>rfl));have Vk:=uu cI (fun F=>t4 F T) (fun _ _ _ _ _ _=>Dy (fun _ _=>rfl));have Rm:=uu AB (fun F=>Yf F T) (fun _ _ _ _ _ _=>Dy (fun _ _=>rfl));have Hh:=uu Vs (fun F=>Sd F T) (fun _ _ _ _ _ _=>Dy (fun _ _=>rfl));have Ht:=uu ES (fun F=>BN F T) (fun _ _ _ _ _ _=>c5 (fun _ _ _ _=>rfl));have P0:=uu CI (fun F=>t5 F T) (fun _ _ _ _ _ _=>Kq (fun _=>rfl));have Rl:iG l.prog w K mg base Ad "__init__" ["self","rows","backs"] 1 (Hy K Ad Ab Ag):=⟨_,_,⟨v7,w9,w6,Lm⟩,Fw.binds (ps:=["self","rows","backs"]) (fun _ _ _ _ _ _=>Ko (fun _ _ _=>rfl)),Jp Fw T⟩
 have Gy:Zi l.prog w K mg base Ad ["self","rows","backs"] 1 (Hy K Ad Ab Ag):=⟨_,_,⟨bV,S0,Ri,cA⟩,Fw.binds (ps:=["self","rows","backs"]) (fun _ _ _ _ _ _=>Ko (fun _ _ _=>rfl)),Jp Fw T⟩
 have Ii:=uu Y0 (fun F=>Ww F T) (fun _ _ _ _ _ _=>Kq (fun _=>rfl));have Jg:=uu Sn (fun F=>Q5 F T) (fun _ _ _ _ _ _=>Kq (fun _=>rfl));have L7:=uu Xh (fun F=>Uz F T) (fun _ _ _ _ _ _=>Dy (fun _ _=>rfl));have Jh:=uu So (fun F=>Q6 F T) (fun _ _ _ _ _ _=>Dy (fun _ _=>rfl));have Rn:=uu aD (fun F=>Yh F T) (fun _ _ _ _ _ _=>Kq (fun _=>rfl));have Dx:=uu Xm (fun F=>U4 F T) (fun _ _ _ _ _ _=>Dy (fun _ _=>rfl));have Oi:=uu Y5 (fun F=>W1 F T) (fun _ _ _ _ _ _=>Dy (fun _ _=>rfl));have K7:=uu CJ (fun F=>t7 F T) (fun _ _ _ _ _ _=>Kq (fun _=>rfl));have Ma:=uu Xk (fun F=>U2 F T) (fun _ _ _ _ _ _=>Ko (fun _ _ _=>rfl));have Ji:=uu cJ (fun F=>t6 F T) (fun _ _ _ _ _ _=>Dy (fun _ _=>rfl));have Gz:=uu Pp (fun F=>N5 F T) (fun _ _ _ _ _ _=>Dy (fun _ _=>rfl));have Ij:=uu AD (fun F=>Yi F T) (fun _ _ _ _ _ _=>Dy (fun _ _=>rfl));have Cj:=uu Lb (fun F=>Kd F T Of) (fun _ _ _ _ _ _=>Dy (fun _ _=>rfl));have Dw:=uu aC (fun F=>Yg F T Vk) (fun _ _ _ _ _ _=>Dy (fun _ _=>rfl));have Tw:=uu HZ (fun F=>dX F T Rm) (fun _ _ _ _ _ _=>Kq (fun _=>rfl));have M3:=uu cH (fun F=>t0 F T Ht) (fun _ _ _ _ _ _=>Dy (fun _ _=>rfl));have Hs:G8 l.prog w K mg base Ad "blend" ["self","i","j","one","other"] 2 (Hz K Ad Ab Ag):=⟨_,_,⟨V4,Ln,Jf⟩,Gj.binds (ps:=["self","i","j","one","other"]) (fun _ _ _ _ _ _=>fU (fun _ _ _ _ _=>rfl)),Kg Gj T En Ht⟩
 have F8:G8 l.prog w K mg base Ab "blend" ["self","i","j","one","other"] 2 (Hz K Ad Ab Ag):=⟨_,_,⟨Rz,Ln,Jf⟩,Gj.binds (ps:=["self","i","j","one","other"]) (fun _ _ _ _ _ _=>fU (fun _ _ _ _ _=>rfl)),Kg Gj T En Ht⟩
 have Oe:=b6 u9 v6 (P:=l.prog) (w:=w) (base:=base) Pn (fun F=>N3 F T Rl) (fun _ _ _ _ _ _=>Ko (fun _ _ _=>rfl));have L8:=uu Xi (fun F=>U0 F T Jh L7) (fun _ _ _ _ _ _=>Dy (fun _ _=>rfl));have Fm:=uu Xl (fun F=>U3 F T Rn) (fun _ _ _ _ _ _=>Dy (fun _ _=>rfl));have E4:=uu Po (fun F=>N4 F T K7) (fun _ _ _ _ _ _=>Dy (fun _ _=>rfl));have Og:=uu Y2 (fun F=>Wy F T Cj) (fun _ _ _ _ _ _=>Dy (fun _ _=>rfl));have Gg:G8 l.prog w K mg base Ad "turn" ["self","turn"] 3 (Gr K Ad Ab Ag):=⟨_,_,⟨Xw,M0,Kj⟩,Hi.binds (ps:=["self","turn"]) (fun _ _ _ _ _ _=>Dy (fun _ _=>rfl)),Ll Hi T M3 P0⟩
 have Cf:G8 l.prog w K mg base Ab "turn" ["self","turn"] 3 (Gr K Ad Ab Ag):=⟨_,_,⟨Sz,M0,Kj⟩,Hi.binds (ps:=["self","turn"]) (fun _ _ _ _ _ _=>Dy (fun _ _=>rfl)),Ll Hi T M3 P0⟩
 have Vf:=b6 eE EJ (P:=l.prog) (w:=w) (base:=base) Sq (fun F=>Q7 F T Gy Tw) (fun _ _ _ _ _ _=>Ko (fun _ _ _=>rfl));have Oh:=uu Y4 (fun F=>W0 F T Ji E4) (fun _ _ _ _ _ _=>c5 (fun _ _ _ _=>rfl));have K6:=uu Y6 (fun F=>W2 F T Fm Ij) (fun _ _ _ _ _ _=>c5 (fun _ _ _ _=>rfl));have B4:=uv Ld (fun F=>Kf F T Cf) (fun _ _ _ _ _ _=>Ko (fun _ _ _=>rfl));have Gf:=uv Vu (fun F=>Sf F T Gg Hs) (fun _ _ _ _ _ _=>Ko (fun _ _ _=>rfl));have Ro:=uu aE (fun F=>Yj F T Ma Oh Gz Dx Oi) (fun _ _ _ _ _ _=>c5 (fun _ _ _ _=>rfl));have Hr:=uv Sr (fun F=>Q8 F T B4 Cf F8) (fun _ _ _ _ _ _=>Ko (fun _ _ _=>rfl));have F6:=uv Pl (fun F=>N1 F T B4) (fun _ _ _ _ _ _=>Kq (fun _=>rfl));have Ei:=uv Lc (fun F=>Ke F T Gf) (fun _ _ _ _ _ _=>Kq (fun _=>rfl));have F7:=uv Pm (fun F=>N2 F T Ii Cf Hr) (fun _ _ _ _ _ _=>Dy (fun _ _=>rfl));have M4:=uu aB (fun F=>Ye F T Oe Gy F7 F6) (fun _ _ _ _ _ _=>Ko (fun _ _ _=>rfl));have Hf:=uv Xj (fun F=>U1 F T M4 Dw) (fun _ _ _ _ _ _=>Kq (fun _=>rfl));have E3:=uv M9 (fun F=>L5 F T Hf Jg) (fun _ _ _ _ _ _=>Kq (fun _=>rfl));have Gn:=uu Y3 (fun F=>Wz F T Vf E3 Ei Dw Og) (fun _ _ _ _ _ _=>Dy (fun _ _=>rfl));have Vi:=uu eS (fun F=>bN F T Gn Dw) (fun _ _ _ _ _ _=>Dy (fun _ _=>rfl));have Kl:=uu Vt (fun F=>Se F T Gn Cj) (fun _ _ _ _ _ _=>Ko (fun _ _ _=>rfl));have Vj:=uu CH (fun F=>t3 F T Kl Hh L8) (fun _ _ _ _ _ _=>Ko (fun _ _ _=>rfl));exact GR OF T Ro K7 Vi Ji Vj Dx K6 Fm Ij
theorem walk{l:PySem.W.OpenLaw}{q:Program}{loose:List Str}{XP:(Str->Option Value)->Heap->Prop}{YP:World->Heap->Prop}{d:DefRec}{K:Params->PySem.W.Frag}(hn:l.most=some 63)(hdf:d.params.defaults=[])
 (hY:∀(w:World) (h:Heap),YP w h->(K w.params).In h)
 (F:∀(w:World) (mg:Str->Option Value) (fa:Addr) (h:Heap),(K w.params).In h->h.Ns mainGlobals mg->mg d.name=some (.ref fa) →
   ∃fd:FuncData,(∀(s:Shared) (u:Value),BindsTo s fd ⟨[u],[]⟩ [("_law_script",u)])/\∀base:Heap,(K w.params).In base->base.Ns mainGlobals mg->By l.prog w (K w.params) mg base Ex 13 fa fd ["_law_script"] (Px (K w.params))) :
 PySem.W.WalkO q loose XP YP l.row.toRowW d [] (fun f vs=>PySem.call f vs) :=
 L2.walk_ofB (n:=63) (k:=13) (x:="_law_script") (CX:=fun _=>Ex) (sp:=fun w=>Px (K w.params)) hn (by decide) hdf ⟨rfl,by decide,by decide,rfl⟩ hY F (fun _ _ a ns hl Vg _ hS=>⟨a,ns,rfl,hS,hl,Vg,fun _=>rfl⟩) fun _ _ _ _ _ z=>z
end Hb
structure PySem.W.Fast:Prop where(tw3933219107396503464 tw14092063110289270069 tw2062812562983506497 tw6888732754438578951 tw8270696779885938113 tw2993700706595486456 tw12439714514892687267 tw10684291333210438880 tw13215793176679856578 tw12036750880792168779 tw68241826613970343 tw1448730421668744108 tw1509378848846910487 tw11616715458425630147 tw9398834704413798199 tw12740382995728022570 tw5204604813339934018 tw8846610682946175025 tw5201402966575118024 tw17706197218528480075 tw11891864185466822375 tw12028118743050151720 tw11957273424598105301 tw1602478210649219031 tw11714900032056534487 tw17442747613825404863 tw217934795440393493 tw11640310660130435048 tw4616503294751793335 tw12156181381728039192 tw16760296014369646611 tw7669532573541008972 tw8150276435988580588 tw15076204522834110056 tw7043400506177185119 tw17213776351047279984 tw24674616948082863 tw12406333207329318812 tw914341920016175745 tw9955756909513509975 tw5909765403244003563 tw16217607141335533759 tw12871346067937744283 tw15983703240262406126 tw5963816529086316938 tw4748576179483860019 tw9009862127633393993 tw10076932930552636859 tw4693013664888976392 tw17797905365253090662 tw13206250752465595230 tw11927135687511389922 tw287148917164169583 tw6674455631256802543 tw15237318621790802725 tw15688362466997299771 tw4410560333216113729 tw3587652466111629810 tw15276700540192471647 tw17428712972201895628 tw14074229610051071772 tw4992755539444160205 tw6261039934100244330 tw17670181406109952290 tw4409474412808428391 tw14239126587717582751 tw1794624205084546582 tw1907217819441134488 tw14812993548192200482 tw2992738957086873952 tw9301905423660907090 tw8039054325379759553 tw13767328935795061174 tw9328497113405193153 tw10767964872274388427 tw15636633528295952550 tw1972990470877573701 tw6774610295749666350 tw13188038471796350172 tw2562242387582505244 tw4283536874642261315 tw12472879878987920564 tw11939003436364878866 tw14960512438808719775 tw4005981090808883497 tw1817973885426266050 tw16644582255448146664 tw17837080049303784797 tw8606682182101693461 tw727909663711054362 tw32364070469533100 tw1865224070472764051 tw16639367920949847152 tw16562294175098677834 tw6061908175439405331 tw3977698641654662656 tw15856143341025717451 tw5349028722323736643 tw5321136357006803101 tw7323949192944771733 tw8498921382753729550 tw4144680347933711586 tw1457714989349574403 tw5831515576812218576 tw15367142596514315446 tw883120019371689739 tw17003313654037076449 tw5513695625855969137 tw1357001074262151721 tw7500060476285738293 tw7494088514450543421 tw16318480662723465102 tw13566290756240535140 tw14486758512284374005 tw11412026722857303093 tw14117415660231445160 tw11730896242377640304 tw5693118917337904706 tw3732162961784898745 tw15829488940799972589 tw1764896598615249121 tw4519004267652201831 tw986767724765068405 tw16719150216620143302 tw8313743145445792682 tw2496797044162532162 tw1250006597524871514 tw7748656391481633967 tw8134553389248020034 tw12966493793626894078 tw6393231409785629167 tw10038322499840269684 tw17397151484684225270 tw12691488624771708410 tw4550394189856850531 tw16826979602576136840 tw17184263371231473943 tw7593042591245607750 tw5176966372687727104 tw10178679962407215300 tw7410837075974680017 tw12136043772928408578 tw15930421524893846401 tw14079069127466635280 tw12717388291707347170 tw3097938256247237563 tw16919495502330801396 tw452940248035202060 tw6006682039639871878 tw6717740259651828256 tw12099725049511855351 tw10433035195083342742 tw1371967701154972176 tw3275216776098208915 tw6042248550293123453 tw8398938372757405041 tw14151709303260825363 tw5532685892763775286 tw16084828251329692130 tw16134572521199906518 tw17139728648653201761 tw12158408469090143058 tw10380476395245572958 tw7188941998813513244 tw14167992056859695742 tw1288660543646437324 tw9842441782495201429 tw14563178370580680156 tw3174101567313072755 tw14562049688180711927 tw10909250293510486262 tw6647123898397522728 tw8547158859521303324 tw7860444769881444028 tw13309098887970668057 tw2682695294192452721 tw853394106977226263 tw15279866804271065945 tw289372869761528649 tw5818949162181893834 tw15279779569917970153 tw441577455737427392 tw4706000052040324967 tw18306337932402835739 tw12070493451936019164 tw12735342358035222707 tw2542298666648307130 tw15277465463775733724 tw5508274845772659987 tw2394677861282682582 tw3399418504552912202 tw3518402986199698435 tw5924795717594795047 tw2687646812700045899 tw18437296710489587226 tw3593401959324976660 tw4427056755900304086 tw11578936671657889712 tw11666636754297814170 tw14092216845197640220 tw2522270834438096093 tw15755425676369117500 tw17432682464237369404 tw5063609943514968253 tw101130958705692251 tw4881887877936486726 tw1368765611559837860 tw13680477337810532117 tw156437766055533161 tw4765850787782955608 tw18011434160772443079 tw1265263070220400988 tw9201952189565141331 tw16208386538527606330 tw14396708192996330115 tw3822246190997276674 tw603046409658532992 tw1565135155654398136 tw6406085351623969019 tw10779820242020612443 tw6162896351766736463 tw10848714650299155503 tw16215296741457101704 tw14129468290276341209 tw6193585392097528788 tw3551966358759942821 tw9758357326920533731 tw11826885356571607191 tw11196792386629979801 tw10591639295341578090 tw9620972803387214796 tw14082083792924478319 tw10781210016969207156 tw2560774834540102840 tw11183436484251307170 tw2324720316958659395 tw8929648247257029280 tw17215733833958625530 tw9398126054819677353 tw2459255380116843367 tw3187342787095967146 tw7817042086471837654 tw5921245919787845870 tw14597303119339913348 tw15150397475288989471 tw2283169766338727134 tw5982419329565841802 tw10231915050384243264 tw11105707080105405801 tw17675126749399253335 tw6091671472681330668 tw9171554803621217085 tw2945657511885028246 tw3324535238109239717 tw18401746439717407068 tw6390682148522136969 tw9228016452476062934 tw9608604567997753430 tw6626021926236614390 tw6524531637675792818 tw16057646891684596571 tw4923469447416128213 tw7434256641209715855 tw13841574333867848353 tw10574840014645957358 tw11283505214146735527 tw6280899303511701047 tw16380135512806934175 tw8327211094381121699 tw16244461975356006571 tw5791182439110479732 tw13856055028909951074 tw14546583318739286329 tw6734242558316129366 tw2202995584775192217 tw6853064456488932381 tw3056844511980642941 tw8068669774978794193 tw15687353664720380229 tw10382315391229160591 tw5051958534091270830 tw13642738329390962154 tw11673041916092653980 tw2491514301582885517 tw5760211024344128514 tw10927108158951768441 tw13798186494579774583 tw12376942697807066402 tw14097955997538954785 tw1144847540976152977 tw7850881689957173474 tw15688405630236680848 tw6939364323437482888 tw7344563412880668304 tw11112296293015652868 tw3509162546566765321 tw188960425081371462 tw4570178791119512173 tw16007483390659468680 tw2565190413571112661 tw2533830155302519768 tw10892142167292468659 tw17752594992661087984 tw1026291652372010339 tw11190117237205119095 tw16257051305586984945 tw846178947431527499 tw2931919731521559979 tw16776448690484709109 tw781261391748442464 tw9839566814395536883 tw2920319586601371691 tw272403385656012654 tw15550655841304370880 tw6971856115091376474 tw5012746222277632340 tw11202515555649539591 tw18409073031440811 tw8618804033496094652 tw8641769710124648193 tw3637640548144028251 tw9967025180790401602 tw1305770851855562717 tw7426056815654663767 tw10971444337296026461 tw10322979118326389216 tw8113888639068167435 tw2495050097090640564 tw14709333485053669465 tw13273149323644986290 tw11055965525332134764 tw3825450378877675207 tw12621724806678799901 tw18342099768138684891 tw17942368746254583639 tw12806335732151637684 tw5140070749891259919 tw15464918560651651740 tw18181541010591811546 tw2092769125605122209 tw2498949467237939269 tw272597502492884898 tw10353935981074608882 tw5442760787841868643 tw15400904139823163481 tw14116607366494359284 tw3100790804618814538 tw11928054003183620166 tw7348494256058667285 tw2698750676755684979 tw3799864945170966337 tw14770851809102092372 tw3808635092307818946 tw13952103037479191874 tw2174721554624565011 tw3715559003756377696 tw17066168818286738149 tw6916337348517719104 tw17555173093180679807 tw4924893952006509694 tw11172620956335105874 tw4346872943409050560 tw12154707072603963924 tw3755318870573652306 tw18136356389049030591 tw11598537578941408379 tw13602532416158769058 tw7455835046859865450 tw10917052951729912901 tw15745137226332132720 tw14674120868453897700 tw1676831609876112729 tw8813374256590240714 tw10074140446483785259 tw16146768794313991747 tw201108939510937497 tw2118230355997722477 tw15219885135972161622 tw8141311735389069470 tw11694992146493258779 tw3796968525634886029 tw1470602251330528706 tw9242158781465216523 tw7564979658988019676 tw1476322922168747904 tw9176863060192776964 tw10157638002819142418 tw17658054073802283274 tw16346914655222984540 tw3876155987487431810 tw15273825091262532716 tw7813451479007180965 tw11368306827299759700 tw5829635391350210963 tw11719629510369891833 tw7173348462178199425 tw12585441679816845238 tw12695113956745917982 tw12318941560060210268 tw5505839973987720666 tw11700061534362831229 tw11831077597649567545 tw1381843785358228282 tw10450705554480496908 tw14162362702899637007 tw6795579134821421774 tw17334930753782327360 tw3572817530045560997 tw12075092899830209866 tw9016507161350762654 tw7705773509648162695 tw10667694238202302871 tw18215201252578552865 tw503279838876624129 tw17678869782396287307 tw15729198230635938031 tw8963350406884166287 tw6096450467400989059 tw13634710300647234255 tw5402327905952659570 tw18166315239791034861 tw4807907270179869497 tw17101488989132244355 tw11393591958208529082 tw16192112651340373797 tw2457252583406624403 tw12474267718465388263:True)
open PySem PySem.W PyProof.Rows
set_option maxRecDepth 100000 in
set_option maxHeartbeats 0 in
theorem PySem.Challenge.cw_holebook_k30_whole_spare_lists_holds : PySem.Challenge.rw_holebook_k30_whole_spare_lists.Holds := by
 w_on;o_law;k_head;(case hw=>w_witness2)
 k_fill
 refine Hb.walk (l:=PySem.Challenge.rw_holebook_k30_whole_spare_lists) rfl rfl (fun w h Y=>PySem.W.kIn_of Y) ?F
 case F =>
  intro w mg fa h KX G hmg
  refine' Hb.all_mk KX G hmg ..
  all_goals try delta Hb.nS Hb.nN9 Hb.kO
  all_goals try first | exact⟨_,_,by k_is,⟨⟨_,_,_,_,_,_,_,_,_,rfl,by k_is,by k_is⟩,by k_is⟩⟩ | exact⟨_,_,by k_is,by k_is,⟨⟨_,_,_,_,_,_,_,_,_,rfl,by k_is,by k_is⟩,by k_is⟩⟩ | k_is | kit_is | kts_isx | k_exc | k_qdec | kernel_rfl | decide +kernel
