"""Pacts that are chosen: the cheapest ones with which all parts keep, and no faulty one does."""

from truestandins.errors import BadFaults, BadOffers, TooMany
from truestandins.forms import ascends, is_below, is_integer, is_like, is_tuple
from truestandins.keeping import is_table, kept_or_not
from truestandins.scenes import Bench
from truestandins.searching import is_run_to_fault

MOST_CHOICES = 64
MOST_PRICE = 99


class Market:
    """Offers and faults, and what parts and faults do beside the pacts that are picked."""

    def __init__(self, system, offers, faults):
        if not are_offers(system, offers):
            raise BadOffers(offers)
        self.system = system
        self.offers = offers
        self.choices = choices_in_turn(offers)
        if not are_faults(system, offers, faults):
            raise BadFaults(faults)
        self.faults = faults
        self.results = {}

    def wires_of(self, name):
        """The numbers of all offers that are of a wire of this part."""
        offered = [wire for wire, _ in self.offers]
        return [at for at, wire in enumerate(offered) if name in (wire[0], self.system.offerer(wire))]

    def picks(self, name, choice):
        """What a choice picks for the wires of a part."""
        return tuple((self.offers[at][0], choice[at]) for at in self.wires_of(name))

    def bench_of(self, kind, key, picks):
        """The part of this name, or the fault of this number, beside what is picked."""
        name, system = self.named(kind, key), self.system
        if kind == "fault":
            system = system.with_part(name, self.faults[key][1])
        for at, (wire, number) in zip(self.wires_of(name), picks):
            system = system.with_pact(wire, self.offers[at][1][number][0])
        return Bench(system, name)

    def named(self, kind, key):
        """The name of the part."""
        return key if kind == "part" else self.faults[key][0]

    def result(self, kind, key, picks):
        """What keeps tells of it."""
        if (kind, key, picks) not in self.results:
            self.results[kind, key, picks] = kept_or_not(self.bench_of(kind, key, picks))
        return self.results[kind, key, picks]

    def first_clash(self, choice):
        """The first clash of a choice, () if there is none."""
        rivals = [("part", name) for name in self.system.parts] + [("fault", at) for at in range(len(self.faults))]
        for kind, key in rivals:
            picks = self.picks(self.named(kind, key), choice)
            word, proof = self.result(kind, key, picks)
            if word == ("breaks" if kind == "part" else "keeps"):
                return kind, key, picks, proof
        return ()

    def tables(self, choice):
        return tuple(self.result("part", name, self.picks(name, choice))[1] for name in self.system.parts)

    def runs(self, choice):
        return tuple(
            self.result("fault", at, self.picks(name, choice))[1] for at, (name, _) in enumerate(self.faults)
        )


def chosen(system, offers, *, faults=()):
    """("choice", ..) of the first choice that does not clash, or ("none", clashes of all)."""
    market = Market(system, offers, faults)
    clashes = []
    for choice in market.choices:
        if has_clash(market, clashes, choice):
            continue
        clash = market.first_clash(choice)
        if clash == ():
            tables, runs = market.tables(choice), market.runs(choice)
            return "choice", price_of(offers, choice), choice, tables, runs, tuple(clashes)
        clashes.append(clash)
    return "none", tuple(clashes)


def has_clash(market, clashes, choice):
    """Whether a choice has all picks of one of the clashes."""
    picked = [(wire, number) for (wire, _), number in zip(market.offers, choice)]
    return [True for _, _, picks, _ in clashes if all([pick in picked for pick in picks])] != []


def choices_in_turn(offers):
    """All choices, by their prices."""
    many = 1
    for _, options in offers:
        many *= len(options)
        if many > MOST_CHOICES:
            raise TooMany(MOST_CHOICES)
    choices = [()]
    for _, options in offers:
        choices = [choice + (number,) for choice in choices for number in range(len(options))]
    return sorted(choices, key=lambda choice: (price_of(offers, choice), choice))


def price_of(offers, choice):
    return sum([options[number][1] for (_, options), number in zip(offers, choice)])


def are_offers(system, value):
    """Whether any value has options for different wires, ascending."""
    if not isinstance(value, tuple) or not all([is_offer(system, offer) for offer in value]):
        return False
    return ascends([wire for wire, _ in value])


def is_offer(system, value):
    if not is_tuple(value, 2) or value[0] not in system.wires:
        return False
    wire, options = value
    return isinstance(options, tuple) and options != () and all([is_option(system, wire, option) for option in options])


def is_option(system, wire, value):
    if not is_tuple(value, 2) or not system.takes_pact(wire, value[0]):
        return False
    return is_integer(value[1]) and 1 <= value[1] <= MOST_PRICE


def are_faults(system, offers, value):
    return isinstance(value, tuple) and all([is_fault(system, offers, fault) for fault in value])


def is_fault(system, offers, value):
    """Whether any value is (name, part) that fits in its place, beside each of the offered pacts, too."""
    if not is_tuple(value, 2) or value[0] not in system.parts or not system.takes_part(value[0], value[1]):
        return False
    name, part = value
    pacts = [pact for wire, options in offers if system.offerer(wire) == name for pact, _ in options]
    return all([row[0] in part.doors for pact in pacts for state in pact for row in state])


def shows_chosen(system, offers, value, *, faults=()):
    """Whether any value is a result that chosen may tell, right by itself."""
    market = Market(system, offers, faults)
    if is_tuple(value, 2) and value[0] == "none":
        return are_clashes(market, value[1], market.choices)
    if not is_tuple(value, 6) or value[0] != "choice":
        return False
    _, price, choice, tables, runs, clashes = value
    alike = [other for other in market.choices if is_like(choice, other)]
    if not alike or not is_like(price, price_of(offers, choice)):
        return False
    if not are_clashes(market, clashes, market.choices[:market.choices.index(choice)]):
        return False
    if not is_tuple(tables, len(system.parts)) or not is_tuple(runs, len(faults)):
        return False
    if not all([shows_part(market, name, choice, table) for name, table in zip(system.parts, tables)]):
        return False
    return all([shows_fault(market, at, choice, run) for at, run in enumerate(runs)])


def shows_part(market, name, choice, table):
    """Whether a part keeps beside a choice by this table."""
    bench = market.bench_of("part", name, market.picks(name, choice))
    return is_table(bench, [bench.first()], table)


def shows_fault(market, at, choice, run):
    """Whether a fault breaks beside a choice by this run."""
    bench = market.bench_of("fault", at, market.picks(market.faults[at][0], choice))
    return is_run_to_fault(bench.first(), lambda scene: bench.moves(scene), run)


def are_clashes(market, value, choices):
    """Whether any value is a tuple of clashes, of which each of the choices has one."""
    if not isinstance(value, tuple) or not all([is_clash(market, clash) for clash in value]):
        return False
    return all([has_clash(market, value, choice) for choice in choices])


def is_clash(market, value):
    if not is_tuple(value, 4):
        return False
    kind, key, picks, proof = value
    if kind == "part":
        right = key in market.system.parts
    else:
        right = kind == "fault" and is_below(key, len(market.faults))
    if not right or not are_picks(market, market.named(kind, key), picks):
        return False
    bench = market.bench_of(kind, key, picks)
    if kind == "fault":
        return is_table(bench, [bench.first()], proof)
    return is_run_to_fault(bench.first(), lambda scene: bench.moves(scene), proof)


def are_picks(market, name, value):
    """Whether any value picks one option for each offered wire of the part."""
    offers = [market.offers[at] for at in market.wires_of(name)]
    if not is_tuple(value, len(offers)) or not all([is_tuple(pick, 2) for pick in value]):
        return False
    return all([
        pick[0] == wire and is_below(pick[1], len(options)) for pick, (wire, options) in zip(value, offers)
    ])
