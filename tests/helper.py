"""What the tests share: nets, stands, wrong values, and the rules of the document written once more, plainly."""

import inspect
import itertools
import random
import re
import time

from roomahead.errors import RoomError

WHEEL = (3, ((0, 1, 1), (1, 2, 1), (2, 0, 1)), (((), (0,), (0,)), ((1,), (), (1,)), ((2,), (2,), ())))
HALL = (
    3,
    ((0, 1, 1), (1, 0, 1), (1, 2, 2), (2, 1, 2)),
    (((), (0,), (0,)), ((1,), (), (2,)), ((3,), (3,), ())),
)
FORK = (
    3,
    ((0, 1, 1), (1, 2, 1), (2, 0, 1), (1, 0, 1)),
    (((), (0,), (0,)), ((3,), (), (1,)), ((2,), (2,), ())),
)
PAIR = (2, ((0, 1, 1), (1, 0, 2)), (((), (0,)), ((1,), ())))
TWO = (2, ((0, 1, 2), (0, 1, 1), (1, 0, 1)), (((), (0, 1)), ((2,), ())))
BLIND = (3, ((0, 1, 2), (1, 2, 1)), (((), (0,), (0,)), ((1,), (), (1,)), ((), (), ())))
TANGLE = (
    3,
    ((0, 1, 3), (1, 2, 1), (2, 0, 1), (1, 0, 2)),
    (((), (0,), (0,)), ((1,), (), (3,)), ((2,), (2,), ())),
)
LOST = (3, ((0, 1, 2),), (((), (), (0,)), ((), (), ()), ((), (), ())))
WANDER = (3, ((0, 1, 1), (1, 0, 1), (1, 2, 1)), (((), (), (0,)), ((), (), (1, 2)), ((), (), ())))
DEAD = (3, ((0, 1, 1),), (((), (), (0,)), ((), (), ()), ((), (), ())))
ALONE = (1, (), (((),),))
BARE = (2, (), (((), ()), ((), ())))
UNTOLD = (3, ((0, 1, 2), (1, 2, 4)), (((), (), ()),) * 3)
SIXTEEN = (2, ((0, 1, 4),) * 10 + ((1, 0, 3),) * 6, (((), tuple(range(10))), (tuple(range(10, 16)), ())))


def _six():
    ends = [(i, (i + 1) % 6) for i in range(6)] + [((i + 1) % 6, i) for i in range(6)]
    ends += [(0, 3), (3, 0), (1, 4), (4, 1)]
    lanes = tuple((start, end, 1 + k % 4) for k, (start, end) in enumerate(ends))
    starting = [tuple(k for k, lane in enumerate(lanes) if lane[0] == u) for u in range(6)]
    return (6, lanes, tuple(tuple(() if d == u else starting[u] for d in range(6)) for u in range(6)))


SIX = _six()
NETS = (WHEEL, HALL, FORK, PAIR, TWO, BLIND, TANGLE, ALONE, BARE, UNTOLD, SIXTEEN, SIX)
SMALL_NETS = (WHEEL, HALL, FORK, PAIR, TWO, BLIND, ALONE, BARE, UNTOLD)
# Nets with few lots or none, that have few lanes; and all told here.
LOT_NETS = (WHEEL, HALL, FORK, PAIR, TWO, BLIND, TANGLE, LOST, WANDER, DEAD, ALONE, BARE, UNTOLD)

WRONG_VALUES = (
    None, True, False, 0, 1, -1, 3, 10 ** 399, -(10 ** 399), "", "0", "in", "none", (), (()), ((),), (0,), (0, 1),
    (0, 1, 1), (True,), [], [0], [0, 1, 1], {}, {0: 1}, {"in": [0, 1]}, [[], ()], (None,), ("a", "b", "c"),
    ((((((((((((((((((((),),),),),),),),),),),),),),),),),),),), [[[[[[[[[[[[[[[[[[[[]]]]]]]]]]]]]]]]]]]],
)


def random_net(chance, houses=None, many=None):
    """Any net; chance is a random.Random."""
    houses = chance.randint(1, 6) if houses is None else houses
    many = chance.randint(0, 16) if many is None else many
    if houses == 1:
        many = 0
    lanes = tuple((*chance.sample(range(houses), 2), chance.randint(1, 4)) for _ in range(many))
    tables = []
    for u in range(houses):
        starting = [k for k in range(many) if lanes[k][0] == u]
        entries = [tuple(k for k in starting if chance.random() < 0.6) for _ in range(houses)]
        entries[u] = ()
        tables.append(tuple(entries))
    return (houses, lanes, tuple(tables))


def random_nets(seed, many):
    chance = random.Random(seed)
    return [random_net(chance) for _ in range(many)] + [random_net(chance, 6, 16), random_net(chance, 6, 0)]


def small_nets(seed, many, houses=4, lanes=5, room=2):
    """Nets with few lanes and rooms, so many; of each sort of tables, sparse and full ones, some."""
    chance = random.Random(seed)
    found = []
    for _ in range(many):
        houses_now = chance.randint(2, houses)
        ends = [tuple(chance.sample(range(houses_now), 2)) for _ in range(chance.randint(1, lanes))]
        told = tuple((*pair, chance.randint(1, room)) for pair in ends)
        found.append((houses_now, told, some_tables(chance, houses_now, told, chance.choice((0.5, 0.8, 1)))))
    return found


def some_tables(chance, houses, lanes, part, least=0):
    """Tables in which lanes stand by this chance, but few are empty where a lane starts: so few lanes are dead ends.

    With least being 1 none is empty there.
    """
    tables = []
    for u in range(houses):
        starting = [k for k in range(len(lanes)) if lanes[k][0] == u]
        entries = []
        for d in range(houses):
            entry = [k for k in starting if chance.random() < part] or starting[:chance.randint(least, 5)]
            entries.append(() if d == u else tuple(entry))
        tables.append(tuple(entries))
    return tuple(tables)


def great_nets(seed, many):
    """Nets of six houses and sixteen lanes, so many; each other one has no dead ends."""
    chance = random.Random(seed)
    found = []
    for k in range(many):
        ends = [(u, (u + 1) % 6) for u in range(6)] + [tuple(chance.sample(range(6), 2)) for _ in range(10)]
        lanes = tuple((*pair, chance.randint(1, 4)) for pair in chance.sample(ends, 16))
        found.append((6, lanes, some_tables(chance, 6, lanes, chance.choice((0, 0.3, 0.6)), k % 2)))
    return found


def downhill_net(chance, houses=None, many=None):
    """A net whose lanes all lead to greater houses, each table told so that letters come home: it settles."""
    houses = chance.randint(2, 6) if houses is None else houses
    many = chance.randint(1, 16) if many is None else many
    lanes = tuple((*sorted(chance.sample(range(houses), 2)), chance.randint(1, 2)) for _ in range(many))
    led = {(u, u) for u in range(houses)}
    for u in reversed(range(houses)):
        led |= {(u, d) for start, end, _ in lanes for d in range(houses) if start == u and (end, d) in led}
    tables = tuple(
        tuple(tuple(k for k, lane in enumerate(lanes) if lane[0] == u and (lane[1], d) in led) for d in range(houses))
        for u in range(houses)
    )
    return (houses, lanes, tables)


def led_net(chance, houses=None, many=None, room=3):
    """A net in which all houses stand in a ring, and each table has one lane, by which letters come home."""
    houses = chance.randint(2, 6) if houses is None else houses
    many = chance.randint(houses, 16) if many is None else many
    ring = chance.sample(range(houses), houses)
    ends = [(ring[k - 1], ring[k]) for k in range(houses)]
    ends += [tuple(chance.sample(range(houses), 2)) for _ in range(many - houses)]
    lanes = tuple((*pair, chance.randint(1, room)) for pair in chance.sample(ends, many))
    return (houses, lanes, led_tables(chance, houses, lanes))


def led_tables(chance, houses, lanes):
    """Tables of one lane at most, by which letters come home from wherever lanes lead there."""
    tables = [[()] * houses for _ in range(houses)]
    for d in range(houses):
        near = {d}
        while True:
            nearing = [k for k, (start, end, _) in enumerate(lanes) if end in near and start not in near]
            if not nearing:
                break
            lane = chance.choice(nearing)
            tables[lanes[lane][0]][d] = (lane,)
            near.add(lanes[lane][0])
    return tuple(tuple(table) for table in tables)


def led_nets(seed, many, houses=None, lanes=None):
    chance = random.Random(seed)
    return [led_net(chance, houses, lanes) for _ in range(many)]


def net_with_entry(net, house, aim, entry):
    """The net with another entry in its tables."""
    table = net[2][house][:aim] + (entry,) + net[2][house][aim + 1:]
    return (*net[:2], net[2][:house] + (table,) + net[2][house + 1:])


def grown_net(chance, houses=6, many=16):
    """A free net: choices are added to empty tables in any order, each if the net stays free with it."""
    lanes = tuple((*chance.sample(range(houses), 2), chance.randint(1, 4)) for _ in range(many))
    net = (houses, lanes, (((),) * houses,) * houses)
    choices = [(lane[0], d, k) for k, lane in enumerate(lanes) for d in range(houses) if d != lane[0]]
    # Behind the first going through choices whose lanes lead on to nothing were left out; so they are tried again.
    for u, d, k in chance.sample(choices, len(choices)) + chance.sample(choices, len(choices)):
        more = net_with_entry(net, u, d, tuple(sorted({*net[2][u][d], k})))
        if 0 not in plain_waves(more):
            net = more
    return net


def plain_aims(net, lane):
    """The aims that a lane serves, straight from the tables."""
    return [d for u in range(net[0]) for d in range(net[0]) if net[1][lane][0] == u and lane in net[2][u][d]]


def all_stands(net):
    """Every stand of net."""
    fillings = [
        [row for many in range(room + 1) for row in itertools.product(plain_aims(net, k), repeat=many)]
        for k, (_, _, room) in enumerate(net[1])
    ]
    return list(itertools.product(*fillings))


def random_stand(chance, net):
    """Any stand of net; full lanes are met often."""
    stand = []
    for k, (_, _, room) in enumerate(net[1]):
        served = plain_aims(net, k)
        many = chance.choice((0, room, chance.randint(0, room))) if served else 0
        stand.append(tuple(chance.choice(served) for _ in range(many)))
    return tuple(stand)


def some_stands(net, seed=0):
    """Every stand of a small net, some of a great one."""
    if net in SMALL_NETS and net != HALL:
        return all_stands(net)
    chance = random.Random(seed)
    return [((),) * len(net[1])] + [random_stand(chance, net) for _ in range(40)]


def plain_deeds(net):
    """All deeds of net, ascending."""
    lanes = range(len(net[1]))
    deeds = [("in", lane, aim) for lane in lanes for aim in range(net[0])]
    deeds += [("on", lane, other) for lane in lanes for other in lanes]
    return sorted(deeds + [("out", lane) for lane in lanes])


def plain_done(net, stand, deed):
    """The stand behind a deed of net by B3, None if it can't be done."""
    lying = [list(letters) for letters in stand]
    start, end, room = net[1][deed[1]]
    if deed[0] == "in":
        if deed[1] not in net[2][start][deed[2]] or len(lying[deed[1]]) >= room:
            return None
        lying[deed[1]].append(deed[2])
    else:
        if not lying[deed[1]]:
            return None
        letter = lying[deed[1]].pop(0)
        if deed[0] == "out":
            if letter != end:
                return None
        else:
            if deed[2] not in net[2][end][letter] or len(lying[deed[2]]) >= net[1][deed[2]][2]:
                return None
            lying[deed[2]].append(letter)
    return tuple(tuple(letters) for letters in lying)


def random_walk(chance, net, stand, many):
    """A list of deeds, at most so many, that can be done from stand on one behind another."""
    walk = []
    for _ in range(many):
        going = [deed for deed in plain_deeds(net) if plain_done(net, stand, deed) is not None]
        if not going:
            break
        # Without this the nets fill up, and moves are seldom met.
        others = [deed for deed in going if deed[0] != "in"]
        deed = chance.choice(others if others and chance.random() < 0.6 else going)
        walk.append(deed)
        stand = plain_done(net, stand, deed)
    return walk


def plain_ahead(net, lane, aim):
    return net[2][net[1][lane][1]][aim]


def plain_open(net, lane):
    """The open aims of a lane by C1."""
    return [aim for aim in plain_aims(net, lane) if aim != net[1][lane][1]]


def plain_waves(net):
    """The waves by C1, lane by lane."""
    told = {}
    for wave in range(1, len(net[1]) + 1):
        earlier = set(told)
        for lane in set(range(len(net[1]))) - earlier:
            if all(earlier & set(plain_ahead(net, lane, aim)) for aim in plain_open(net, lane)):
                told[lane] = wave
    return tuple(told.get(lane, 0) for lane in range(len(net[1])))


def plain_lots(net):
    """All lots of a net with few lanes, ascending: for each lane no aim, or any one of its open aims."""
    fits = itertools.product(*[[None] + plain_open(net, lane) for lane in range(len(net[1]))])
    lots = []
    for aims in fits:
        lanes = {lane for lane, aim in enumerate(aims) if aim is not None}
        if lanes and all(set(plain_ahead(net, lane, aims[lane])) <= lanes for lane in lanes):
            lots.append(tuple((lane, aims[lane]) for lane in sorted(lanes)))
    return sorted(lots)


def plain_lot_error(net, value):
    """What lot_error has to tell by C3."""
    if type(value) is not tuple or not value:
        return "form"
    for pair in value:
        if type(pair) is not tuple or len(pair) != 2 or {type(item) for item in pair} != {int}:
            return "form"
    lanes = [lane for lane, _ in value]
    if lanes != sorted(set(lanes)):
        return "form"
    for place, (lane, aim) in enumerate(value):
        if lane not in range(len(net[1])) or aim not in plain_open(net, lane):
            return ("pair", place)
    for place, (lane, aim) in enumerate(value):
        if not set(plain_ahead(net, lane, aim)) <= set(lanes):
            return ("open", place)
    return None


def plain_row_error(net, value):
    """What row_error has to tell by C4."""
    if type(value) is not tuple or any(type(lane) is not int for lane in value):
        return "form"
    if sorted(value) != [lane for lane in range(len(net[1]))]:
        return "form"
    for place, lane in enumerate(value):
        if not all(set(value[:place]) & set(plain_ahead(net, lane, aim)) for aim in plain_open(net, lane)):
            return ("lane", place)
    return None


def exchanged(old, new, houses):
    """The net in which these houses have the tables of new, all others those of old."""
    return (*old[:2], tuple(new[2][u] if u in houses else old[2][u] for u in range(old[0])))


def pairs_of_nets(seed, many, houses=6, lanes=16, part=0.3):
    """Pairs of nets that are unlike in the tables of four houses at most; by this chance some letters don't come home.
    """
    chance = random.Random(seed)
    found = []
    for _ in range(many):
        houses_now = chance.randint(2, houses)
        old = led_net(chance, houses_now, chance.randint(min(houses_now + 1, lanes), lanes))
        spoilt = chance.random() < part
        tables = some_tables(chance, houses_now, old[1], 0.4, 1) if spoilt else led_tables(chance, houses_now, old[1])
        among = chance.sample(range(houses_now), min(houses_now, chance.randint(1, 4)))
        new = exchanged(old, (houses_now, old[1], tables), among)
        found.append((new, old) if chance.random() < 0.5 else (old, new))
    return found


def great_pairs(seed, many):
    """Pairs of nets of six houses and sixteen lanes, four houses changed; tables by which letters come home and others.
    """
    chance = random.Random(seed)
    found = []
    for k in range(many):
        old = led_net(chance, 6, 16)
        new = old
        while len(plain_changed(old, new)) != 4:
            tables = led_tables(chance, 6, old[1]) if k % 3 else some_tables(chance, 6, old[1], 0.5, 1)
            new = exchanged(old, (6, old[1], tables), chance.sample(range(6), 4))
        found.append((old, new))
    return found


def plain_changed(old, new):
    return tuple(u for u in range(old[0]) if repr(old[2][u]) != repr(new[2][u]))


def all_stages(old, new):
    """All stages of a pair of nets."""
    found = []
    for parts in itertools.product(range(3), repeat=len(plain_changed(old, new))):
        told = list(zip(plain_changed(old, new), parts))
        found.append((tuple(u for u, part in told if part == 2), tuple(u for u, part in told if part > 0)))
    return found


def plain_stage_open(old, new, before, now, lane):
    """The aims that the lane serves by the stage, without its end, by J2."""
    start, end, _ = old[1][lane]
    tables = [new] if start in before else [old, new] if start in now else [old]
    return sorted({d for net in tables for d in range(net[0]) if lane in net[2][start][d]} - {end})


def plain_stage_lots(old, new, before, now):
    """All lots of a stage of nets with few lanes, ascending."""
    fits = [[None] + plain_stage_open(old, new, before, now, lane) for lane in range(len(old[1]))]
    tables = exchanged(old, new, now)
    lots = []
    for aims in itertools.product(*fits):
        lanes = {lane for lane, aim in enumerate(aims) if aim is not None}
        if lanes and all(set(plain_ahead(tables, lane, aims[lane])) <= lanes for lane in lanes):
            lots.append(tuple((lane, aims[lane]) for lane in sorted(lanes)))
    return sorted(lots)


def plain_stage_lot(old, new, before, now):
    """What stage_lot has to return: what is left of all lanes once those that are in no lot are taken away."""
    tables, lanes = exchanged(old, new, now), set(range(len(old[1])))
    while True:
        held = {
            lane: [
                aim for aim in plain_stage_open(old, new, before, now, lane)
                if set(plain_ahead(tables, lane, aim)) <= lanes
            ]
            for lane in lanes
        }
        if all(held.values()):
            return tuple((lane, held[lane][0]) for lane in sorted(lanes))
        lanes = {lane for lane in lanes if held[lane]}


DESK = (2, ((0, 1, 1), (1, 0, 1)), (((), (0,)), ((1,), ())))
FOUR_LANES = ((0, 1, 1), (1, 0, 1), (0, 1, 1), (1, 0, 1))
THERE = (2, FOUR_LANES, (((), (0,)), ((1,), ())))
HOME_AGAIN = (2, FOUR_LANES, (((), (2,)), ((3,), ())))
MUTE = (2, FOUR_LANES, (((), ()), ((), ())))


def ask_pairs(seed, many, houses=6, lanes=16, room=3):
    """Asks and answers on the same lanes, so many pairs; in some of them no lane serves both."""
    chance = random.Random(seed)
    found = []
    for k in range(many):
        houses_now = chance.randint(2, houses)
        net = led_net(chance, houses_now, chance.randint(houses_now, max(houses_now, lanes)), room)
        lanes_now = range(len(net[1]))
        # Lanes of asks, and lanes of answers: all of them, or parted.
        parting = [chance.random() < 0.5 if k % 2 else None for _ in lanes_now]
        both = []
        for part in (True, False):
            hidden = [lane for lane in lanes_now if parting[lane] is (not part)]
            ends = [(0, 0, 1) if lane in hidden else net[1][lane] for lane in lanes_now]
            tables = led_tables(chance, houses_now, ends)
            if chance.random() < 0.3:
                tables = some_tables(chance, houses_now, ends, 0.4, chance.randint(0, 1))
                # What is hidden seems to go round at the house 0.
                tables = tuple(tuple(tuple(i for i in entry if i not in hidden) for entry in table) for table in tables)
            both.append((*net[:2], tables))
        found.append(tuple(both))
    return found


def plain_letters(net):
    """All letters of asks and answers, ascending."""
    houses = range(net[0])
    return [("answer", aim) for aim in houses] + [("ask", aim, back) for aim in houses for back in houses]


def plain_serves_letter(asks, answers, lane, letter):
    net = {"ask": asks, "answer": answers}[letter[0]]
    return lane in net[2][net[1][lane][0]][letter[1]]


def plain_ask_ahead(asks, answers, lane, letter):
    """The lanes ahead of a letter by K1; None if it is home."""
    end = asks[1][lane][1]
    if letter in (("ask", end, end), ("answer", end)):
        return None
    if letter[0] == "ask" and letter[1] != end:
        return asks[2][end][letter[1]]
    return answers[2][end][letter[2] if letter[0] == "ask" else letter[1]]


def plain_ask_deeds(asks):
    """All deeds of asks and answers, ascending."""
    lanes = range(len(asks[1]))
    deeds = [("in", lane, letter) for lane in lanes for letter in plain_letters(asks)]
    deeds += [("on", lane, other) for lane in lanes for other in lanes]
    return sorted(deeds + [("out", lane) for lane in lanes])


def plain_ask_done(asks, answers, stand, deed):
    """The stand behind a deed by K2, None if it can't be done."""
    lying = [list(row) for row in stand]
    word, lane, *rest = deed
    _, end, room = asks[1][lane]
    if word == "in":
        if not plain_serves_letter(asks, answers, lane, rest[0]) or len(lying[lane]) >= room:
            return None
        lying[lane].append(rest[0])
    else:
        if not lying[lane]:
            return None
        letter = lying[lane].pop(0)
        ahead = plain_ask_ahead(asks, answers, lane, letter)
        if word == "out":
            if ahead is not None:
                return None
        else:
            other, = rest
            if other not in (ahead or ()) or len(lying[other]) >= asks[1][other][2]:
                return None
            lying[other].append(("answer", letter[2]) if letter[:2] == ("ask", end) else letter)
    return tuple(tuple(row) for row in lying)


def plain_ask_moves(asks, answers, stand):
    moves = [deed for deed in plain_ask_deeds(asks) if deed[0] != "in"]
    return [deed for deed in moves if plain_ask_done(asks, answers, stand, deed) is not None]


def random_ask_stand(chance, asks, answers):
    """Any stand of both; full lanes are met often."""
    stand = []
    for k, (_, _, room) in enumerate(asks[1]):
        served = [letter for letter in plain_letters(asks) if plain_serves_letter(asks, answers, k, letter)]
        many = chance.choice((0, room, chance.randint(0, room))) if served else 0
        stand.append(tuple(chance.choice(served) for _ in range(many)))
    return tuple(stand)


def letters(stand):
    """How many letters lie in the stand."""
    return sum(len(lane) for lane in stand)


def plain_moves(net, stand):
    """The moves that can be done in stand, each with the stand behind it."""
    tried = [(deed, plain_done(net, stand, deed)) for deed in plain_deeds(net) if deed[0] != "in"]
    return [(deed, behind) for deed, behind in tried if behind is not None]


def plain_stuck(net, stand):
    return letters(stand) > 0 and not plain_moves(net, stand)


def plain_ways(net, house, aim, most=20):
    """All ways of the aim from the house by E1, of at most so many lanes."""
    found = [()] if house == aim else []
    rows = [(lane,) for lane in net[2][house][aim]] if most else []
    while rows:
        row = rows.pop()
        if net[1][row[-1]][1] == aim:
            found.append(row)
        elif len(row) < most:
            rows += [row + (lane,) for lane in plain_ahead(net, row[-1], aim)]
    return found


def plain_has_ring(net, aim):
    """Whether from some lane one comes back to it by lanes ahead."""
    lanes = range(len(net[1]))
    met = {(k, other) for k in lanes for other in plain_ahead(net, k, aim)}
    for middle, one, two in itertools.product(lanes, repeat=3):
        if (one, middle) in met and (middle, two) in met:
            met.add((one, two))
    return any((k, k) in met for k in lanes)


NUMBER = "(0|[1-9][0-9]*)"


def plain_read_net(text):
    """The net of which text is the text by A8, None if there is none; line by line, by patterns."""
    lines = text.split("\n")
    head = re.fullmatch(f"houses {NUMBER}", lines[0])
    if not head or len(head[1]) > 1 or not 1 <= int(head[1]) <= 6:
        return None
    houses, lanes, entries, last = int(head[1]), [], {}, (-1, -1)
    for line in lines[1:]:
        lane = re.fullmatch(f"lane {NUMBER} {NUMBER} {NUMBER}", line)
        way = re.fullmatch(f"way {NUMBER} {NUMBER}:((?: {NUMBER})+)", line)
        if lane and not entries:
            if max(map(len, lane.groups())) > 1:
                return None
            lanes.append(tuple(map(int, lane.groups())))
        elif way:
            words = [way[1], way[2]] + way[3].split()
            if max(map(len, words)) > 2:
                return None
            at, entry = (int(way[1]), int(way[2])), [int(word) for word in words[2:]]
            if at <= last or max(at) >= houses or at[0] == at[1] or entry != sorted(set(entry)):
                return None
            if max(entry) >= len(lanes) or any(lanes[k][0] != at[0] for k in entry):
                return None
            entries[at] = tuple(entry)
            last = at
        else:
            return None
    if len(lanes) > 16 or any(s == e or max(s, e) >= houses or not 1 <= room <= 4 for s, e, room in lanes):
        return None
    tables = tuple(tuple(entries.get((u, d), ()) for d in range(houses)) for u in range(houses))
    return (houses, tuple(lanes), tables)


def plain_read_deeds(text):
    """The deeds of which text is the text by B6, None if there are none; by patterns."""
    if text == "none":
        return ()
    lane, aim = "(?:[0-9]|1[0-5])", "[0-5]"
    one = f"(?:in {lane} {aim}|on {lane} {lane}|out {lane})"
    if not re.fullmatch(f"{one}(?:; {one})*", text):
        return None
    deeds = [part.split(" ") for part in text.split("; ")]
    if len(deeds) > 400:
        return None
    return tuple((deed[0], *map(int, deed[1:])) for deed in deeds)


def spoiled(text, signs):
    """Texts near to text: a sign or a line left out, put in, doubled, or in another place."""
    for i in range(len(text) + 1):
        yield from (text[:i] + sign + text[i:] for sign in signs)
        yield text[:i] + text[i + 1:]
        yield text[:i] + text[i:i + 1] + text[i:]
        yield from (text[:i] + sign + text[i + 1:] for sign in signs)
    lines = text.split("\n")
    for i in range(len(lines)):
        yield "\n".join(lines[:i] + lines[i + 1:])
        yield "\n".join(lines[:i] + [lines[i]] + lines[i:])
        for k in range(i):
            yield "\n".join(lines[:k] + [lines[i]] + lines[k + 1:i] + [lines[k]] + lines[i + 1:])


def outcome(function, places, names):
    """What a call comes to: ("returned", result), or ("raised", the class of the error, its fields)."""
    try:
        return ("returned", function(*places, **names))
    except RoomError as error:
        return ("raised", type(error), vars(error))


def asked(function, *given):
    """What a call comes to; by place, by name and once more it must be the same, and what is given stays as it is.

    Results are compared as they are shown, since True is not 1, nor a list a tuple.
    """
    before = repr(given)
    by_place = outcome(function, given, {})
    shown = repr(by_place)
    by_name = outcome(function, (), dict(zip(inspect.signature(function).parameters, given)))
    assert repr(by_name) == shown, (function, given, by_place, by_name)
    assert repr(outcome(function, given, {})) == shown, (function, given, by_place)
    assert repr(by_place) == shown, (function, given, by_place)
    assert repr(given) == before, (function, given, before)
    return by_place


def result(function, *given):
    """What the function returns, asked as above."""
    word, *told = asked(function, *given)
    assert word == "returned", (function, given, told)
    return told[0]


def steady(calls):
    """Whether calls, pairs of a function and its arguments, come to the same again in another order."""
    first = [repr(outcome(function, given, {})) for function, given in calls]
    again = [repr(outcome(function, given, {})) for function, given in reversed(calls)]
    return first == again[::-1]


def in_time(function, *given):
    """What the function returns, or raises, if that takes few seconds."""
    begun = time.monotonic()
    told = outcome(function, given, {})
    assert time.monotonic() - begun < 5, (function, given)
    return told


def fields(kind, function, *given):
    """The fields of the error of this very class that the function raises, asked as above."""
    word, *told = asked(function, *given)
    assert (word, told[0]) == ("raised", kind), (function, given, word, told)
    return told[1]
