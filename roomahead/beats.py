"""Beat by beat: an engine that leads letters through a net by one of two rules.

Ahead of and behind each beat there is a pair: for each lane the tuple of the numbers of the letters that lie there, and
the tuple of the numbers of those that are due and wait.
"""

from roomahead.bounds import MAX_BEATS
from roomahead.errors import TooMany
from roomahead.stands import empty


def homecomings(net, traffic, rule):
    """Return the tuple with for each letter the beat in which it is taken out, None if it never is.

    TooMany(MAX_BEATS) is raised if that is not known by the end of beat MAX_BEATS.
    """
    homes = [None] * len(traffic)
    last = max([told for told, house, aim in traffic], default=0)
    state = _beginning(net)
    met = set()
    for beat in range(MAX_BEATS + 1):
        due = _due(traffic, beat)
        behind = _behind_beat(net, traffic, rule, state, due)
        under_way = _under_way(behind)
        for letter in _under_way(state) + due:
            if letter not in under_way:
                homes[letter] = beat
        # Once no more letters become due, a state that comes again comes again and again.
        if None not in homes or behind in met:
            return tuple(homes)
        if beat >= last:
            met.add(behind)
        state = behind
    raise TooMany(MAX_BEATS)


def state_at(net, traffic, rule, beat):
    """Return the tuple with for each lane the tuple of the numbers of the letters that lie there behind this beat."""
    state = _beginning(net)
    for number in range(beat + 1):
        state = _behind_beat(net, traffic, rule, state, _due(traffic, number))
    return state[0]


def _beginning(net):
    return (empty(net), ())


def _due(traffic, beat):
    """Return the tuple of the numbers of the letters that become due at this beat."""
    return tuple([letter for letter, (told, house, aim) in enumerate(traffic) if told == beat])


def _under_way(state):
    """Return the tuple of the numbers of the letters that lie in some lane or wait."""
    lying, waiting = state
    return tuple([letter for letters in lying for letter in letters]) + waiting


def _behind_beat(net, traffic, rule, state, due):
    """Return the pair behind a beat at which these letters become due."""
    before, waiting = state
    lying = [list(letters) for letters in before]
    for lane in _lanes_in_order(before, rule):
        _move_first(net, traffic, lying, lane)
    left = []
    for letter in waiting + due:
        _, house, aim = traffic[letter]
        if not _lay(net, lying, net[2][house][aim], letter):
            left.append(letter)
    return (tuple([tuple(letters) for letters in lying]), tuple(left))


def _lanes_in_order(lying, rule):
    """Return the list of the lanes that hold letters, in the order in which they are gone through."""
    firsts = [(letters[0], lane) for lane, letters in enumerate(lying) if len(letters) > 0]
    if rule == "eldest":
        firsts = sorted(firsts)
    return [lane for letter, lane in firsts]


def _move_first(net, traffic, lying, lane):
    """Take the first letter of the lane out if it is home; otherwise let it go on if there is room, changing lying."""
    letter = lying[lane][0]
    end, aim = net[1][lane][1], traffic[letter][2]
    if end == aim or _lay(net, lying, net[2][end][aim], letter):
        lying[lane].pop(0)


def _lay(net, lying, lanes, letter):
    """Lay the letter into the first of these lanes that has room, changing lying; return whether there is one."""
    for lane in lanes:
        if len(lying[lane]) < net[1][lane][2]:
            lying[lane].append(letter)
            return True
    return False
