"""Section 12 word by word: fair histories, their pairs, and what is wrong with a pairing."""

from rightstate.kinds import after, allowed


def words_of(kind, states, method):
    return {word for state in states for word, _ in kind[state, method] or ()}


def behind(kind, states, method, word):
    return tuple(sorted({one for state in states for told, one in kind[state, method] or () if told == word}))


def free(kind, states):
    """The methods that are barred in none of the states."""
    return [method for method in kind.methods() if all((state, method) in kind for state in states)]


def why_bad(one, other, pair):
    states, others = pair
    for method in free(one, states):
        if not all((state, method) in other for state in others):
            return ("barred", method)
    for method in free(one, states):
        for word in sorted(words_of(other, others, method)):
            if word not in words_of(one, states, method):
                return ("word", method, word)
    if set(states) <= set(one.ends) and not set(others) <= set(other.ends):
        return ("dropped",)
    return None


def fair_pairs(one, other, most=5000):
    """The dict from the pairs of all fair histories to the first of the shortest histories to them."""
    first = ((one.start,), (other.start,))
    found, line = {first: ()}, [()]
    while line:
        longer = []
        for history in line:
            for method in allowed(one, history):
                for word in sorted(words_of(one, after(one, history), method)):
                    more = history + ((method, word),)
                    pair = (tuple(after(one, more)), tuple(after(other, more)))
                    if pair[1] and pair not in found and len(found) <= most:
                        found[pair] = more
                        longer.append(more)
        line = longer
    return found


def parts(one, other):
    """What parted tells."""
    found = [(len(history), history, why_bad(one, other, pair)) for pair, history in fair_pairs(one, other).items()
             if why_bad(one, other, pair) is not None]
    if not found:
        return None
    _, history, why = min(found)
    return history, why


def fault(one, other, pairs):
    """What pairing_fault tells of a row of pairs of rows of texts."""
    told = []
    for index, pair in enumerate(pairs):
        for kind, states in zip((one, other), pair):
            if list(states) != sorted(set(states)) or not set(states) <= set(kind.states()) or len(states) == 0:
                return ("pairs", index)
        told.append(tuple(tuple(states) for states in pair))
    if ((one.start,), (other.start,)) not in told:
        return ("begin",)
    for index, pair in enumerate(told):
        why = why_bad(one, other, pair)
        if why is not None:
            return (why[0], index) + why[1:]
        for method in free(one, pair[0]):
            for word in sorted(words_of(one, pair[0], method) & words_of(other, pair[1], method)):
                if (behind(one, pair[0], method, word), behind(other, pair[1], method, word)) not in told:
                    return ("step", index, method, word)
    return None


def names():
    letters = "abcdefghijklmnopqrstuvwxyz"
    return list(letters) + [a + b for a in letters for b in letters]


def common_parts(one, other):
    """(start, ends, moves) of the common kind, however great."""
    first = ((one.start,), (other.start,))
    named, line = {first: "a"}, [first]
    moves, ends = {}, []
    for pair in line:
        states, others = pair
        if set(states) <= set(one.ends) and set(others) <= set(other.ends):
            ends.append(named[pair])
        for method in sorted(set(one.methods() + other.methods())):
            if all((state, method) in one for state in states) and all((state, method) in other for state in others):
                row = moves[named[pair], method] = []
                for word in sorted(words_of(one, states, method) | words_of(other, others, method)):
                    to = (behind(one, states, method, word), behind(other, others, method, word))
                    if to not in named:
                        named[to] = names()[len(named)]
                        line.append(to)
                    row.append((word, named[to]))
    return "a", ends, moves
