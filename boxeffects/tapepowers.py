"""Tape powers: what doing a form of a tape up to 10 ** 30 times does, without writing it out.

Forms here are not None. Each time the places of the form lie s further on. So the places of which each one comes to
lie upon the next one are a *chain*: they are counted by strides of s, and what the first time touches at a stride, the
time with number k touches k strides further on.
"""

from boxeffects.boxes import told_tape
from boxeffects.checks import need_size
from boxeffects.kinds import under_head
from boxeffects.places import are_apart, known_of
from boxeffects.tapes import tape_bears


def stride_of(form):
    """Return the length of a stride."""
    # A head that stays has no strides; where it is done but once, any length does.
    return form[0] or 1


def chains_of(form):
    """Return the dict from what is left of places behind whole strides to their chain.

    A chain is the list of triples (stride, expected letter or None, known letter), strides ascending.
    """
    _, expected, written = form
    wanted = dict(expected)
    chains = {}
    for place, letter in known_of(expected, written).items():
        stride, offset = divmod(place, stride_of(form))
        chains.setdefault(offset, []).append((stride, wanted.get(place), letter))
    return {offset: sorted(chains[offset]) for offset in chains}


def index_from(chain, stride):
    """Return the least index in the chain of a stride that is not below this one."""
    low = 0
    high = len(chain)
    while low < high:
        middle = (low + high) // 2
        if chain[middle][0] < stride:
            low = middle + 1
        else:
            high = middle
    return low


def clashes_at(chain):
    """Return the list of the numbers of those times at which what is expected is not what was left there."""
    clashes = []
    for near, far in zip(chain, chain[1:]):
        if near[1] is not None and near[1] != far[2]:
            clashes.append(far[0] - near[0])
    return clashes


def tape_nowhere_from(form):
    """Return the least number of times that is nowhere, None if there is none."""
    s, expected, written = form
    if s == 0:
        return None if are_apart(expected, written) else 2
    clashes = []
    for chain in chains_of(form).values():
        clashes.extend(clashes_at(chain))
    return min(clashes) + 1 if clashes else None


def ranges_from(chain, times):
    """Return the list of how many strides, from each one of the chain on, it is the first to touch."""
    gaps = [min(far[0] - near[0], times) for near, far in zip(chain, chain[1:])]
    return gaps + [times]


def ranges_to(chain, times):
    """Return the list of the pairs (begin, end): of the strides from begin up to end each one is the last to touch."""
    begins = [chain[0][0]] + [max(near[0] + times, far[0]) for near, far in zip(chain, chain[1:])]
    return [(begin, link[0] + times) for begin, link in zip(begins, chain)]


def need_power_size(chains, times):
    """Raise TooMany if the power expects, or writes without expecting, more letters than let."""
    asked = written = 0
    for chain in chains.values():
        for link, many in zip(chain, ranges_from(chain, times)):
            if link[1] is None:
                written += many
            else:
                asked += many
    need_size(max(asked, written))


def tape_power(form, times):
    """Return the power of a form that is not nowhere so many times."""
    s = form[0]
    if s == 0 or times == 1:
        return form
    chains = chains_of(form)
    # Ahead of writing out what may be far too long.
    need_power_size(chains, times)
    first = {}
    last = {}
    for offset, chain in chains.items():
        for link, many in zip(chain, ranges_from(chain, times)):
            if link[1] is not None:
                for stride in range(link[0], link[0] + many):
                    first[stride * s + offset] = link[1]
        for link, (begin, end) in zip(chain, ranges_to(chain, times)):
            for stride in range(begin, end):
                last[stride * s + offset] = link[2]
    return told_power(s * times, first, last)


def told_power(shift, first, last):
    """Return the form that expects the first letters and leaves the last ones."""
    written = [(place, last[place]) for place in last if first.get(place) != last[place]]
    need_size(len(written))
    return shift, tuple(sorted(first.items())), tuple(sorted(written))


def lines_of(form, pairs):
    """Return the dict from what is left of places behind whole strides to the pairs' strides, ascending."""
    lines = {}
    for place, _ in pairs:
        stride, offset = divmod(place, stride_of(form))
        lines.setdefault(offset, []).append((stride,))
    return {offset: sorted(lines[offset]) for offset in lines}


def other_from(line, begin, end):
    """Return in a list how far from begin on another letter than the rest lies, if ahead of end (None: no end)."""
    index = index_from(line, begin)
    if index == len(line) or (end is not None and line[index][0] >= end):
        return []
    return [line[index][0] - begin]


def lacking_from(form, offset, link, end, letters):
    """Return in a list how far on the expected letter, which is not the rest, does not lie, if ahead of end."""
    stride = link[0]
    while end is None or stride < end:
        if letters.get(stride * form[0] + offset) != link[1]:
            return [stride - link[0]]
        stride += 1
    return []


def fails_of(form, contents):
    """Return numbers of times at which the form, its head moving on, fails; the least one is among them."""
    pairs, rest = contents
    letters = dict(pairs)
    lines = lines_of(form, pairs)
    fails = []
    for offset, chain in chains_of(form).items():
        fails.extend(clashes_at(chain))
        # Up to the next one of the chain it is the first to touch, so there the contents' letters lie.
        ends = [link[0] for link in chain[1:]] + [None]
        for link, end in zip(chain, ends):
            if link[1] == rest:
                fails.extend(other_from(lines.get(offset, []), link[0], end))
            elif link[1] is not None:
                fails.extend(lacking_from(form, offset, link, end, letters))
    return fails


def tape_lasts(form, contents):
    """Return how many times the form can be done on the contents, None if for ever."""
    if not tape_bears(form, contents):
        return 0
    if form[0] == 0:
        return None if tape_nowhere_from(form) is None else 1
    return min(fails_of(form, contents), default=None)


def times_met(form, times):
    """Return how many times the places of the form come to lie elsewhere, the first time too."""
    return times if form[0] else 1


def letter_met(form, chains, times, place):
    """Return the letter that is known at a place, seen from the head ahead; None if it is not touched."""
    stride, offset = divmod(place, stride_of(form))
    chain = chains.get(offset, [])
    # The last time that touches the place is that of the least stride that comes to lie there.
    index = index_from(chain, stride - times_met(form, times) + 1)
    if index == len(chain) or chain[index][0] > stride:
        return None
    return chain[index][2]


def tape_letter(form, times, contents, place):
    """Return the letter at a place, seen from the head behind, where the power works."""
    ahead = place + form[0] * times
    letter = letter_met(form, chains_of(form), times, ahead)
    return under_head(contents, ahead) if letter is None else letter


def tape_behind(form, times, contents):
    """Return what is left, where the power works."""
    pairs, rest = contents
    chains = chains_of(form)
    letters = {place: letter for place, letter in pairs if letter_met(form, chains, times, place) is None}
    laid = []
    for offset, chain in chains.items():
        for link, (begin, end) in zip(chain, ranges_to(chain, times_met(form, times))):
            # Where the rest lies there is no pair, so these may be as many as they like.
            if link[2] != rest:
                laid.append((offset, link[2], begin, end))
    need_size(len(letters) + sum([end - begin for _, _, begin, end in laid]))
    for offset, letter, begin, end in laid:
        for stride in range(begin, end):
            letters[stride * stride_of(form) + offset] = letter
    shift = form[0] * times
    return told_tape({place - shift: letters[place] for place in letters}, rest)
