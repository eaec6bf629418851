"""Two tables paired: shares of the one laid upon shares of the other, or a set of answers that can't be."""

from pairedthrows.fractions import added, common_divisor, less, lowest, times
from pairedthrows.tables import are_rising, come_to


def grouped(pairs):
    groups = {}
    for key, partner in pairs:
        groups.setdefault(key, []).append(partner)
    return groups


# What is laid so far upon each pair, and what is left of each answer. All are whole numbers,
# parts of one bottom, so that no step makes them longer.
class Laying:
    def __init__(self, one_left, other_left, pairs):
        self.one_left = one_left
        self.other_left = other_left
        self.partners = grouped(pairs)
        self.givers = grouped([(y, x) for x, y in pairs])
        self.laid = dict([(pair, 0) for pair in pairs])


def common_bottom(fractions):
    bottom = 1
    for fraction in fractions:
        bottom = bottom * fraction[1] // common_divisor(bottom, fraction[1])
    return bottom


def amount_of(fraction, bottom):
    return fraction[0] * (bottom // fraction[1])


def amounts_of(shares, bottom):
    return dict([(answer, amount_of(share, bottom)) for answer, share in shares])


# A place is (side, answer), as both tables may have the same answers. From the one's side it
# goes there by any pair, from the other's side back by pairs that have something laid.
def next_places(laying, place):
    answer = place[1]
    if place[0] == "one":
        return [("other", y) for y in laying.partners.get(answer, [])]
    return [("one", x) for x in laying.givers[answer] if laying.laid[(x, answer)] > 0]


def has_room(laying, place):
    return place[0] == "other" and laying.other_left[place[1]] > 0


# Goes from all answers of the one of which something is left, nearest places first, until one
# has room. Told are the place ahead of each that was reached (None where it began), and the one
# that has room, or None.
def searched(laying):
    queue = [("one", x) for x in laying.one_left if laying.one_left[x] > 0]
    ahead = dict([(place, None) for place in queue])
    done = 0
    while done < len(queue):
        for place in next_places(laying, queue[done]):
            if place not in ahead:
                ahead[place] = queue[done]
                if has_room(laying, place):
                    return (ahead, place)
                queue.append(place)
        done += 1
    return (ahead, None)


def answers_back(ahead, place):
    answers = []
    while place is not None:
        answers.append(place[1])
        place = ahead[place]
    return answers


# The answers go from the one with room back to where the search began: y, x, y, .. x.
def lay_along(laying, answers):
    there = [(answers[k + 1], answers[k]) for k in range(0, len(answers), 2)]
    back = [(answers[k], answers[k + 1]) for k in range(1, len(answers) - 1, 2)]
    left = [laying.one_left[answers[-1]], laying.other_left[answers[0]]]
    amount = min(left + [laying.laid[pair] for pair in back])
    for pair in there:
        laying.laid[pair] += amount
    for pair in back:
        laying.laid[pair] -= amount
    laying.one_left[answers[-1]] -= amount
    laying.other_left[answers[0]] -= amount


# Lays as much as can be laid, and tells the places that the last search reached.
def lay_all(laying):
    search = searched(laying)
    while search[1] is not None:
        lay_along(laying, answers_back(search[0], search[1]))
        search = searched(laying)
    return search[0]


def paired(one, other, pairs, factor, rest):
    limits = [(y, times(factor, share)) for y, share in other]
    bottom = common_bottom([share for answer, share in list(one) + limits] + [rest])
    laying = Laying(amounts_of(one, bottom), amounts_of(limits, bottom), pairs)
    reached = lay_all(laying)
    if sum(laying.one_left.values()) <= amount_of(rest, bottom):
        laid = laying.laid
        return ("paired", dict([(pair, lowest(laid[pair], bottom)) for pair in pairs if laid[pair] > 0]))
    # All that may be paired with those reached is used up, and by them alone: they have more than that.
    return ("broken", tuple([x for x, share in one if ("one", x) in reached]))


def come_to_each(pairing, side):
    totals = {}
    for pair, share in pairing.items():
        totals[pair[side]] = added(totals.get(pair[side], (0, 1)), share)
    return totals


def is_pairing(one, other, pairs, factor, rest, pairing):
    may_be = dict([(pair, True) for pair in pairs])
    if not all([pair in may_be and share[0] > 0 for pair, share in pairing.items()]):
        return False
    given = come_to_each(pairing, 0)
    taken = come_to_each(pairing, 1)
    if any([less(share, given.get(x, (0, 1))) for x, share in one]):
        return False
    if any([less(times(factor, share), taken.get(y, (0, 1))) for y, share in other]):
        return False
    return not less(added(come_to(list(pairing.values())), rest), (1, 1))


def is_breaking(one, other, pairs, factor, rest, answers):
    shares = dict(one)
    # Looked at ahead of their order: answers of unlike sorts have none.
    if not all([x in shares for x in answers]) or not are_rising(answers):
        return False
    chosen = dict([(x, True) for x in answers])
    partners = dict([(y, True) for x, y in pairs if x in chosen])
    share = come_to([shares[x] for x in answers])
    limit = times(factor, come_to([part for y, part in other if y in partners]))
    return less(added(limit, rest), share)


def shows(one, other, pairs, factor, rest, told):
    if told[0] == "paired":
        return is_pairing(one, other, pairs, factor, rest, told[1])
    if told[0] == "broken":
        return is_breaking(one, other, pairs, factor, rest, told[1])
    return False
