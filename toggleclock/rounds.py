"""The rounds in which a turn comes back."""


def round_of(turn, one):
    circle = [one]
    following = turn.done(one)
    while following != one:
        circle.append(following)
        following = turn.done(following)
    return circle


def all_rounds(turn, ones):
    found = []
    gone_through = {}
    for one in ones:
        if one not in gone_through:
            circle = round_of(turn, one)
            found.append(circle)
            for other in circle:
                gone_through[other] = True
    return found


def lengths(rounds):
    counts = {}
    for circle in rounds:
        counts[len(circle)] = counts.get(len(circle), 0) + 1
    return counts
