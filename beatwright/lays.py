"""Lays: terms laid into a net of gates. Bits are told by the places of their rows, the lowest first."""

from beatwright.terms import held_terms
from beatwright.words import bits_of


def lay(net, T, early, late, doors):
    form = T[0]
    if form == "num":
        # Rows 0 and 1 settle as 0 and 1, so that these bits are their own places.
        return bits_of(T[1], T[2])
    if form == "box":
        return list(early[T[1]])
    if form == "late":
        return list(late[T[1]])
    if form == "door":
        return list(doors[T[1]])
    return laid_over(net, T, [lay(net, inner, early, late, doors) for inner in held_terms(T)])


# A term that holds others, by the places of their bits.
def laid_over(net, term, held):
    form = term[0]
    if form == "not":
        return inverted(net, held[0])
    if form == "part":
        return held[0][term[2]:term[2] + term[3]]
    if form == "pick":
        return picked(net, held[0][0], held[1], held[2])
    if form == "join":
        return held[1] + held[0]
    return laid_of_two(net, form, held[0], held[1])


# The forms of two terms of one width.
def laid_of_two(net, form, bits, others):
    if form == "plus":
        return added(net, bits, others, 0)
    if form == "minus":
        return added(net, bits, inverted(net, others), 1)
    if form == "less":
        return [invert(net, carries(net, bits, inverted(net, others), 1)[-1])]
    if form == "same":
        return [none_of(net, [net.differ(bit, other) for bit, other in zip(bits, others)])]
    if form == "and":
        return [net.both(bit, other) for bit, other in zip(bits, others)]
    if form == "xor":
        return [net.differ(bit, other) for bit, other in zip(bits, others)]
    return [net.differ(net.differ(bit, other), net.both(bit, other)) for bit, other in zip(bits, others)]


def invert(net, place):
    return net.differ(1, place)


def inverted(net, places):
    return [invert(net, place) for place in places]


# Settles as 1 where none of these does.
def none_of(net, places):
    free = 1
    for place in places:
        free = net.both(free, invert(net, place))
    return free


# The bits where the choice is 1, the others where it is 0.
def picked(net, choice, bits, others):
    return [net.differ(other, net.both(choice, net.differ(bit, other))) for bit, other in zip(bits, others)]


# What is carried out above the highest bit is left, so no gates are laid for it.
def added(net, bits, others, carry):
    come = carries(net, bits[:-1], others[:-1], carry)
    return [net.differ(net.differ(bit, other), add) for bit, other, add in zip(bits, others, come)]


# What is carried into each place, and last what is carried out above the highest one. The next carry is unlike a bit
# only where the other bit and the carry both are.
def carries(net, bits, others, carry):
    come = [carry]
    for bit, other in zip(bits, others):
        unlike = net.both(net.differ(bit, other), net.differ(bit, come[-1]))
        come.append(net.differ(bit, unlike))
    return come
