"""Flips of the edges of closed surfaces."""

from shapeholes.complexes import Complex, vertices_of
from shapeholes.errors import NotFlip
from shapeholes.roads import road_between
from shapeholes.skins import skin_of
from shapeholes.surfaces import check_surface, kind


def flips(shape):
    check_surface(shape)
    skin = skin_of(shape)
    return sorted([edge for edge in skin.tips if skin.can_flip(edge)])


def flipped(shape, edge):
    check_surface(shape)
    skin = skin_of(shape)
    # Only a simplex of the complex may be looked up: another value may not be a key at all.
    if edge not in shape or edge not in skin.tips or not skin.can_flip(edge):
        raise NotFlip("an edge whose tips are not connected by an edge is needed")
    skin.flip(edge)
    return Complex(tuple(skin.triangles()))


def flip_road(one, other):
    check_surface(one)
    check_surface(other)
    if kind(one) != kind(other) or len(vertices_of(one)) != len(vertices_of(other)):
        return None
    return road_between(one, other)
