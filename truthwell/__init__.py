"""Truthwell: asking somebody who may lie, by a rule."""
