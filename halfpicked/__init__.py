"""Halfpicked: half-way answers of covering webs."""
