"""Treetrain: a train that creeps on a railway without rings."""
