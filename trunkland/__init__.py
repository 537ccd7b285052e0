"""Trunkland: a telephone exchange over a network that loses, doubles and delays letters."""
